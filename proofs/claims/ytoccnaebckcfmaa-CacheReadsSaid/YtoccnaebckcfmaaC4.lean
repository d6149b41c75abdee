/- What Barrier, full and kind do. -/
import Derived.Test.YtoccnaebckcfmaaC3
set_option linter.unusedSimpArgs false
set_option maxRecDepth 8000
namespace Go.Proofs.Ytoccnaebckcfmaa
open Go.RowKit
open Go.ChangeMaps (setBlock)

set_option maxHeartbeats 400000 in
theorem barrier_off {w : World} {b : Nat} {F : List Nat} {S : St} (h : DAt w b F S) (hon : S.on = false) :
    Calls Try.prog 84 #[.pointer (some ⟨b, 0, none⟩)] w fun e w' => e = .returned (.int .i64 2) ∧ w = w' := by
  obtain ⟨mn, ms, pv, h, rfl⟩ := h
  obtain ⟨c0, c1, c2, c3, c4, c5, c6, fz⟩ := h.cells
  rw [hon] at c1
  clear h hon
  go_enter Try.func84, Try.ntmps84
  go_wp2
  go_ret
  exact ⟨rfl, rfl⟩

set_option maxHeartbeats 400000 in
theorem barrier_fall {w : World} {b : Nat} {F : List Nat} {S : St} (h : DAt w b F S) (hon : S.on = true) (hf : S.fuse = 0) :
    Calls Try.prog 84 #[.pointer (some ⟨b, 0, none⟩)] w fun e w' => e = .returned (.int .i64 2) ∧ DPost w w' b F S.fallen := by
  have H := Lib.hid (step_zero h hf)
  obtain ⟨mn, ms, pv, h, rfl⟩ := h
  obtain ⟨c0, c1, c2, c3, c4, c5, c6, fz⟩ := h.cells
  rw [hon] at c1
  clear h hon hf c2
  go_enter Try.func84, Try.ntmps84
  go_wp2_with (go_at_call 91; refine H.out.mono ?_; rintro e w' ⟨rfl, hp⟩)
  go_ret
  exact ⟨rfl, hp⟩

theorem DPost.chain {w w1 w2 : World} {b : Nat} {F F1 : List Nat} {S2 : St} (h : Only F w w1) (h1 : ∀ x ∈ F1, x ∈ F ∨ w.heap.size ≤ x) (h2 : DPost w1 w2 b F1 S2) : DPost w w2 b F S2 := DPost.trans h h1 h2

set_option maxHeartbeats 400000 in
theorem barrier_ok {w : World} {b : Nat} {F : List Nat} {S : St} (h : DAt w b F S) (hon : S.on = true) (hf : S.fuse ≠ 0) (hs : S.steps < 1000000000) :
    Calls Try.prog 84 #[.pointer (some ⟨b, 0, none⟩)] w fun e w' => e = .returned (.int .i64 0) ∧ DPost w w' b F S.stepped.settled := by
  have H := Lib.hid (step_ok h hf hs)
  obtain ⟨mn, ms, pv, h, rfl⟩ := h
  obtain ⟨c0, c1, c2, c3, c4, c5, c6, fz⟩ := h.cells
  rw [hon] at c1
  clear h hon hf hs c2 c3
  go_enter Try.func84, Try.ntmps84
  go_wp2_with fail
  refine H.out.mono ?_
  rintro e w1 ⟨rfl, F1, d1, f1, o1⟩
  go_wp2_with fail
  refine (settle_any d1).mono ?_
  rintro e w2 ⟨rfl, hp⟩
  go_wp2
  go_ret
  exact ⟨rfl, hp.chain o1 f1⟩

def fullA (c : Int) : Array Value := Array.replicate 64 (.int .u8 c)
theorem fullA_ok (c : Int) : SecOk (fullA c) := ⟨by simp [fullA], by rw [Array.all_eq_true_iff_forall_mem]; intro x hx; simp [fullA] at hx; rw [hx]; rfl⟩

def filling (c : Int) (k : Nat) : Array Value := (List.replicate k (Value.int .u8 c) ++ List.replicate (64 - k) (Value.int .u8 0)).toArray
theorem filling_at (c : Int) (k : Nat) (h : k < 64) : (filling c k)[k]? = some (.int .u8 0) := by
  simp only [filling, List.getElem?_toArray]
  rw [List.getElem?_append_right (by simp), List.length_replicate, Nat.sub_self, List.getElem?_replicate, if_pos (by omega)]
theorem filling_step (c : Int) (k : Nat) (h : k < 64) : (filling c k).setIfInBounds k (.int .u8 c) = filling c (k + 1) := by
  simp only [filling, List.setIfInBounds_toArray]
  congr 1
  rw [List.set_append_right _ _ (by simp)]
  obtain ⟨d, hd⟩ : ∃ d, 64 - k = d + 1 := ⟨64 - k - 1, by omega⟩
  rw [hd, show 64 - (k + 1) = d by omega]
  rw [List.length_replicate, Nat.sub_self, List.replicate_succ (n := d), List.set_cons_zero, List.replicate_succ' (n := k), List.append_assoc]
  rfl
theorem filling_end (c : Int) : filling c 64 = fullA c := by simp only [filling, fullA, Nat.sub_self, List.replicate_zero, List.append_nil, List.toArray_replicate]

theorem make64 (w : World) : (Instr.makeSlice 34 (.int .i64 64) (.int .i64 64)).run Try.prog w = .ok (.slice (some ⟨w.heap.size, 0, none⟩) 64 64) (w.alloc (.cells Z 5)) := by kernel_rfl


end Go.Proofs.Ytoccnaebckcfmaa
