/- What Barrier, full and kind do. -/
import Derived.Test.YtabddepidhfelaaC3
set_option linter.unusedSimpArgs false
namespace Go.Proofs.Ytabddepidhfelaa
open Go.RowKit
open Go.ChangeMaps (setBlock)

set_option maxHeartbeats 400000 in
theorem barrier_off {w : World} {b : Nat} {F : List Nat} {S : St} (h : DAt w b F S) (hon : S.on = false) :
    Calls Try.prog 18 #[.pointer (some ⟨b, 0, none⟩)] w fun e w' => e = .returned (.int .i64 2) ∧ w = w' := by
  obtain ⟨mn, ms, pv, h, rfl⟩ := h
  obtain ⟨c0, c1, c2, c3, c4, c5, c6, fz⟩ := h.cells
  rw [hon] at c1
  clear h hon
  go_enter Try.func18, Try.ntmps18
  go_wp2
  go_ret
  exact ⟨rfl, rfl⟩

set_option maxHeartbeats 400000 in
theorem barrier_fall {w : World} {b : Nat} {F : List Nat} {S : St} (h : DAt w b F S) (hon : S.on = true) (hf : S.fuse = 0) :
    Calls Try.prog 18 #[.pointer (some ⟨b, 0, none⟩)] w fun e w' => e = .returned (.int .i64 2) ∧ DPost w w' b F S.fallen := by
  have H := Lib.hid (step_zero h hf)
  obtain ⟨mn, ms, pv, h, rfl⟩ := h
  obtain ⟨c0, c1, c2, c3, c4, c5, c6, fz⟩ := h.cells
  rw [hon] at c1
  clear h hon hf c2
  go_enter Try.func18, Try.ntmps18
  go_wp2_with (go_at_call 32; refine H.out.mono ?_; rintro e w' ⟨rfl, hp⟩)
  go_ret
  exact ⟨rfl, hp⟩

theorem DPost.chain {w w1 w2 : World} {b : Nat} {F F1 : List Nat} {S2 : St} (h : Only F w w1) (h1 : ∀ x ∈ F1, x ∈ F ∨ w.heap.size ≤ x) (h2 : DPost w1 w2 b F1 S2) : DPost w w2 b F S2 := DPost.trans h h1 h2

set_option maxHeartbeats 400000 in
theorem barrier_ok {w : World} {b : Nat} {F : List Nat} {S : St} (h : DAt w b F S) (hon : S.on = true) (hf : S.fuse ≠ 0) (hs : S.steps < 1000000000) :
    Calls Try.prog 18 #[.pointer (some ⟨b, 0, none⟩)] w fun e w' => e = .returned (.int .i64 0) ∧ DPost w w' b F S.stepped.settled := by
  have H := Lib.hid (step_ok h hf hs)
  obtain ⟨mn, ms, pv, h, rfl⟩ := h
  obtain ⟨c0, c1, c2, c3, c4, c5, c6, fz⟩ := h.cells
  rw [hon] at c1
  clear h hon hf hs c2 c3
  go_enter Try.func18, Try.ntmps18
  go_wp2_with fail
  refine H.out.mono ?_
  rintro e w1 ⟨rfl, F1, d1, f1, o1⟩
  go_wp2_with fail
  refine (settle_any d1).mono ?_
  rintro e w2 ⟨rfl, hp⟩
  go_wp2
  go_ret
  exact ⟨rfl, hp.chain o1 f1⟩

def fullA (c : Int) : Array Value := Array.replicate 64 (.int .u8 c)
theorem fullA_ok (c : Int) : SecOk (fullA c) := ⟨by simp [fullA], by rw [Array.all_eq_true_iff_forall_mem]; intro x hx; simp [fullA] at hx; rw [hx]; rfl⟩

def filling (c : Int) (k : Nat) : Array Value := (List.replicate k (Value.int .u8 c) ++ List.replicate (64 - k) (Value.int .u8 0)).toArray
theorem filling_at (c : Int) (k : Nat) (h : k < 64) : (filling c k)[k]? = some (.int .u8 0) := by
  simp only [filling, List.getElem?_toArray]
  rw [List.getElem?_append_right (by simp), List.length_replicate, Nat.sub_self, List.getElem?_replicate, if_pos (by omega)]
theorem filling_step (c : Int) (k : Nat) (h : k < 64) : (filling c k).setIfInBounds k (.int .u8 c) = filling c (k + 1) := by
  simp only [filling, List.setIfInBounds_toArray]
  congr 1
  rw [List.set_append_right _ _ (by simp)]
  obtain ⟨d, hd⟩ : ∃ d, 64 - k = d + 1 := ⟨64 - k - 1, by omega⟩
  rw [hd, show 64 - (k + 1) = d by omega]
  rw [List.length_replicate, Nat.sub_self, List.replicate_succ (n := d), List.set_cons_zero, List.replicate_succ' (n := k), List.append_assoc]
  rfl
theorem filling_end (c : Int) : filling c 64 = fullA c := by simp only [filling, fullA, Nat.sub_self, List.replicate_zero, List.append_nil, List.toArray_replicate]

theorem make64 (w : World) : (Instr.makeSlice 37 (.int .i64 64) (.int .i64 64)).run Try.prog w = .ok (.slice (some ⟨w.heap.size, 0, none⟩) 64 64) (w.alloc (.cells Z 5)) := by kernel_rfl

set_option maxHeartbeats 400000 in
theorem full_any (c : Int) (w : World) : Calls Try.prog 15 #[.int .u8 c] w fun e w' => e = .returned (.slice (some ⟨w.heap.size, 0, none⟩) 64 64) ∧ w' = w.alloc (.cells (fullA c) 5) := by
  have hmk := make64
  go_enter Try.func15, Try.ntmps15
  go_wp2
  go_loopw [4] (fun i wr => ∃ k : Nat, k ≤ 64 ∧ i = .int .i64 k ∧ wr = w.alloc (.cells (filling c k) 5)) (fun i _ => 64 - (intOf i).toNat)
  case atStart => exact ⟨0, by omega, rfl, rfl⟩
  case round =>
    obtain ⟨k, hk, rfl, rfl⟩ := hrel
    by_cases hlt : k < 64
    · have hcell := filling_at c k hlt
      have HS := Lib.hid (filling_step c k hlt)
      go_wp2
      go_roundw
      case rel => exact ⟨k + 1, by omega, by go_num, by rw [← HS.out]⟩
      case measure => simp [intOf]; omega
    · have : k = 64 := by omega
      subst this
      go_wp2
      go_ret
      exact ⟨rfl, by rw [filling_end]⟩

def kindF (c n : Int) : Int := (if c < 0 then -(c + 1) else c) % n
theorem kindF_bd (c n : Int) (h : 0 < n) : 0 ≤ kindF c n ∧ kindF c n < n := ⟨Int.emod_nonneg _ (by omega), Int.emod_lt_of_pos _ h⟩
theorem ret_int {k : IntKind} {a b : Int} (h : a = b) : Ending.returned (.int k a) = .returned (.int k b) := by rw [h]

set_option maxHeartbeats 400000 in
theorem kind_any (c n : Int) (w : World) (h0 : -9223372036854775808 ≤ c) (h1 : c ≤ 9223372036854775807) (hn : 0 < n) (hn1 : n ≤ 100) :
    Calls Try.prog 14 #[.int .i64 c, .int .i64 n] w fun e w' => e = .returned (.int .i64 (kindF c n)) ∧ w = w' := by
  by_cases hc : c < 0
  · have HK : Hid (-(c + 1).tmod n = kindF c n) := by
      show -(c + 1).tmod n = kindF c n
      rw [kindF, if_pos hc, ← Int.neg_tmod, Int.tmod_eq_emod_of_nonneg (by omega)]
    go_enter Try.func14, Try.ntmps14
    go_wp2
    go_ret
    exact ⟨ret_int HK.out, rfl⟩
  · have HK : Hid (c % n = kindF c n) := by
      show c % n = kindF c n
      rw [kindF, if_neg hc]
    go_enter Try.func14, Try.ntmps14
    go_wp2
    go_ret
    exact ⟨ret_int HK.out, rfl⟩

end Go.Proofs.Ytabddepidhfelaa
