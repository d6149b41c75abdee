/- What the disk's small calls do. -/
import Derived.Test.YtoccnaebckcfmaaBase
import Derived.WalkSpells
import Derived.WalkLawsBesides
set_option linter.unusedSimpArgs false
namespace Go.Proofs.Ytoccnaebckcfmaa
open Go.RowKit
open Go.ChangeMaps (setBlock)

def St.reach (S : St) (i : Int) : Int := if S.on = false then 2 else if i < 0 ∨ S.n ≤ i then 10 else 0

set_option maxHeartbeats 400000 in
theorem reach_any {w : World} {b : Nat} {F : List Nat} {S : St} (h : DAt w b F S) (i : Int) :
    Calls Try.prog 65 #[.pointer (some ⟨b, 0, none⟩), .int .i64 i] w fun e w' => e = .returned (.int .i64 (S.reach i)) ∧ w = w' := by
  obtain ⟨mn, ms, pv, h, -⟩ := h
  obtain ⟨c0, c1, c2, c3, c4, c5, c6, fz⟩ := h.cells
  clear h
  obtain ⟨n, on, fu, st, now, sure, pend⟩ := S
  simp only at *
  unfold St.reach
  cases on with
  | false =>
    go_enter Try.func65, Try.ntmps65
    go_wp2
    go_ret
    exact ⟨rfl, rfl⟩
  | true =>
    simp only [Bool.true_eq_false, if_false]
    by_cases h1 : i < 0
    · go_enter Try.func65, Try.ntmps65
      go_wp2
      go_ret
      exact ⟨by simp [h1], rfl⟩
    · by_cases h2 : n ≤ i
      · go_enter Try.func65, Try.ntmps65
        go_wp2
        go_ret
        exact ⟨by simp [h2], rfl⟩
      · go_enter Try.func65, Try.ntmps65
        go_wp2
        go_ret
        exact ⟨by simp [h1, h2], rfl⟩

/-- A step that is done. -/
def St.stepped (S : St) : St := { S with fuse := if 0 < S.fuse then S.fuse - 1 else S.fuse, steps := S.steps + 1 }
/-- The power goes off. -/
def St.fallen (S : St) : St := { S with on := false, fuse := -1 }

theorem StOk.scalar {S S' : St} (h : StOk S) (e0 : S'.n = S.n) (e1 : S'.now = S.now) (e2 : S'.sure = S.sure) (e3 : S'.pend = S.pend) (s0 : 0 ≤ S'.steps) (f1 : S'.fuse ≤ 9223372036854775807) : StOk S' :=
  ⟨by rw [e0]; exact h.n0, by rw [e0]; exact h.n1, s0, f1, by rw [e1]; exact h.now, by rw [e2]; exact h.sure, by rw [e3]; exact h.pend⟩

theorem StOk.stepped {S : St} (h : StOk S) : StOk S.stepped := h.scalar rfl rfl rfl rfl (by have := h.s0; simp only [St.stepped]; omega) (by have := h.f1; simp only [St.stepped]; split <;> omega)
theorem StOk.fallen {S : St} (h : StOk S) : StOk S.fallen := h.scalar rfl rfl rfl rfl h.s0 (by simp [St.fallen])

set_option maxHeartbeats 400000 in
theorem step_zero {w : World} {b : Nat} {F : List Nat} {S : St} (h : DAt w b F S) (hf : S.fuse = 0) :
    Calls Try.prog 91 #[.pointer (some ⟨b, 0, none⟩)] w fun e w' => e = .returned (.int .i64 2) ∧ DPost w w' b F S.fallen := by
  obtain ⟨mn, ms, pv, h, rfl⟩ := h
  obtain ⟨c0, c1, c2, c3, c4, c5, c6, fz⟩ := h.cells
  rw [hf] at c2
  have H := Lib.hid h
  clear h hf
  go_enter Try.func91, Try.ntmps91
  go_wp2
  go_ret
  have h := H.out
  have ho : Only [b] w ((w.setCell ⟨b, 1, none⟩ (.bool false)).setCell ⟨b, 2, none⟩ (.int .i64 (-1))) := ((Only.refl _ w).setCell (by simp) _).setCell (by simp) _
  refine ⟨rfl, h.post (h.scalar (S' := S.fallen) ?_ ho rfl rfl rfl h.ok.fallen) ho (by simp [foot])⟩
  rw [heap_setCell_row (heap_setCell_row h.row _ _)]
  rfl

set_option maxHeartbeats 400000 in
theorem step_ok {w : World} {b : Nat} {F : List Nat} {S : St} (h : DAt w b F S) (hf : S.fuse ≠ 0) (hs : S.steps < 1000000000) :
    Calls Try.prog 91 #[.pointer (some ⟨b, 0, none⟩)] w fun e w' => e = .returned (.int .i64 0) ∧ DPost w w' b F S.stepped := by
  obtain ⟨mn, ms, pv, h, rfl⟩ := h
  obtain ⟨c0, c1, c2, c3, c4, c5, c6, fz⟩ := h.cells
  have s0 := h.ok.s0
  have f1 := h.ok.f1
  have H := Lib.hid h
  clear h
  have hz : (S.fuse == 0) = false := by simpa using hf
  clear hf
  by_cases hp : 0 < S.fuse
  · go_enter Try.func91, Try.ntmps91
    go_wp2
    go_ret
    have h := H.out
    have ho : Only [b] w ((w.setCell ⟨b, 2, none⟩ (.int .i64 (S.fuse - 1))).setCell ⟨b, 3, none⟩ (.int .i64 (S.steps + 1))) := ((Only.refl _ w).setCell (by simp) _).setCell (by simp) _
    refine ⟨rfl, h.post (h.scalar (S' := S.stepped) ?_ ho rfl rfl rfl h.ok.stepped) ho (by simp [foot])⟩
    rw [heap_setCell_row (heap_setCell_row h.row _ _)]
    simp only [drow, St.stepped, if_pos hp]
    rfl
  · go_enter Try.func91, Try.ntmps91
    go_wp2
    go_ret
    have h := H.out
    have ho : Only [b] w (w.setCell ⟨b, 3, none⟩ (.int .i64 (S.steps + 1))) := (Only.refl _ w).setCell (by simp) _
    refine ⟨rfl, h.post (h.scalar (S' := S.stepped) ?_ ho rfl rfl rfl h.ok.stepped) ho (by simp [foot])⟩
    rw [heap_setCell_row h.row _ _]
    have hp' : ¬ 0 < S.fuse := by omega
    simp only [drow, St.stepped, if_neg hp']
    rfl

def St.settled (S : St) : St := { S with sure := fun _ => none, pend := [] }

theorem StOk.settled {S : St} (h : StOk S) : StOk S.settled := ⟨h.n0, h.n1, h.s0, h.f1, h.now, by simp [St.settled], by simp [St.settled]⟩

set_option maxHeartbeats 400000 in
theorem settle_any {w : World} {b : Nat} {F : List Nat} {S : St} (h : DAt w b F S) :
    Calls Try.prog 64 #[.pointer (some ⟨b, 0, none⟩)] w fun e w' => e = .returned (.tuple #[]) ∧ DPost w w' b F S.settled := by
  obtain ⟨mn, ms, pv, h, rfl⟩ := h
  obtain ⟨c0, c1, c2, c3, c4, c5, c6, fz⟩ := h.cells
  have lt := diskAt_lt h
  have hb : b < w.heap.size := lt b (by simp [foot])
  have hmm := @run_makeMap Try.prog
  have H := Lib.hid h
  have LT := Lib.hid lt
  clear h lt
  go_enter Try.func64, Try.ntmps64
  go_wp2
  go_end0
  have h := H.out
  have lt := LT.out
  have hsz : ((w.setCell ⟨b, 5, none⟩ (.map (some w.heap.size))).setCell ⟨b, 6, none⟩ (.slice none 0 0)).heap.size = w.heap.size := by simp
  have ho : Only [b] w (((w.setCell ⟨b, 5, none⟩ (.map (some w.heap.size))).setCell ⟨b, 6, none⟩ (.slice none 0 0)).alloc (.map #[] 0)) := (((Only.refl _ w).setCell (by simp) _).setCell (by simp) _).alloc _
  have hmn := lt mn (by simp [foot])
  refine ⟨rfl, foot b mn w.heap.size (.slice none 0 0), ⟨mn, w.heap.size, _, ⟨?_, ?_, ?_, ?_, ?_, h.ok.settled⟩, rfl⟩, ?_, ?_⟩
  · rw [Below.heap_alloc _ _ _ (by rw [hsz]; exact hb), heap_setCell_row (heap_setCell_row h.row _ _)]
    rfl
  · exact mapAt_congr h.now (ho.block mn hmn (by simpa using h.ne_now.symm))
  · have := mapAt_made ((w.setCell ⟨b, 5, none⟩ (.map (some w.heap.size))).setCell ⟨b, 6, none⟩ (.slice none 0 0))
    rw [hsz] at this
    exact this
  · exact World.ownsRow_nil _ _ _ _
  · omega
  · intro x hx
    simp [foot, Value.ownBlock] at hx
    rcases hx with rfl | rfl | rfl
    · simp [foot]
    · simp [foot]
    · simp
  · exact ho.mono (by simp [foot])


set_option maxHeartbeats 400000 in
theorem steps_any {w : World} {b : Nat} {F : List Nat} {S : St} (h : DAt w b F S) :
    Calls Try.prog 34 #[.pointer (some ⟨b, 0, none⟩)] w fun e w' => e = .returned (.int .i64 S.steps) ∧ w = w' := by
  obtain ⟨mn, ms, pv, h, rfl⟩ := h
  obtain ⟨c0, c1, c2, c3, c4, c5, c6, fz⟩ := h.cells
  clear h
  go_enter Try.func34, Try.ntmps34
  go_wp2
  go_ret
  exact ⟨rfl, rfl⟩

set_option maxHeartbeats 400000 in
theorem len_any {w : World} {b : Nat} {F : List Nat} {S : St} (h : DAt w b F S) :
    Calls Try.prog 45 #[.pointer (some ⟨b, 0, none⟩)] w fun e w' => e = .returned (.int .i64 S.n) ∧ w = w' := by
  obtain ⟨mn, ms, pv, h, rfl⟩ := h
  obtain ⟨c0, c1, c2, c3, c4, c5, c6, fz⟩ := h.cells
  clear h
  go_enter Try.func45, Try.ntmps45
  go_wp2
  go_ret
  exact ⟨rfl, rfl⟩

def St.fused (S : St) (n : Int) : St := if S.on then { S with fuse := n } else S

theorem StOk.fused {S : St} (h : StOk S) {n : Int} (hn : n ≤ 9223372036854775807) : StOk (S.fused n) := by
  unfold St.fused
  split
  · exact h.scalar rfl rfl rfl rfl h.s0 hn
  · exact h

set_option maxHeartbeats 400000 in
theorem fuse_any {w : World} {b : Nat} {F : List Nat} {S : St} (h : DAt w b F S) (n : Int) (hn : n ≤ 9223372036854775807) :
    Calls Try.prog 31 #[.pointer (some ⟨b, 0, none⟩), .int .i64 n] w fun e w' => e = .returned (.tuple #[]) ∧ DPost w w' b F (S.fused n) := by
  obtain ⟨mn, ms, pv, h, rfl⟩ := h
  obtain ⟨c0, c1, c2, c3, c4, c5, c6, fz⟩ := h.cells
  cases hon : S.on with
  | false =>
    rw [hon] at c1
    have H := Lib.hid h
    have HON := Lib.hid hon
    clear h hon
    go_enter Try.func31, Try.ntmps31
    go_wp2
    go_end0
    have h := H.out
    refine ⟨rfl, ?_⟩
    rw [show S.fused n = S by simp [St.fused, HON.out]]
    exact h.post h (Only.refl [] w) (by simp)
  | true =>
    rw [hon] at c1
    have H := Lib.hid h
    have HON := Lib.hid hon
    clear h hon
    go_enter Try.func31, Try.ntmps31
    go_wp2
    go_end0
    have h := H.out
    have ho : Only [b] w (w.setCell ⟨b, 2, none⟩ (.int .i64 n)) := (Only.refl _ w).setCell (by simp) _
    have e : S.fused n = { S with fuse := n } := by simp [St.fused, HON.out]
    refine ⟨rfl, h.post (h.scalar (S' := S.fused n) ?_ ho (by rw [e]) (by rw [e]) (by rw [e]) (h.ok.fused hn)) ho (by simp [foot])⟩
    rw [heap_setCell_row h.row _ _, e]
    rfl

def St.new (n : Int) : St := ⟨n, true, -1, 0, fun _ => none, fun _ => none, []⟩

set_option maxHeartbeats 400000 in
theorem new_no (w : World) (n : Int) (h : n < 1 ∨ 8192 < n) :
    Calls Try.prog 35 #[.int .i64 n] w fun e w' => e = .returned (.tuple #[.pointer none, .int .i64 1]) ∧ w = w' := by
  rcases h with h | h
  · go_enter Try.func35, Try.ntmps35
    go_wp2
    go_ret2
    exact ⟨rfl, rfl⟩
  · have h' : ¬ n < 1 := by omega
    go_enter Try.func35, Try.ntmps35
    go_wp2
    go_ret2
    exact ⟨rfl, rfl⟩

set_option maxHeartbeats 400000 in
theorem new_ok (w : World) (n : Int) (h1 : 1 ≤ n) (h2 : n ≤ 8192) :
    Calls Try.prog 35 #[.int .i64 n] w fun e w' => e = .returned (.tuple #[.pointer (some ⟨w.heap.size + 2, 0, none⟩), .int .i64 0]) ∧ DAt w' (w.heap.size + 2) [w.heap.size + 2, w.heap.size, w.heap.size + 1] (St.new n) ∧ Only [] w w' := by
  have hmm := @run_makeMap Try.prog
  go_enter Try.func35, Try.ntmps35
  go_wp2
  go_ret2
  refine ⟨rfl, ⟨w.heap.size, w.heap.size + 1, .slice none 0 0, ⟨?_, ?_, ?_, World.ownsRow_nil _ _ _ _, by omega, ⟨by simp only [St.new]; omega, by simp only [St.new]; omega, by simp [St.new], by simp [St.new], by simp [St.new], by simp [St.new], by simp [St.new]⟩⟩, by simp [foot, Value.ownBlock]⟩, (((Only.refl [] w).alloc _).alloc _).alloc _⟩
  · have := heap_alloc_last ((w.alloc (.map #[] 0)).alloc (.map #[] 0)) (.cells #[.int .i64 n, .bool true, .int .i64 (-1), .int .i64 0, .map (some w.heap.size), .map (some (w.heap.size + 1)), .slice none 0 0] 91)
    simp only [World.size_alloc] at this
    exact this
  · exact mapAt_congr (mapAt_made w) (by rw [Below.heap_alloc _ _ _ (by simp; omega), Below.heap_alloc _ _ _ (by simp)])
  · have := mapAt_made (w.alloc (.map #[] 0))
    simp only [World.size_alloc] at this
    exact mapAt_congr this (by rw [Below.heap_alloc _ _ _ (by simp)])

end Go.Proofs.Ytoccnaebckcfmaa
