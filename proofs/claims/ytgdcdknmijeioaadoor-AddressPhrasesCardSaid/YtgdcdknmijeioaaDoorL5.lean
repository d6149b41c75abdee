/- AddressSame's walk. -/
import Derived.Test.YtgdcdknmijeioaaDoorC20
set_option linter.unusedSimpArgs false
set_option linter.unusedVariables false
namespace Go.Proofs.YtgdcdknmijeioaaDoor
open Go.RowKit Go.Shelf

theorem same_comm (a b c d : List UInt8) : sameP b a d c = sameP a b c d := by
  unfold sameP
  rw [Bool.eq_iff_iff]
  simp only [Bool.and_eq_true, beq_iff_eq]
  constructor <;> (rintro ⟨h1, h2⟩; exact ⟨h1.symm, h2.symm⟩)
theorem same_self (a c : List UInt8) : sameP a a c c = true := by simp [sameP]
theorem Own2.step {w w' : World} {g : Nat} {c : Array Value} (h : w.heap[g]? = some (.cells c 23)) (b : Below w.heap.size w w') : w'.heap[g]? = some (.cells c 23) :=
  (b.block g (Array.getElem?_eq_some_iff.1 h).1).trans h
set_option maxHeartbeats 4000000 in
theorem same_law (n1 a1 d1 n2 a2 d2 : ByteArray) (h1 : d1.size ≤ 9223372036854775807) (h2 : d2.size ≤ 9223372036854775807) (w : World) (hM : Max w) :
    Calls Tryd.prog 5 #[.agg #[.string n1, .string a1, .string d1], .agg #[.string n2, .string a2, .string d2]] w fun e w' => e = .returned (.bool true) ∧ Below w.heap.size w w' := by
  have c0 := fun w hM => shown_any w hM
  have c1 := fun w => same_any n1 a1 d1 n2 a2 d2 h1 h2 w
  have c2 := fun w => same_any n1 a1 d1 n1 a1 d1 h1 h1 w
  have c3 := fun w => rsame_any n1 a1 d1 n2 a2 d2 h1 h2 w
  have c4 := fun w => same_any n2 a2 d2 n1 a1 d1 h2 h1 w
  rw [same_self] at c2
  rw [same_comm] at c4
  generalize sameP a1.data.toList a2.data.toList d1.data.toList d2.data.toList = x at *
  have hb0 : Below w.heap.size w ((w.alloc (.cells #[.string n1, .string a1, .string d1] 23)).alloc (.cells #[.string n2, .string a2, .string d2] 23)) := ((Below.refl _ _).alloc (Nat.le_refl _) _).alloc (by simp) _
  have e0 : (w.alloc (.cells #[.string n1, .string a1, .string d1] 23)).heap.size = w.heap.size + 1 := by simp
  have H1 : ((w.alloc (.cells #[.string n1, .string a1, .string d1] 23)).alloc (.cells #[.string n2, .string a2, .string d2] 23)).heap[w.heap.size]? = some (.cells #[.string n1, .string a1, .string d1] 23) := (heap_alloc_old _ _ (by simp)).trans (heap_alloc_new w _)
  have H2 : ((w.alloc (.cells #[.string n1, .string a1, .string d1] 23)).alloc (.cells #[.string n2, .string a2, .string d2] 23)).heap[w.heap.size + 1]? = some (.cells #[.string n2, .string a2, .string d2] 23) := by
    rw [← e0]; exact heap_alloc_new _ _
  have M1 := hM.below hb0
  clear e0 hM
  go_enter Tryd.func5, Tryd.ntmps5
  go_wp2_with fail
  generalize (w.alloc (.cells #[.string n1, .string a1, .string d1] 23)).alloc (.cells #[.string n2, .string a2, .string d2] 23) = w1 at *
  refine (c0 _ M1).mono ?_; rintro e w2 ⟨rfl, b2⟩
  have B2 := hb0.trans (b2.mono hb0.size)
  have H1 := Own2.step H1 b2
  have H2 := Own2.step H2 b2
  have r0 := cellA H1 0 (.string n1) rfl
  have r1 := cellA H1 1 (.string a1) rfl
  have r2 := cellA H1 2 (.string d1) rfl
  have s0 := cellA H2 0 (.string n2) rfl
  have s1 := cellA H2 1 (.string a2) rfl
  have s2 := cellA H2 2 (.string d2) rfl
  clear b2 hb0 M1
  go_wp2_with fail
  refine (c1 _).mono ?_; rintro e w3 ⟨rfl, b3⟩
  have B3 := B2.trans (b3.mono B2.size)
  have H1 := Own2.step H1 b3
  have H2 := Own2.step H2 b3
  clear r0 r1 r2 s0 s1 s2
  have r0 := cellA H1 0 (.string n1) rfl
  have r1 := cellA H1 1 (.string a1) rfl
  have r2 := cellA H1 2 (.string d1) rfl
  clear b3 B2
  go_wp2_with fail
  refine (c2 _).mono ?_; rintro e w4 ⟨rfl, b4⟩
  have B4 := B3.trans (b4.mono B3.size)
  have H1 := Own2.step H1 b4
  have H2 := Own2.step H2 b4
  clear r0 r1 r2
  have r0 := cellA H1 0 (.string n1) rfl
  have r1 := cellA H1 1 (.string a1) rfl
  have r2 := cellA H1 2 (.string d1) rfl
  have s0 := cellA H2 0 (.string n2) rfl
  have s1 := cellA H2 1 (.string a2) rfl
  have s2 := cellA H2 2 (.string d2) rfl
  clear b4 B3
  go_wp2_with fail
  refine (c3 _).mono ?_; rintro e w5 ⟨rfl, b5⟩
  have B5 := B4.trans (b5.mono B4.size)
  have H1 := Own2.step H1 b5
  have H2 := Own2.step H2 b5
  clear r0 r1 r2 s0 s1 s2
  have r0 := cellA H1 0 (.string n1) rfl
  have r1 := cellA H1 1 (.string a1) rfl
  have r2 := cellA H1 2 (.string d1) rfl
  have s0 := cellA H2 0 (.string n2) rfl
  have s1 := cellA H2 1 (.string a2) rfl
  have s2 := cellA H2 2 (.string d2) rfl
  clear b5 B4
  go_wp2_with fail
  refine (c4 _).mono ?_; rintro e w6 ⟨rfl, b6⟩
  have B6 := B5.trans (b6.mono B5.size)
  clear r0 r1 r2 s0 s1 s2
  go_wp2_with fail
  go_ret
  exact ⟨rfl, B6⟩
theorem same_law' (n1 a1 d1 n2 a2 d2 : ByteArray) (w : World) (_g1 : a1.size ≤ 9223372036854775807) (h1 : d1.size ≤ 9223372036854775807) (_g2 : a2.size ≤ 9223372036854775807) (h2 : d2.size ≤ 9223372036854775807) (hM : Max w) :
    Calls Tryd.prog 5 #[.agg #[.string n1, .string a1, .string d1], .agg #[.string n2, .string a2, .string d2]] w fun e w' => e = .returned (.bool true) ∧ Below w.heap.size w w' := same_law n1 a1 d1 n2 a2 d2 h1 h2 w hM
end Go.Proofs.YtgdcdknmijeioaaDoor
