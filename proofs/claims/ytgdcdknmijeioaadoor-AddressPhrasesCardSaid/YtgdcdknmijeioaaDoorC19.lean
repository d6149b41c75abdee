/- Same, the document's too. -/
import Derived.Test.YtgdcdknmijeioaaDoorC18
set_option linter.unusedSimpArgs false
set_option linter.unusedVariables false
namespace Go.Proofs.YtgdcdknmijeioaaDoor
open Go.RowKit Go.Shelf

def sameP (a b c d : List UInt8) : Bool := a == b && small c == small d
set_option maxHeartbeats 2000000 in
theorem same_any (n1 a1 d1 n2 a2 d2 : ByteArray) (h1 : d1.size ≤ 9223372036854775807) (h2 : d2.size ≤ 9223372036854775807) (w : World) :
    Calls Tryd.prog 15 #[.agg #[.string n1, .string a1, .string d1], .agg #[.string n2, .string a2, .string d2]] w fun e w' => e = .returned (.bool (sameP a1.data.toList a2.data.toList d1.data.toList d2.data.toList)) ∧ Below w.heap.size w w' := by
  have c1 := fun w => small_any d1 h1 w
  have c2 := fun w => small_any d2 h2 w
  have hb0 : Below w.heap.size w ((w.alloc (.cells #[.string n1, .string a1, .string d1] 23)).alloc (.cells #[.string n2, .string a2, .string d2] 23)) := ((Below.refl _ _).alloc (Nat.le_refl _) _).alloc (by simp) _
  have e0 : (w.alloc (.cells #[.string n1, .string a1, .string d1] 23)).heap.size = w.heap.size + 1 := by simp
  have H1 : ((w.alloc (.cells #[.string n1, .string a1, .string d1] 23)).alloc (.cells #[.string n2, .string a2, .string d2] 23)).heap[w.heap.size]? = some (.cells #[.string n1, .string a1, .string d1] 23) := (heap_alloc_old _ _ (by simp)).trans (heap_alloc_new w _)
  have H2 : ((w.alloc (.cells #[.string n1, .string a1, .string d1] 23)).alloc (.cells #[.string n2, .string a2, .string d2] 23)).heap[w.heap.size + 1]? = some (.cells #[.string n2, .string a2, .string d2] 23) := by
    rw [← e0]; exact heap_alloc_new _ _
  have Z2 : w.heap.size + 1 < ((w.alloc (.cells #[.string n1, .string a1, .string d1] 23)).alloc (.cells #[.string n2, .string a2, .string d2] 23)).heap.size := by simp
  unfold sameP
  cases he : (a1.data.toList == a2.data.toList)
  · have he' : (a1.toList == a2.toList) = false := by rw [Lib.toList_data, Lib.toList_data]; exact he
    clear he
    go_enter Tryd.func15, Tryd.ntmps15
    go_wp2_with fail
    generalize (w.alloc (.cells #[.string n1, .string a1, .string d1] 23)).alloc (.cells #[.string n2, .string a2, .string d2] 23) = w1 at *
    have r1 := cellA H1 1 (.string a1) rfl
    have s1 := cellA H2 1 (.string a2) rfl
    go_quiet (fail)
    go_wp2
    go_ret
    exact ⟨rfl, below_dN hb0 _⟩
  · have he' : (a1.toList == a2.toList) = true := by rw [Lib.toList_data, Lib.toList_data]; exact he
    clear he
    have hf : ((⟨(small d1.data.toList).toArray⟩ : ByteArray).toList == (⟨(small d2.data.toList).toArray⟩ : ByteArray).toList) = (small d1.data.toList == small d2.data.toList) := by rw [Lib.toList_data, Lib.toList_data]
    rw [← hf]
    clear hf
    generalize (⟨(small d1.data.toList).toArray⟩ : ByteArray) = x1 at *
    generalize (⟨(small d2.data.toList).toArray⟩ : ByteArray) = x2 at *
    go_enter Tryd.func15, Tryd.ntmps15
    go_wp2_with fail
    generalize (w.alloc (.cells #[.string n1, .string a1, .string d1] 23)).alloc (.cells #[.string n2, .string a2, .string d2] 23) = w1 at *
    have r1 := cellA H1 1 (.string a1) rfl
    have r2 := cellA H1 2 (.string d1) rfl
    have s1 := cellA H2 1 (.string a2) rfl
    have s2 := cellA H2 2 (.string d2) rfl
    go_region_held3 (fun W => W.cell? ⟨w.heap.size, 1, none⟩ = some (.string a1) ∧ W.cell? ⟨w.heap.size, 2, none⟩ = some (.string d1) ∧ W.cell? ⟨w.heap.size + 1, 1, none⟩ = some (.string a2) ∧ W.cell? ⟨w.heap.size + 1, 2, none⟩ = some (.string d2)) (go_keep) (first
      | (go_at_call_of 24 (Value.string d1); refine (c1 _).mono ?_; rintro e' w2 ⟨rfl, b1⟩; have H3 := (b1.block _ (Nat.lt_of_succ_lt Z2)).trans H1; have H4 := (b1.block _ Z2).trans H2; have Z3 := Nat.lt_of_lt_of_le Z2 b1.size; have B1 := hb0.drew.trans (b1.mono (Nat.le_of_lt (Nat.lt_of_succ_lt Z2))); have r1 := cellA H3 1 (.string a1) rfl; have r2 := cellA H3 2 (.string d1) rfl; have s1 := cellA H4 1 (.string a2) rfl; have s2 := cellA H4 2 (.string d2) rfl)
      | (go_at_call_of 24 (Value.string d2); refine (c2 _).mono ?_; rintro e' w3 ⟨rfl, b2⟩; have H5 := (b2.block _ (Nat.lt_of_succ_lt Z3)).trans H3; have H6 := (b2.block _ Z3).trans H4; have B2 := B1.trans (b2.mono (Nat.le_of_lt (Nat.lt_of_succ_lt Z3))); have r1 := cellA H5 1 (.string a1) rfl; have r2 := cellA H5 2 (.string d1) rfl; have s1 := cellA H6 1 (.string a2) rfl; have s2 := cellA H6 2 (.string d2) rfl))
    go_wp2
    go_ret
    exact ⟨rfl, B2⟩
set_option maxHeartbeats 2000000 in
theorem rsame_any (n1 a1 d1 n2 a2 d2 : ByteArray) (h1 : d1.size ≤ 9223372036854775807) (h2 : d2.size ≤ 9223372036854775807) (w : World) :
    Calls Tryd.prog 16 #[.agg #[.string n1, .string a1, .string d1], .agg #[.string n2, .string a2, .string d2]] w fun e w' => e = .returned (.bool (sameP a1.data.toList a2.data.toList d1.data.toList d2.data.toList)) ∧ Below w.heap.size w w' := by
  have c1 := fun w => rsmall_any d1 h1 w
  have c2 := fun w => rsmall_any d2 h2 w
  have hb0 : Below w.heap.size w ((w.alloc (.cells #[.string n1, .string a1, .string d1] 23)).alloc (.cells #[.string n2, .string a2, .string d2] 23)) := ((Below.refl _ _).alloc (Nat.le_refl _) _).alloc (by simp) _
  have e0 : (w.alloc (.cells #[.string n1, .string a1, .string d1] 23)).heap.size = w.heap.size + 1 := by simp
  have H1 : ((w.alloc (.cells #[.string n1, .string a1, .string d1] 23)).alloc (.cells #[.string n2, .string a2, .string d2] 23)).heap[w.heap.size]? = some (.cells #[.string n1, .string a1, .string d1] 23) := (heap_alloc_old _ _ (by simp)).trans (heap_alloc_new w _)
  have H2 : ((w.alloc (.cells #[.string n1, .string a1, .string d1] 23)).alloc (.cells #[.string n2, .string a2, .string d2] 23)).heap[w.heap.size + 1]? = some (.cells #[.string n2, .string a2, .string d2] 23) := by
    rw [← e0]; exact heap_alloc_new _ _
  have Z2 : w.heap.size + 1 < ((w.alloc (.cells #[.string n1, .string a1, .string d1] 23)).alloc (.cells #[.string n2, .string a2, .string d2] 23)).heap.size := by simp
  unfold sameP
  cases he : (a1.data.toList == a2.data.toList)
  · have he' : (a1.toList == a2.toList) = false := by rw [Lib.toList_data, Lib.toList_data]; exact he
    clear he
    go_enter Tryd.func16, Tryd.ntmps16
    go_wp2_with fail
    generalize (w.alloc (.cells #[.string n1, .string a1, .string d1] 23)).alloc (.cells #[.string n2, .string a2, .string d2] 23) = w1 at *
    have r1 := cellA H1 1 (.string a1) rfl
    have s1 := cellA H2 1 (.string a2) rfl
    go_quiet (fail)
    go_wp2
    go_ret
    exact ⟨rfl, below_dN hb0 _⟩
  · have he' : (a1.toList == a2.toList) = true := by rw [Lib.toList_data, Lib.toList_data]; exact he
    clear he
    have hf : ((⟨(small d1.data.toList).toArray⟩ : ByteArray).toList == (⟨(small d2.data.toList).toArray⟩ : ByteArray).toList) = (small d1.data.toList == small d2.data.toList) := by rw [Lib.toList_data, Lib.toList_data]
    rw [← hf]
    clear hf
    generalize (⟨(small d1.data.toList).toArray⟩ : ByteArray) = x1 at *
    generalize (⟨(small d2.data.toList).toArray⟩ : ByteArray) = x2 at *
    go_enter Tryd.func16, Tryd.ntmps16
    go_wp2_with fail
    generalize (w.alloc (.cells #[.string n1, .string a1, .string d1] 23)).alloc (.cells #[.string n2, .string a2, .string d2] 23) = w1 at *
    have r1 := cellA H1 1 (.string a1) rfl
    have r2 := cellA H1 2 (.string d1) rfl
    have s1 := cellA H2 1 (.string a2) rfl
    have s2 := cellA H2 2 (.string d2) rfl
    go_region_held3 (fun W => W.cell? ⟨w.heap.size, 1, none⟩ = some (.string a1) ∧ W.cell? ⟨w.heap.size, 2, none⟩ = some (.string d1) ∧ W.cell? ⟨w.heap.size + 1, 1, none⟩ = some (.string a2) ∧ W.cell? ⟨w.heap.size + 1, 2, none⟩ = some (.string d2)) (go_keep) (first
      | (go_at_call_of 25 (Value.string d1); refine (c1 _).mono ?_; rintro e' w2 ⟨rfl, b1⟩; have H3 := (b1.block _ (Nat.lt_of_succ_lt Z2)).trans H1; have H4 := (b1.block _ Z2).trans H2; have Z3 := Nat.lt_of_lt_of_le Z2 b1.size; have B1 := hb0.drew.trans (b1.mono (Nat.le_of_lt (Nat.lt_of_succ_lt Z2))); have r1 := cellA H3 1 (.string a1) rfl; have r2 := cellA H3 2 (.string d1) rfl; have s1 := cellA H4 1 (.string a2) rfl; have s2 := cellA H4 2 (.string d2) rfl)
      | (go_at_call_of 25 (Value.string d2); refine (c2 _).mono ?_; rintro e' w3 ⟨rfl, b2⟩; have H5 := (b2.block _ (Nat.lt_of_succ_lt Z3)).trans H3; have H6 := (b2.block _ Z3).trans H4; have B2 := B1.trans (b2.mono (Nat.le_of_lt (Nat.lt_of_succ_lt Z3))); have r1 := cellA H5 1 (.string a1) rfl; have r2 := cellA H5 2 (.string d1) rfl; have s1 := cellA H6 1 (.string a2) rfl; have s2 := cellA H6 2 (.string d2) rfl))
    go_wp2
    go_ret
    exact ⟨rfl, B2⟩
end Go.Proofs.YtgdcdknmijeioaaDoor
