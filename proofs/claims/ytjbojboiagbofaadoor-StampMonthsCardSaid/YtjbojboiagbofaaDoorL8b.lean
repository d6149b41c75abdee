/- StampMonths' walk, December. -/
import Derived.Test.YtjbojboiagbofaaDoorL5
set_option linter.unusedSimpArgs false
set_option linter.unusedVariables false
set_option maxRecDepth 8000
namespace Go.Proofs.YtjbojboiagbofaaDoor
open Go.RowKit Go.Shelf

set_option maxHeartbeats 4000000 in
set_option maxRecDepth 100000 in
theorem months_10 (y a b c d D x0 x3 x4 x5 x6 : Int) (hy : Hid (2000 ≤ y ∧ y ≤ 2135)) (t1 : ¬ y.tmod 4 = 0)
    (cA : ∀ w, Days w → Calls Tryd.prog 16 #[.agg #[.int .i64 y, .int .i64 12, .int .i64 1, .int .i64 0, .int .i64 0, .int .i64 0, .int .i64 0]] w fun e w' => e = .returned (.tuple #[.int .i64 a, .int .i64 0]) ∧ Below w.heap.size w w')
    (cB : ∀ w, Days w → Calls Tryd.prog 16 #[.agg #[.int .i64 (y + 1), .int .i64 1, .int .i64 1, .int .i64 0, .int .i64 0, .int .i64 0, .int .i64 0]] w fun e w' => e = .returned (.tuple #[.int .i64 b, .int .i64 0]) ∧ Below w.heap.size w w')
    (cC : ∀ w, Days w → Calls Tryd.prog 16 #[.agg #[.int .i64 y, .int .i64 1, .int .i64 1, .int .i64 0, .int .i64 0, .int .i64 0, .int .i64 0]] w fun e w' => e = .returned (.tuple #[.int .i64 c, .int .i64 0]) ∧ Below w.heap.size w w')
    (cD : ∀ w, Days w → Calls Tryd.prog 16 #[.agg #[.int .i64 (y + 1), .int .i64 1, .int .i64 1, .int .i64 0, .int .i64 0, .int .i64 0, .int .i64 0]] w fun e w' => e = .returned (.tuple #[.int .i64 d, .int .i64 0]) ∧ Below w.heap.size w w')
    (cL : ∀ w, Days w → Calls Tryd.prog 10 #[.int .i64 (b - 1)] w fun e w' => e = .returned (.tuple #[.agg #[.int .i64 x0, .int .i64 12, .int .i64 D, .int .i64 x3, .int .i64 x4, .int .i64 x5, .int .i64 x6], .int .i64 0]) ∧ Below w.heap.size w w')
    (hr : (#[.int .i64 0, .int .i64 31, .int .i64 28, .int .i64 31, .int .i64 30, .int .i64 31, .int .i64 30, .int .i64 31, .int .i64 31, .int .i64 30, .int .i64 31, .int .i64 30, .int .i64 31] : Array Value)[12]? = some (.int .i64 D))
    (hb : Hid (b - a = 86400 * D ∧ d - c = 31536000 ∧ 0 ≤ a ∧ 0 ≤ c ∧ 1 ≤ b ∧ b ≤ 4294967295 ∧ d ≤ 4294967295 ∧ 28 ≤ D ∧ D ≤ 31))
    (w : World) (hT : Tabs w) (hw0 : 0 < w.heap.size) : Calls Tryd.prog 8 #[.int .i64 y, .int .i64 12] w fun e w' => e = .returned (.bool true) ∧ Below w.heap.size w w' := by
  have g1 : decide (y < 2000) = false := decide_eq_false (by have := hy.out; omega)
  have g2 : decide (2135 < y) = false := decide_eq_false (by have := hy.out; omega)
  have v2 : wrap64 (y + 1) = y + 1 := by have := hy.out; unfold wrap64; omega
  have v3 : wrap64 (b - 1) = b - 1 := by have := hb.out; unfold wrap64; omega
  go_enter Tryd.func8, Tryd.ntmps8
  go_wp2_with fail
  refine (shown_any _ hT hw0).mono ?_; rintro e w0 ⟨rfl, b0⟩
  go_wp2_with fail
  refine (cA _ (hT.below b0).days).mono ?_; rintro e w1 ⟨rfl, b1⟩
  have B1 := b0.trans (b1.mono b0.size)
  clear b0 b1
  go_wp2_with fail
  have B1 := below_al B1 B1.size (.cells #[.int .i64 (y + 1), .int .i64 1, .int .i64 1, .int .i64 0, .int .i64 0, .int .i64 0, .int .i64 0] 24)
  refine (cB _ (hT.below B1).days).mono ?_; rintro e w2 ⟨rfl, b2⟩
  have B2 := B1.trans (b2.mono B1.size)
  clear b2 B1
  go_wp2_with fail
  refine (cC _ (hT.below B2).days).mono ?_; rintro e w3 ⟨rfl, b3⟩
  have B3 := B2.trans (b3.mono B2.size)
  clear b3 B2
  go_wp2_with fail
  refine (cD _ (hT.below B3).days).mono ?_; rintro e w4 ⟨rfl, b4⟩
  have B4 := B3.trans (b4.mono B3.size)
  clear b4 B3 cA cB cC cD
  go_wp2_with fail
  have R4 : (w4.alloc (.cells #[.int .i64 0, .int .i64 31, .int .i64 28, .int .i64 31, .int .i64 30, .int .i64 31, .int .i64 30, .int .i64 31, .int .i64 31, .int .i64 30, .int .i64 31, .int .i64 30, .int .i64 31] 38)).heap[w4.heap.size]? = some (.cells #[.int .i64 0, .int .i64 31, .int .i64 28, .int .i64 31, .int .i64 30, .int .i64 31, .int .i64 30, .int .i64 31, .int .i64 31, .int .i64 30, .int .i64 31, .int .i64 30, .int .i64 31] 38) := heap_alloc_new w4 _
  have B5 : Below w.heap.size w (w4.alloc (.cells #[.int .i64 0, .int .i64 31, .int .i64 28, .int .i64 31, .int .i64 30, .int .i64 31, .int .i64 30, .int .i64 31, .int .i64 31, .int .i64 30, .int .i64 31, .int .i64 30, .int .i64 31] 38)) := below_al B4 B4.size _
  have Z5 : w4.heap.size < (w4.alloc (.cells #[.int .i64 0, .int .i64 31, .int .i64 28, .int .i64 31, .int .i64 30, .int .i64 31, .int .i64 30, .int .i64 31, .int .i64 31, .int .i64 30, .int .i64 31, .int .i64 30, .int .i64 31] 38)).heap.size := by simp
  change Calls _ _ _ (w4.alloc (.cells #[.int .i64 0, .int .i64 31, .int .i64 28, .int .i64 31, .int .i64 30, .int .i64 31, .int .i64 30, .int .i64 31, .int .i64 31, .int .i64 30, .int .i64 31, .int .i64 30, .int .i64 31] 38)) _
  generalize (w4.alloc (.cells #[.int .i64 0, .int .i64 31, .int .i64 28, .int .i64 31, .int .i64 30, .int .i64 31, .int .i64 30, .int .i64 31, .int .i64 31, .int .i64 30, .int .i64 31, .int .i64 30, .int .i64 31] 38)) = wr at R4 B5 Z5 ⊢
  refine (cL _ (hT.below B5).days).mono ?_; rintro e w5 ⟨rfl, b5⟩
  have R5 : (w5.alloc (.cells #[.int .i64 x0, .int .i64 12, .int .i64 D, .int .i64 x3, .int .i64 x4, .int .i64 x5, .int .i64 x6] 24)).heap[w4.heap.size]? = some (.cells #[.int .i64 0, .int .i64 31, .int .i64 28, .int .i64 31, .int .i64 30, .int .i64 31, .int .i64 30, .int .i64 31, .int .i64 31, .int .i64 30, .int .i64 31, .int .i64 30, .int .i64 31] 38) := (heap_alloc_old w5 _ (Nat.lt_of_lt_of_le Z5 b5.size)).trans ((b5.block _ Z5).trans R4)
  have M5 : (w5.alloc (.cells #[.int .i64 x0, .int .i64 12, .int .i64 D, .int .i64 x3, .int .i64 x4, .int .i64 x5, .int .i64 x6] 24)).heap[w5.heap.size]? = some (.cells #[.int .i64 x0, .int .i64 12, .int .i64 D, .int .i64 x3, .int .i64 x4, .int .i64 x5, .int .i64 x6] 24) := heap_alloc_new w5 _
  have B6 : Below w.heap.size w (w5.alloc (.cells #[.int .i64 x0, .int .i64 12, .int .i64 D, .int .i64 x3, .int .i64 x4, .int .i64 x5, .int .i64 x6] 24)) := below_al (B5.trans (b5.mono B5.size)) (B5.trans (b5.mono B5.size)).size _
  have r0 : (w5.alloc (.cells #[.int .i64 x0, .int .i64 12, .int .i64 D, .int .i64 x3, .int .i64 x4, .int .i64 x5, .int .i64 x6] 24)).cell? ⟨w4.heap.size, 12, none⟩ = some (.int .i64 D) := by rw [cell_of_row _ _ _ _ _ _ R5]; exact hr
  have r1 := cellsT M5 1 _ rfl
  have r2 := cellsT M5 2 _ rfl
  clear R4 B5 Z5 b5 R5 M5 cL hr
  have v7 : IntKind.i64.wrap (b - a) = 86400 * D := by have := hb.out; rw [wrapI (by omega) (by omega)]; omega
  have v8 : IntKind.i64.wrap (86400 * D) = 86400 * D := by have := hb.out; exact wrapI (by omega) (by omega)
  have v9 : IntKind.i64.wrap (d - c) = 31536000 := by have := hb.out; rw [wrapI (by omega) (by omega)]; omega
  clear hy g1 g2 v2 v3 t1 hb hT hw0
  go_wp2_with fail
  change Code.wp _ _ _ _ (w5.alloc (.cells #[.int .i64 x0, .int .i64 12, .int .i64 D, .int .i64 x3, .int .i64 x4, .int .i64 x5, .int .i64 x6] 24))
  generalize w5.alloc (.cells #[.int .i64 x0, .int .i64 12, .int .i64 D, .int .i64 x3, .int .i64 x4, .int .i64 x5, .int .i64 x6] 24) = wq at r0 r1 r2 B6 ⊢
  go_quiet (fail)
  go_wp2
  go_ret
  exact ⟨rfl, by repeat (first | exact B6 | refine below_dN ?_ _)⟩
set_option maxHeartbeats 4000000 in
set_option maxRecDepth 100000 in
theorem months_11 (y a b c d D x0 x3 x4 x5 x6 : Int) (hy : Hid (2000 ≤ y ∧ y ≤ 2135)) (t1 : y.tmod 4 = 0) (t2 : (y != 2100) = false)
    (cA : ∀ w, Days w → Calls Tryd.prog 16 #[.agg #[.int .i64 y, .int .i64 12, .int .i64 1, .int .i64 0, .int .i64 0, .int .i64 0, .int .i64 0]] w fun e w' => e = .returned (.tuple #[.int .i64 a, .int .i64 0]) ∧ Below w.heap.size w w')
    (cB : ∀ w, Days w → Calls Tryd.prog 16 #[.agg #[.int .i64 (y + 1), .int .i64 1, .int .i64 1, .int .i64 0, .int .i64 0, .int .i64 0, .int .i64 0]] w fun e w' => e = .returned (.tuple #[.int .i64 b, .int .i64 0]) ∧ Below w.heap.size w w')
    (cC : ∀ w, Days w → Calls Tryd.prog 16 #[.agg #[.int .i64 y, .int .i64 1, .int .i64 1, .int .i64 0, .int .i64 0, .int .i64 0, .int .i64 0]] w fun e w' => e = .returned (.tuple #[.int .i64 c, .int .i64 0]) ∧ Below w.heap.size w w')
    (cD : ∀ w, Days w → Calls Tryd.prog 16 #[.agg #[.int .i64 (y + 1), .int .i64 1, .int .i64 1, .int .i64 0, .int .i64 0, .int .i64 0, .int .i64 0]] w fun e w' => e = .returned (.tuple #[.int .i64 d, .int .i64 0]) ∧ Below w.heap.size w w')
    (cL : ∀ w, Days w → Calls Tryd.prog 10 #[.int .i64 (b - 1)] w fun e w' => e = .returned (.tuple #[.agg #[.int .i64 x0, .int .i64 12, .int .i64 D, .int .i64 x3, .int .i64 x4, .int .i64 x5, .int .i64 x6], .int .i64 0]) ∧ Below w.heap.size w w')
    (hr : (#[.int .i64 0, .int .i64 31, .int .i64 28, .int .i64 31, .int .i64 30, .int .i64 31, .int .i64 30, .int .i64 31, .int .i64 31, .int .i64 30, .int .i64 31, .int .i64 30, .int .i64 31] : Array Value)[12]? = some (.int .i64 D))
    (hb : Hid (b - a = 86400 * D ∧ d - c = 31536000 ∧ 0 ≤ a ∧ 0 ≤ c ∧ 1 ≤ b ∧ b ≤ 4294967295 ∧ d ≤ 4294967295 ∧ 28 ≤ D ∧ D ≤ 31))
    (w : World) (hT : Tabs w) (hw0 : 0 < w.heap.size) : Calls Tryd.prog 8 #[.int .i64 y, .int .i64 12] w fun e w' => e = .returned (.bool true) ∧ Below w.heap.size w w' := by
  have g1 : decide (y < 2000) = false := decide_eq_false (by have := hy.out; omega)
  have g2 : decide (2135 < y) = false := decide_eq_false (by have := hy.out; omega)
  have v2 : wrap64 (y + 1) = y + 1 := by have := hy.out; unfold wrap64; omega
  have v3 : wrap64 (b - 1) = b - 1 := by have := hb.out; unfold wrap64; omega
  go_enter Tryd.func8, Tryd.ntmps8
  go_wp2_with fail
  refine (shown_any _ hT hw0).mono ?_; rintro e w0 ⟨rfl, b0⟩
  go_wp2_with fail
  refine (cA _ (hT.below b0).days).mono ?_; rintro e w1 ⟨rfl, b1⟩
  have B1 := b0.trans (b1.mono b0.size)
  clear b0 b1
  go_wp2_with fail
  have B1 := below_al B1 B1.size (.cells #[.int .i64 (y + 1), .int .i64 1, .int .i64 1, .int .i64 0, .int .i64 0, .int .i64 0, .int .i64 0] 24)
  refine (cB _ (hT.below B1).days).mono ?_; rintro e w2 ⟨rfl, b2⟩
  have B2 := B1.trans (b2.mono B1.size)
  clear b2 B1
  go_wp2_with fail
  refine (cC _ (hT.below B2).days).mono ?_; rintro e w3 ⟨rfl, b3⟩
  have B3 := B2.trans (b3.mono B2.size)
  clear b3 B2
  go_wp2_with fail
  refine (cD _ (hT.below B3).days).mono ?_; rintro e w4 ⟨rfl, b4⟩
  have B4 := B3.trans (b4.mono B3.size)
  clear b4 B3 cA cB cC cD
  go_wp2_with fail
  have R4 : (w4.alloc (.cells #[.int .i64 0, .int .i64 31, .int .i64 28, .int .i64 31, .int .i64 30, .int .i64 31, .int .i64 30, .int .i64 31, .int .i64 31, .int .i64 30, .int .i64 31, .int .i64 30, .int .i64 31] 38)).heap[w4.heap.size]? = some (.cells #[.int .i64 0, .int .i64 31, .int .i64 28, .int .i64 31, .int .i64 30, .int .i64 31, .int .i64 30, .int .i64 31, .int .i64 31, .int .i64 30, .int .i64 31, .int .i64 30, .int .i64 31] 38) := heap_alloc_new w4 _
  have B5 : Below w.heap.size w (w4.alloc (.cells #[.int .i64 0, .int .i64 31, .int .i64 28, .int .i64 31, .int .i64 30, .int .i64 31, .int .i64 30, .int .i64 31, .int .i64 31, .int .i64 30, .int .i64 31, .int .i64 30, .int .i64 31] 38)) := below_al B4 B4.size _
  have Z5 : w4.heap.size < (w4.alloc (.cells #[.int .i64 0, .int .i64 31, .int .i64 28, .int .i64 31, .int .i64 30, .int .i64 31, .int .i64 30, .int .i64 31, .int .i64 31, .int .i64 30, .int .i64 31, .int .i64 30, .int .i64 31] 38)).heap.size := by simp
  change Calls _ _ _ (w4.alloc (.cells #[.int .i64 0, .int .i64 31, .int .i64 28, .int .i64 31, .int .i64 30, .int .i64 31, .int .i64 30, .int .i64 31, .int .i64 31, .int .i64 30, .int .i64 31, .int .i64 30, .int .i64 31] 38)) _
  generalize (w4.alloc (.cells #[.int .i64 0, .int .i64 31, .int .i64 28, .int .i64 31, .int .i64 30, .int .i64 31, .int .i64 30, .int .i64 31, .int .i64 31, .int .i64 30, .int .i64 31, .int .i64 30, .int .i64 31] 38)) = wr at R4 B5 Z5 ⊢
  refine (cL _ (hT.below B5).days).mono ?_; rintro e w5 ⟨rfl, b5⟩
  have R5 : (w5.alloc (.cells #[.int .i64 x0, .int .i64 12, .int .i64 D, .int .i64 x3, .int .i64 x4, .int .i64 x5, .int .i64 x6] 24)).heap[w4.heap.size]? = some (.cells #[.int .i64 0, .int .i64 31, .int .i64 28, .int .i64 31, .int .i64 30, .int .i64 31, .int .i64 30, .int .i64 31, .int .i64 31, .int .i64 30, .int .i64 31, .int .i64 30, .int .i64 31] 38) := (heap_alloc_old w5 _ (Nat.lt_of_lt_of_le Z5 b5.size)).trans ((b5.block _ Z5).trans R4)
  have M5 : (w5.alloc (.cells #[.int .i64 x0, .int .i64 12, .int .i64 D, .int .i64 x3, .int .i64 x4, .int .i64 x5, .int .i64 x6] 24)).heap[w5.heap.size]? = some (.cells #[.int .i64 x0, .int .i64 12, .int .i64 D, .int .i64 x3, .int .i64 x4, .int .i64 x5, .int .i64 x6] 24) := heap_alloc_new w5 _
  have B6 : Below w.heap.size w (w5.alloc (.cells #[.int .i64 x0, .int .i64 12, .int .i64 D, .int .i64 x3, .int .i64 x4, .int .i64 x5, .int .i64 x6] 24)) := below_al (B5.trans (b5.mono B5.size)) (B5.trans (b5.mono B5.size)).size _
  have r0 : (w5.alloc (.cells #[.int .i64 x0, .int .i64 12, .int .i64 D, .int .i64 x3, .int .i64 x4, .int .i64 x5, .int .i64 x6] 24)).cell? ⟨w4.heap.size, 12, none⟩ = some (.int .i64 D) := by rw [cell_of_row _ _ _ _ _ _ R5]; exact hr
  have r1 := cellsT M5 1 _ rfl
  have r2 := cellsT M5 2 _ rfl
  clear R4 B5 Z5 b5 R5 M5 cL hr
  have v7 : IntKind.i64.wrap (b - a) = 86400 * D := by have := hb.out; rw [wrapI (by omega) (by omega)]; omega
  have v8 : IntKind.i64.wrap (86400 * D) = 86400 * D := by have := hb.out; exact wrapI (by omega) (by omega)
  have v9 : IntKind.i64.wrap (d - c) = 31536000 := by have := hb.out; rw [wrapI (by omega) (by omega)]; omega
  clear hy g1 g2 v2 v3 t1 hb hT hw0
  go_wp2_with fail
  change Code.wp _ _ _ _ (w5.alloc (.cells #[.int .i64 x0, .int .i64 12, .int .i64 D, .int .i64 x3, .int .i64 x4, .int .i64 x5, .int .i64 x6] 24))
  generalize w5.alloc (.cells #[.int .i64 x0, .int .i64 12, .int .i64 D, .int .i64 x3, .int .i64 x4, .int .i64 x5, .int .i64 x6] 24) = wq at r0 r1 r2 B6 ⊢
  go_quiet (fail)
  go_wp2
  go_ret
  exact ⟨rfl, by repeat (first | exact B6 | refine below_dN ?_ _)⟩
set_option maxHeartbeats 4000000 in
set_option maxRecDepth 100000 in
theorem months_12 (y a b c d D x0 x3 x4 x5 x6 : Int) (hy : Hid (2000 ≤ y ∧ y ≤ 2135)) (t1 : y.tmod 4 = 0) (t2 : (y != 2100) = true)
    (cA : ∀ w, Days w → Calls Tryd.prog 16 #[.agg #[.int .i64 y, .int .i64 12, .int .i64 1, .int .i64 0, .int .i64 0, .int .i64 0, .int .i64 0]] w fun e w' => e = .returned (.tuple #[.int .i64 a, .int .i64 0]) ∧ Below w.heap.size w w')
    (cB : ∀ w, Days w → Calls Tryd.prog 16 #[.agg #[.int .i64 (y + 1), .int .i64 1, .int .i64 1, .int .i64 0, .int .i64 0, .int .i64 0, .int .i64 0]] w fun e w' => e = .returned (.tuple #[.int .i64 b, .int .i64 0]) ∧ Below w.heap.size w w')
    (cC : ∀ w, Days w → Calls Tryd.prog 16 #[.agg #[.int .i64 y, .int .i64 1, .int .i64 1, .int .i64 0, .int .i64 0, .int .i64 0, .int .i64 0]] w fun e w' => e = .returned (.tuple #[.int .i64 c, .int .i64 0]) ∧ Below w.heap.size w w')
    (cD : ∀ w, Days w → Calls Tryd.prog 16 #[.agg #[.int .i64 (y + 1), .int .i64 1, .int .i64 1, .int .i64 0, .int .i64 0, .int .i64 0, .int .i64 0]] w fun e w' => e = .returned (.tuple #[.int .i64 d, .int .i64 0]) ∧ Below w.heap.size w w')
    (cL : ∀ w, Days w → Calls Tryd.prog 10 #[.int .i64 (b - 1)] w fun e w' => e = .returned (.tuple #[.agg #[.int .i64 x0, .int .i64 12, .int .i64 D, .int .i64 x3, .int .i64 x4, .int .i64 x5, .int .i64 x6], .int .i64 0]) ∧ Below w.heap.size w w')
    (hr : (#[.int .i64 0, .int .i64 31, .int .i64 29, .int .i64 31, .int .i64 30, .int .i64 31, .int .i64 30, .int .i64 31, .int .i64 31, .int .i64 30, .int .i64 31, .int .i64 30, .int .i64 31] : Array Value)[12]? = some (.int .i64 D))
    (hb : Hid (b - a = 86400 * D ∧ d - c = 31622400 ∧ 0 ≤ a ∧ 0 ≤ c ∧ 1 ≤ b ∧ b ≤ 4294967295 ∧ d ≤ 4294967295 ∧ 28 ≤ D ∧ D ≤ 31))
    (w : World) (hT : Tabs w) (hw0 : 0 < w.heap.size) : Calls Tryd.prog 8 #[.int .i64 y, .int .i64 12] w fun e w' => e = .returned (.bool true) ∧ Below w.heap.size w w' := by
  have g1 : decide (y < 2000) = false := decide_eq_false (by have := hy.out; omega)
  have g2 : decide (2135 < y) = false := decide_eq_false (by have := hy.out; omega)
  have v2 : wrap64 (y + 1) = y + 1 := by have := hy.out; unfold wrap64; omega
  have v3 : wrap64 (b - 1) = b - 1 := by have := hb.out; unfold wrap64; omega
  go_enter Tryd.func8, Tryd.ntmps8
  go_wp2_with fail
  refine (shown_any _ hT hw0).mono ?_; rintro e w0 ⟨rfl, b0⟩
  go_wp2_with fail
  refine (cA _ (hT.below b0).days).mono ?_; rintro e w1 ⟨rfl, b1⟩
  have B1 := b0.trans (b1.mono b0.size)
  clear b0 b1
  go_wp2_with fail
  have B1 := below_al B1 B1.size (.cells #[.int .i64 (y + 1), .int .i64 1, .int .i64 1, .int .i64 0, .int .i64 0, .int .i64 0, .int .i64 0] 24)
  refine (cB _ (hT.below B1).days).mono ?_; rintro e w2 ⟨rfl, b2⟩
  have B2 := B1.trans (b2.mono B1.size)
  clear b2 B1
  go_wp2_with fail
  refine (cC _ (hT.below B2).days).mono ?_; rintro e w3 ⟨rfl, b3⟩
  have B3 := B2.trans (b3.mono B2.size)
  clear b3 B2
  go_wp2_with fail
  refine (cD _ (hT.below B3).days).mono ?_; rintro e w4 ⟨rfl, b4⟩
  have B4 := B3.trans (b4.mono B3.size)
  clear b4 B3 cA cB cC cD
  go_wp2_with fail
  have R4 : (w4.alloc (.cells #[.int .i64 0, .int .i64 31, .int .i64 29, .int .i64 31, .int .i64 30, .int .i64 31, .int .i64 30, .int .i64 31, .int .i64 31, .int .i64 30, .int .i64 31, .int .i64 30, .int .i64 31] 38)).heap[w4.heap.size]? = some (.cells #[.int .i64 0, .int .i64 31, .int .i64 29, .int .i64 31, .int .i64 30, .int .i64 31, .int .i64 30, .int .i64 31, .int .i64 31, .int .i64 30, .int .i64 31, .int .i64 30, .int .i64 31] 38) := heap_alloc_new w4 _
  have B5 : Below w.heap.size w (w4.alloc (.cells #[.int .i64 0, .int .i64 31, .int .i64 29, .int .i64 31, .int .i64 30, .int .i64 31, .int .i64 30, .int .i64 31, .int .i64 31, .int .i64 30, .int .i64 31, .int .i64 30, .int .i64 31] 38)) := below_al B4 B4.size _
  have Z5 : w4.heap.size < (w4.alloc (.cells #[.int .i64 0, .int .i64 31, .int .i64 29, .int .i64 31, .int .i64 30, .int .i64 31, .int .i64 30, .int .i64 31, .int .i64 31, .int .i64 30, .int .i64 31, .int .i64 30, .int .i64 31] 38)).heap.size := by simp
  change Calls _ _ _ (w4.alloc (.cells #[.int .i64 0, .int .i64 31, .int .i64 29, .int .i64 31, .int .i64 30, .int .i64 31, .int .i64 30, .int .i64 31, .int .i64 31, .int .i64 30, .int .i64 31, .int .i64 30, .int .i64 31] 38)) _
  generalize (w4.alloc (.cells #[.int .i64 0, .int .i64 31, .int .i64 29, .int .i64 31, .int .i64 30, .int .i64 31, .int .i64 30, .int .i64 31, .int .i64 31, .int .i64 30, .int .i64 31, .int .i64 30, .int .i64 31] 38)) = wr at R4 B5 Z5 ⊢
  refine (cL _ (hT.below B5).days).mono ?_; rintro e w5 ⟨rfl, b5⟩
  have R5 : (w5.alloc (.cells #[.int .i64 x0, .int .i64 12, .int .i64 D, .int .i64 x3, .int .i64 x4, .int .i64 x5, .int .i64 x6] 24)).heap[w4.heap.size]? = some (.cells #[.int .i64 0, .int .i64 31, .int .i64 29, .int .i64 31, .int .i64 30, .int .i64 31, .int .i64 30, .int .i64 31, .int .i64 31, .int .i64 30, .int .i64 31, .int .i64 30, .int .i64 31] 38) := (heap_alloc_old w5 _ (Nat.lt_of_lt_of_le Z5 b5.size)).trans ((b5.block _ Z5).trans R4)
  have M5 : (w5.alloc (.cells #[.int .i64 x0, .int .i64 12, .int .i64 D, .int .i64 x3, .int .i64 x4, .int .i64 x5, .int .i64 x6] 24)).heap[w5.heap.size]? = some (.cells #[.int .i64 x0, .int .i64 12, .int .i64 D, .int .i64 x3, .int .i64 x4, .int .i64 x5, .int .i64 x6] 24) := heap_alloc_new w5 _
  have B6 : Below w.heap.size w (w5.alloc (.cells #[.int .i64 x0, .int .i64 12, .int .i64 D, .int .i64 x3, .int .i64 x4, .int .i64 x5, .int .i64 x6] 24)) := below_al (B5.trans (b5.mono B5.size)) (B5.trans (b5.mono B5.size)).size _
  have r0 : (w5.alloc (.cells #[.int .i64 x0, .int .i64 12, .int .i64 D, .int .i64 x3, .int .i64 x4, .int .i64 x5, .int .i64 x6] 24)).cell? ⟨w4.heap.size, 12, none⟩ = some (.int .i64 D) := by rw [cell_of_row _ _ _ _ _ _ R5]; exact hr
  have r1 := cellsT M5 1 _ rfl
  have r2 := cellsT M5 2 _ rfl
  clear R4 B5 Z5 b5 R5 M5 cL hr
  have v7 : IntKind.i64.wrap (b - a) = 86400 * D := by have := hb.out; rw [wrapI (by omega) (by omega)]; omega
  have v8 : IntKind.i64.wrap (86400 * D) = 86400 * D := by have := hb.out; exact wrapI (by omega) (by omega)
  have v9 : IntKind.i64.wrap (d - c) = 31622400 := by have := hb.out; rw [wrapI (by omega) (by omega)]; omega
  clear hy g1 g2 v2 v3 t1 hb hT hw0
  go_wp2_with fail
  change Code.wp _ _ _ _ (w5.alloc (.cells #[.int .i64 x0, .int .i64 12, .int .i64 D, .int .i64 x3, .int .i64 x4, .int .i64 x5, .int .i64 x6] 24))
  generalize w5.alloc (.cells #[.int .i64 x0, .int .i64 12, .int .i64 D, .int .i64 x3, .int .i64 x4, .int .i64 x5, .int .i64 x6] 24) = wq at r0 r1 r2 B6 ⊢
  go_quiet (fail)
  go_wp2
  go_ret
  exact ⟨rfl, by repeat (first | exact B6 | refine below_dN ?_ _)⟩
end Go.Proofs.YtjbojboiagbofaaDoor
