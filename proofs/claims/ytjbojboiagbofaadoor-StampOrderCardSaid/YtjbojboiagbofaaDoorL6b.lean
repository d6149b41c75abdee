/- StampOrder's walk, hour to second. -/
import Derived.Test.YtjbojboiagbofaaDoorQ4
set_option linter.unusedSimpArgs false
set_option linter.unusedVariables false
namespace Go.Proofs.YtjbojboiagbofaaDoor
open Go.RowKit Go.Shelf

set_option maxHeartbeats 4000000 in
set_option maxRecDepth 100000 in
theorem order_3 (a b : Nat) (hab : a < b) (hb : b < 4294880896) {c0 c1 c2 c4 c5 f0 f1 f2 f3 f4 f5 wa wb y3 y4 y5 : Int} (hlt : f3 < y3) (hw : 0 ≤ wb ∧ wb < 7)
    (cA : ∀ w, Days w → Calls Tryd.prog 10 #[.int .i64 a] w fun e w' => e = .returned (.tuple #[.agg #[.int .i64 f0, .int .i64 f1, .int .i64 f2, .int .i64 f3, .int .i64 f4, .int .i64 f5, .int .i64 wa], .int .i64 0]) ∧ Below w.heap.size w w')
    (cB : ∀ w, Days w → Calls Tryd.prog 10 #[.int .i64 b] w fun e w' => e = .returned (.tuple #[.agg #[.int .i64 f0, .int .i64 f1, .int .i64 f2, .int .i64 y3, .int .i64 y4, .int .i64 y5, .int .i64 wb], .int .i64 0]) ∧ Below w.heap.size w w')
    (cC : ∀ w, Days w → Calls Tryd.prog 10 #[.int .i64 (b + 86400)] w fun e w' => e = .returned (.tuple #[.agg #[.int .i64 c0, .int .i64 c1, .int .i64 c2, .int .i64 y3, .int .i64 c4, .int .i64 c5, .int .i64 ((wb + 1) % 7)], .int .i64 0]) ∧ Below w.heap.size w w')
    (w : World) (hT : Tabs w) (hw0 : 0 < w.heap.size) : Calls Tryd.prog 6 #[.int .i64 a, .int .i64 b] w fun e w' => e = .returned (.bool true) ∧ Below w.heap.size w w' := by
  have ge1 : (f3 == y3) = false := by rw [beq_eq_false_iff_ne]; omega
  have ge2 : ¬ f3 = y3 := by omega
  go_enter Tryd.func6, Tryd.ntmps6
  go_wp2_with fail
  refine (shown_any _ hT hw0).mono ?_; rintro e w0 ⟨rfl, b0⟩
  have T0 := hT.below b0
  go_wp2_with fail
  refine (cA _ T0.days).mono ?_; rintro e w1 ⟨rfl, b1⟩
  have B1 := below_al (b0.trans (b1.mono b0.size)) (b0.trans (b1.mono b0.size)).size (.cells #[.int .i64 f0, .int .i64 f1, .int .i64 f2, .int .i64 f3, .int .i64 f4, .int .i64 f5, .int .i64 wa] 24)
  have H1 : (w1.alloc (.cells #[.int .i64 f0, .int .i64 f1, .int .i64 f2, .int .i64 f3, .int .i64 f4, .int .i64 f5, .int .i64 wa] 24)).heap[w1.heap.size]? = some (.cells #[.int .i64 f0, .int .i64 f1, .int .i64 f2, .int .i64 f3, .int .i64 f4, .int .i64 f5, .int .i64 wa] 24) := heap_alloc_new w1 _
  have Z1 : w1.heap.size < (w1.alloc (.cells #[.int .i64 f0, .int .i64 f1, .int .i64 f2, .int .i64 f3, .int .i64 f4, .int .i64 f5, .int .i64 wa] 24)).heap.size := by simp
  clear b0 b1 T0
  go_wp2_with fail
  refine (cB _ (hT.below B1).days).mono ?_; rintro e w2 ⟨rfl, b2⟩
  have B2 := below_al (B1.trans (b2.mono B1.size)) (B1.trans (b2.mono B1.size)).size (.cells #[.int .i64 f0, .int .i64 f1, .int .i64 f2, .int .i64 y3, .int .i64 y4, .int .i64 y5, .int .i64 wb] 24)
  have H2 : (w2.alloc (.cells #[.int .i64 f0, .int .i64 f1, .int .i64 f2, .int .i64 y3, .int .i64 y4, .int .i64 y5, .int .i64 wb] 24)).heap[w1.heap.size]? = some (.cells #[.int .i64 f0, .int .i64 f1, .int .i64 f2, .int .i64 f3, .int .i64 f4, .int .i64 f5, .int .i64 wa] 24) := (heap_alloc_old w2 _ (Nat.lt_of_lt_of_le Z1 b2.size)).trans ((b2.block _ Z1).trans H1)
  have K2 : (w2.alloc (.cells #[.int .i64 f0, .int .i64 f1, .int .i64 f2, .int .i64 y3, .int .i64 y4, .int .i64 y5, .int .i64 wb] 24)).heap[w2.heap.size]? = some (.cells #[.int .i64 f0, .int .i64 f1, .int .i64 f2, .int .i64 y3, .int .i64 y4, .int .i64 y5, .int .i64 wb] 24) := heap_alloc_new w2 _
  have Z2 : w1.heap.size < (w2.alloc (.cells #[.int .i64 f0, .int .i64 f1, .int .i64 f2, .int .i64 y3, .int .i64 y4, .int .i64 y5, .int .i64 wb] 24)).heap.size := by have := b2.size; simp at *; omega
  have X2 : w2.heap.size < (w2.alloc (.cells #[.int .i64 f0, .int .i64 f1, .int .i64 f2, .int .i64 y3, .int .i64 y4, .int .i64 y5, .int .i64 wb] 24)).heap.size := by simp
  clear b2 H1 Z1 B1
  go_wp2_with fail
  refine (cC _ (hT.below B2).days).mono ?_; rintro e w3 ⟨rfl, b3⟩
  have B3 := below_al (B2.trans (b3.mono B2.size)) (B2.trans (b3.mono B2.size)).size (.cells #[.int .i64 c0, .int .i64 c1, .int .i64 c2, .int .i64 y3, .int .i64 c4, .int .i64 c5, .int .i64 ((wb + 1) % 7)] 24)
  have H3 : (w3.alloc (.cells #[.int .i64 c0, .int .i64 c1, .int .i64 c2, .int .i64 y3, .int .i64 c4, .int .i64 c5, .int .i64 ((wb + 1) % 7)] 24)).heap[w1.heap.size]? = some (.cells #[.int .i64 f0, .int .i64 f1, .int .i64 f2, .int .i64 f3, .int .i64 f4, .int .i64 f5, .int .i64 wa] 24) := (heap_alloc_old w3 _ (Nat.lt_of_lt_of_le Z2 b3.size)).trans ((b3.block _ Z2).trans H2)
  have K3 : (w3.alloc (.cells #[.int .i64 c0, .int .i64 c1, .int .i64 c2, .int .i64 y3, .int .i64 c4, .int .i64 c5, .int .i64 ((wb + 1) % 7)] 24)).heap[w2.heap.size]? = some (.cells #[.int .i64 f0, .int .i64 f1, .int .i64 f2, .int .i64 y3, .int .i64 y4, .int .i64 y5, .int .i64 wb] 24) := (heap_alloc_old w3 _ (Nat.lt_of_lt_of_le X2 b3.size)).trans ((b3.block _ X2).trans K2)
  have M3 : (w3.alloc (.cells #[.int .i64 c0, .int .i64 c1, .int .i64 c2, .int .i64 y3, .int .i64 c4, .int .i64 c5, .int .i64 ((wb + 1) % 7)] 24)).heap[w3.heap.size]? = some (.cells #[.int .i64 c0, .int .i64 c1, .int .i64 c2, .int .i64 y3, .int .i64 c4, .int .i64 c5, .int .i64 ((wb + 1) % 7)] 24) := heap_alloc_new w3 _
  have Y3 : w2.heap.size < (w3.alloc (.cells #[.int .i64 c0, .int .i64 c1, .int .i64 c2, .int .i64 y3, .int .i64 c4, .int .i64 c5, .int .i64 ((wb + 1) % 7)] 24)).heap.size := by have := b3.size; simp at *; omega
  have X3 : w1.heap.size < (w3.alloc (.cells #[.int .i64 c0, .int .i64 c1, .int .i64 c2, .int .i64 y3, .int .i64 c4, .int .i64 c5, .int .i64 ((wb + 1) % 7)] 24)).heap.size := by have := b3.size; simp at *; omega
  clear b3 H2 K2 Z2 X2 B2 cA cB cC
  have p0 := cellsT H3 0 _ rfl
  have q0 := cellsT K3 0 _ rfl
  have p1 := cellsT H3 1 _ rfl
  have q1 := cellsT K3 1 _ rfl
  have p2 := cellsT H3 2 _ rfl
  have q2 := cellsT K3 2 _ rfl
  have p3 := cellsT H3 3 _ rfl
  have q3 := cellsT K3 3 _ rfl
  have p4 := cellsT H3 4 _ rfl
  have q4 := cellsT K3 4 _ rfl
  have p5 := cellsT H3 5 _ rfl
  have q5 := cellsT K3 5 _ rfl
  have p6 := cellsT H3 6 _ rfl
  have q6 := cellsT K3 6 _ rfl
  have qq0 : ∀ ob, ((w3.alloc (.cells #[.int .i64 c0, .int .i64 c1, .int .i64 c2, .int .i64 y3, .int .i64 c4, .int .i64 c5, .int .i64 ((wb + 1) % 7)] 24)).alloc ob).cell? ⟨w2.heap.size, 0, none⟩ = some (.int .i64 f0) := fun ob => cellsT ((heap_alloc_old _ ob Y3).trans K3) 0 _ rfl
  have qq1 : ∀ ob, ((w3.alloc (.cells #[.int .i64 c0, .int .i64 c1, .int .i64 c2, .int .i64 y3, .int .i64 c4, .int .i64 c5, .int .i64 ((wb + 1) % 7)] 24)).alloc ob).cell? ⟨w2.heap.size, 1, none⟩ = some (.int .i64 f1) := fun ob => cellsT ((heap_alloc_old _ ob Y3).trans K3) 1 _ rfl
  have qq2 : ∀ ob, ((w3.alloc (.cells #[.int .i64 c0, .int .i64 c1, .int .i64 c2, .int .i64 y3, .int .i64 c4, .int .i64 c5, .int .i64 ((wb + 1) % 7)] 24)).alloc ob).cell? ⟨w2.heap.size, 2, none⟩ = some (.int .i64 f2) := fun ob => cellsT ((heap_alloc_old _ ob Y3).trans K3) 2 _ rfl
  have qq3 : ∀ ob, ((w3.alloc (.cells #[.int .i64 c0, .int .i64 c1, .int .i64 c2, .int .i64 y3, .int .i64 c4, .int .i64 c5, .int .i64 ((wb + 1) % 7)] 24)).alloc ob).cell? ⟨w2.heap.size, 3, none⟩ = some (.int .i64 y3) := fun ob => cellsT ((heap_alloc_old _ ob Y3).trans K3) 3 _ rfl
  have qq4 : ∀ ob, ((w3.alloc (.cells #[.int .i64 c0, .int .i64 c1, .int .i64 c2, .int .i64 y3, .int .i64 c4, .int .i64 c5, .int .i64 ((wb + 1) % 7)] 24)).alloc ob).cell? ⟨w2.heap.size, 4, none⟩ = some (.int .i64 y4) := fun ob => cellsT ((heap_alloc_old _ ob Y3).trans K3) 4 _ rfl
  have qq5 : ∀ ob, ((w3.alloc (.cells #[.int .i64 c0, .int .i64 c1, .int .i64 c2, .int .i64 y3, .int .i64 c4, .int .i64 c5, .int .i64 ((wb + 1) % 7)] 24)).alloc ob).cell? ⟨w2.heap.size, 5, none⟩ = some (.int .i64 y5) := fun ob => cellsT ((heap_alloc_old _ ob Y3).trans K3) 5 _ rfl
  have qq6 : ∀ ob, ((w3.alloc (.cells #[.int .i64 c0, .int .i64 c1, .int .i64 c2, .int .i64 y3, .int .i64 c4, .int .i64 c5, .int .i64 ((wb + 1) % 7)] 24)).alloc ob).cell? ⟨w2.heap.size, 6, none⟩ = some (.int .i64 wb) := fun ob => cellsT ((heap_alloc_old _ ob Y3).trans K3) 6 _ rfl
  have r3 := cellsT M3 3 _ rfl
  have r6 := cellsT M3 6 _ rfl
  go_wp2_with fail
  have z1 : (w3.alloc (.cells #[.int .i64 c0, .int .i64 c1, .int .i64 c2, .int .i64 y3, .int .i64 c4, .int .i64 c5, .int .i64 ((wb + 1) % 7)] 24)).heap.size = w3.heap.size + 1 := by simp
  have z2 : ((w3.alloc (.cells #[.int .i64 c0, .int .i64 c1, .int .i64 c2, .int .i64 y3, .int .i64 c4, .int .i64 c5, .int .i64 ((wb + 1) % 7)] 24)).alloc (.cells #[.int .i64 f0, .int .i64 f1, .int .i64 f2, .int .i64 f3, .int .i64 f4, .int .i64 f5] 34)).heap.size = w3.heap.size + 1 + 1 := by simp
  have HX : (((w3.alloc (.cells #[.int .i64 c0, .int .i64 c1, .int .i64 c2, .int .i64 y3, .int .i64 c4, .int .i64 c5, .int .i64 ((wb + 1) % 7)] 24)).alloc (.cells #[.int .i64 f0, .int .i64 f1, .int .i64 f2, .int .i64 f3, .int .i64 f4, .int .i64 f5] 34)).alloc (.cells #[.int .i64 f0, .int .i64 f1, .int .i64 f2, .int .i64 y3, .int .i64 y4, .int .i64 y5] 34)).heap[w3.heap.size + 1]? = some (.cells #[.int .i64 f0, .int .i64 f1, .int .i64 f2, .int .i64 f3, .int .i64 f4, .int .i64 f5] 34) := (heap_alloc_old _ _ (by rw [z2]; omega)).trans (by rw [← z1]; exact heap_alloc_new _ _)
  have HY : (((w3.alloc (.cells #[.int .i64 c0, .int .i64 c1, .int .i64 c2, .int .i64 y3, .int .i64 c4, .int .i64 c5, .int .i64 ((wb + 1) % 7)] 24)).alloc (.cells #[.int .i64 f0, .int .i64 f1, .int .i64 f2, .int .i64 f3, .int .i64 f4, .int .i64 f5] 34)).alloc (.cells #[.int .i64 f0, .int .i64 f1, .int .i64 f2, .int .i64 y3, .int .i64 y4, .int .i64 y5] 34)).heap[w3.heap.size + 1 + 1]? = some (.cells #[.int .i64 f0, .int .i64 f1, .int .i64 f2, .int .i64 y3, .int .i64 y4, .int .i64 y5] 34) := by rw [← z2]; exact heap_alloc_new _ _
  have HK : (((w3.alloc (.cells #[.int .i64 c0, .int .i64 c1, .int .i64 c2, .int .i64 y3, .int .i64 c4, .int .i64 c5, .int .i64 ((wb + 1) % 7)] 24)).alloc (.cells #[.int .i64 f0, .int .i64 f1, .int .i64 f2, .int .i64 f3, .int .i64 f4, .int .i64 f5] 34)).alloc (.cells #[.int .i64 f0, .int .i64 f1, .int .i64 f2, .int .i64 y3, .int .i64 y4, .int .i64 y5] 34)).heap[w2.heap.size]? = some (.cells #[.int .i64 f0, .int .i64 f1, .int .i64 f2, .int .i64 y3, .int .i64 y4, .int .i64 y5, .int .i64 wb] 24) := (heap_alloc_old _ _ (by rw [z2]; omega)).trans ((heap_alloc_old _ _ Y3).trans K3)
  have HM : (((w3.alloc (.cells #[.int .i64 c0, .int .i64 c1, .int .i64 c2, .int .i64 y3, .int .i64 c4, .int .i64 c5, .int .i64 ((wb + 1) % 7)] 24)).alloc (.cells #[.int .i64 f0, .int .i64 f1, .int .i64 f2, .int .i64 f3, .int .i64 f4, .int .i64 f5] 34)).alloc (.cells #[.int .i64 f0, .int .i64 f1, .int .i64 f2, .int .i64 y3, .int .i64 y4, .int .i64 y5] 34)).heap[w3.heap.size]? = some (.cells #[.int .i64 c0, .int .i64 c1, .int .i64 c2, .int .i64 y3, .int .i64 c4, .int .i64 c5, .int .i64 ((wb + 1) % 7)] 24) := (heap_alloc_old _ _ (by rw [z2]; omega)).trans ((heap_alloc_old _ _ (by rw [z1]; omega)).trans M3)
  have BB : Below w.heap.size w (((w3.alloc (.cells #[.int .i64 c0, .int .i64 c1, .int .i64 c2, .int .i64 y3, .int .i64 c4, .int .i64 c5, .int .i64 ((wb + 1) % 7)] 24)).alloc (.cells #[.int .i64 f0, .int .i64 f1, .int .i64 f2, .int .i64 f3, .int .i64 f4, .int .i64 f5] 34)).alloc (.cells #[.int .i64 f0, .int .i64 f1, .int .i64 f2, .int .i64 y3, .int .i64 y4, .int .i64 y5] 34)) := below_al (below_al B3 B3.size _) (below_al B3 B3.size _).size _
  clear p0 q0 qq0 p1 q1 qq1 p2 q2 qq2 p3 q3 qq3 p4 q4 qq4 p5 q5 qq5 p6 q6 qq6 B3 H3 K3 M3 z1 z2 Y3 X3 r3 r6
  change Code.wp _ _ _ _ (((w3.alloc (.cells #[.int .i64 c0, .int .i64 c1, .int .i64 c2, .int .i64 y3, .int .i64 c4, .int .i64 c5, .int .i64 ((wb + 1) % 7)] 24)).alloc (.cells #[.int .i64 f0, .int .i64 f1, .int .i64 f2, .int .i64 f3, .int .i64 f4, .int .i64 f5] 34)).alloc (.cells #[.int .i64 f0, .int .i64 f1, .int .i64 f2, .int .i64 y3, .int .i64 y4, .int .i64 y5] 34))
  generalize (((w3.alloc (.cells #[.int .i64 c0, .int .i64 c1, .int .i64 c2, .int .i64 y3, .int .i64 c4, .int .i64 c5, .int .i64 ((wb + 1) % 7)] 24)).alloc (.cells #[.int .i64 f0, .int .i64 f1, .int .i64 f2, .int .i64 f3, .int .i64 f4, .int .i64 f5] 34)).alloc (.cells #[.int .i64 f0, .int .i64 f1, .int .i64 f2, .int .i64 y3, .int .i64 y4, .int .i64 y5] 34)) = wq at HX HY HK HM BB ⊢
  have x0 : wq.cell? ⟨w3.heap.size + 1, 0, none⟩ = some (.int .i64 f0) := by rw [cell_of_row _ _ _ _ _ _ HX]; rfl
  have v0 : wq.cell? ⟨w3.heap.size + 1 + 1, 0, none⟩ = some (.int .i64 f0) := by rw [cell_of_row _ _ _ _ _ _ HY]; rfl
  have x1 : wq.cell? ⟨w3.heap.size + 1, 1, none⟩ = some (.int .i64 f1) := by rw [cell_of_row _ _ _ _ _ _ HX]; rfl
  have v1 : wq.cell? ⟨w3.heap.size + 1 + 1, 1, none⟩ = some (.int .i64 f1) := by rw [cell_of_row _ _ _ _ _ _ HY]; rfl
  have x2 : wq.cell? ⟨w3.heap.size + 1, 2, none⟩ = some (.int .i64 f2) := by rw [cell_of_row _ _ _ _ _ _ HX]; rfl
  have v2 : wq.cell? ⟨w3.heap.size + 1 + 1, 2, none⟩ = some (.int .i64 f2) := by rw [cell_of_row _ _ _ _ _ _ HY]; rfl
  have x3 : wq.cell? ⟨w3.heap.size + 1, 3, none⟩ = some (.int .i64 f3) := by rw [cell_of_row _ _ _ _ _ _ HX]; rfl
  have v3 : wq.cell? ⟨w3.heap.size + 1 + 1, 3, none⟩ = some (.int .i64 y3) := by rw [cell_of_row _ _ _ _ _ _ HY]; rfl
  have x4 : wq.cell? ⟨w3.heap.size + 1, 4, none⟩ = some (.int .i64 f4) := by rw [cell_of_row _ _ _ _ _ _ HX]; rfl
  have v4 : wq.cell? ⟨w3.heap.size + 1 + 1, 4, none⟩ = some (.int .i64 y4) := by rw [cell_of_row _ _ _ _ _ _ HY]; rfl
  have x5 : wq.cell? ⟨w3.heap.size + 1, 5, none⟩ = some (.int .i64 f5) := by rw [cell_of_row _ _ _ _ _ _ HX]; rfl
  have v5 : wq.cell? ⟨w3.heap.size + 1 + 1, 5, none⟩ = some (.int .i64 y5) := by rw [cell_of_row _ _ _ _ _ _ HY]; rfl
  have k3 := cellsT HK 3 _ rfl
  have k6 := cellsT HK 6 _ rfl
  have m3 := cellsT HM 3 _ rfl
  have m6 := cellsT HM 6 _ rfl
  clear HX HY HK HM
  refine wp_loop_rounds 4 ?_
  rw [rounds_succ]
  go_wp2
  go_quiet (fail)
  go_wp2
  rw [rounds_succ]
  go_wp2
  go_quiet (fail)
  go_wp2
  rw [rounds_succ]
  go_wp2
  go_quiet (fail)
  go_wp2
  rw [rounds_succ]
  go_wp2
  go_quiet (fail)
  go_wp2
  have hd1 : decide (f3 < y3) = true := decide_eq_true hlt
  have x7 : IntKind.i64.wrap (wb + 1) = wb + 1 := wrapI (by omega) (by omega)
  have hw1 := hw.1
  have hw2 := hw.2
  go_quiet (fail)
  go_wp2
  go_ret
  exact ⟨rfl, by repeat (first | exact BB | refine below_dN ?_ _)⟩
set_option maxHeartbeats 4000000 in
set_option maxRecDepth 100000 in
theorem order_4 (a b : Nat) (hab : a < b) (hb : b < 4294880896) {c0 c1 c2 c4 c5 f0 f1 f2 f3 f4 f5 wa wb y4 y5 : Int} (hlt : f4 < y4) (hw : 0 ≤ wb ∧ wb < 7)
    (cA : ∀ w, Days w → Calls Tryd.prog 10 #[.int .i64 a] w fun e w' => e = .returned (.tuple #[.agg #[.int .i64 f0, .int .i64 f1, .int .i64 f2, .int .i64 f3, .int .i64 f4, .int .i64 f5, .int .i64 wa], .int .i64 0]) ∧ Below w.heap.size w w')
    (cB : ∀ w, Days w → Calls Tryd.prog 10 #[.int .i64 b] w fun e w' => e = .returned (.tuple #[.agg #[.int .i64 f0, .int .i64 f1, .int .i64 f2, .int .i64 f3, .int .i64 y4, .int .i64 y5, .int .i64 wb], .int .i64 0]) ∧ Below w.heap.size w w')
    (cC : ∀ w, Days w → Calls Tryd.prog 10 #[.int .i64 (b + 86400)] w fun e w' => e = .returned (.tuple #[.agg #[.int .i64 c0, .int .i64 c1, .int .i64 c2, .int .i64 f3, .int .i64 c4, .int .i64 c5, .int .i64 ((wb + 1) % 7)], .int .i64 0]) ∧ Below w.heap.size w w')
    (w : World) (hT : Tabs w) (hw0 : 0 < w.heap.size) : Calls Tryd.prog 6 #[.int .i64 a, .int .i64 b] w fun e w' => e = .returned (.bool true) ∧ Below w.heap.size w w' := by
  have ge1 : (f4 == y4) = false := by rw [beq_eq_false_iff_ne]; omega
  have ge2 : ¬ f4 = y4 := by omega
  go_enter Tryd.func6, Tryd.ntmps6
  go_wp2_with fail
  refine (shown_any _ hT hw0).mono ?_; rintro e w0 ⟨rfl, b0⟩
  have T0 := hT.below b0
  go_wp2_with fail
  refine (cA _ T0.days).mono ?_; rintro e w1 ⟨rfl, b1⟩
  have B1 := below_al (b0.trans (b1.mono b0.size)) (b0.trans (b1.mono b0.size)).size (.cells #[.int .i64 f0, .int .i64 f1, .int .i64 f2, .int .i64 f3, .int .i64 f4, .int .i64 f5, .int .i64 wa] 24)
  have H1 : (w1.alloc (.cells #[.int .i64 f0, .int .i64 f1, .int .i64 f2, .int .i64 f3, .int .i64 f4, .int .i64 f5, .int .i64 wa] 24)).heap[w1.heap.size]? = some (.cells #[.int .i64 f0, .int .i64 f1, .int .i64 f2, .int .i64 f3, .int .i64 f4, .int .i64 f5, .int .i64 wa] 24) := heap_alloc_new w1 _
  have Z1 : w1.heap.size < (w1.alloc (.cells #[.int .i64 f0, .int .i64 f1, .int .i64 f2, .int .i64 f3, .int .i64 f4, .int .i64 f5, .int .i64 wa] 24)).heap.size := by simp
  clear b0 b1 T0
  go_wp2_with fail
  refine (cB _ (hT.below B1).days).mono ?_; rintro e w2 ⟨rfl, b2⟩
  have B2 := below_al (B1.trans (b2.mono B1.size)) (B1.trans (b2.mono B1.size)).size (.cells #[.int .i64 f0, .int .i64 f1, .int .i64 f2, .int .i64 f3, .int .i64 y4, .int .i64 y5, .int .i64 wb] 24)
  have H2 : (w2.alloc (.cells #[.int .i64 f0, .int .i64 f1, .int .i64 f2, .int .i64 f3, .int .i64 y4, .int .i64 y5, .int .i64 wb] 24)).heap[w1.heap.size]? = some (.cells #[.int .i64 f0, .int .i64 f1, .int .i64 f2, .int .i64 f3, .int .i64 f4, .int .i64 f5, .int .i64 wa] 24) := (heap_alloc_old w2 _ (Nat.lt_of_lt_of_le Z1 b2.size)).trans ((b2.block _ Z1).trans H1)
  have K2 : (w2.alloc (.cells #[.int .i64 f0, .int .i64 f1, .int .i64 f2, .int .i64 f3, .int .i64 y4, .int .i64 y5, .int .i64 wb] 24)).heap[w2.heap.size]? = some (.cells #[.int .i64 f0, .int .i64 f1, .int .i64 f2, .int .i64 f3, .int .i64 y4, .int .i64 y5, .int .i64 wb] 24) := heap_alloc_new w2 _
  have Z2 : w1.heap.size < (w2.alloc (.cells #[.int .i64 f0, .int .i64 f1, .int .i64 f2, .int .i64 f3, .int .i64 y4, .int .i64 y5, .int .i64 wb] 24)).heap.size := by have := b2.size; simp at *; omega
  have X2 : w2.heap.size < (w2.alloc (.cells #[.int .i64 f0, .int .i64 f1, .int .i64 f2, .int .i64 f3, .int .i64 y4, .int .i64 y5, .int .i64 wb] 24)).heap.size := by simp
  clear b2 H1 Z1 B1
  go_wp2_with fail
  refine (cC _ (hT.below B2).days).mono ?_; rintro e w3 ⟨rfl, b3⟩
  have B3 := below_al (B2.trans (b3.mono B2.size)) (B2.trans (b3.mono B2.size)).size (.cells #[.int .i64 c0, .int .i64 c1, .int .i64 c2, .int .i64 f3, .int .i64 c4, .int .i64 c5, .int .i64 ((wb + 1) % 7)] 24)
  have H3 : (w3.alloc (.cells #[.int .i64 c0, .int .i64 c1, .int .i64 c2, .int .i64 f3, .int .i64 c4, .int .i64 c5, .int .i64 ((wb + 1) % 7)] 24)).heap[w1.heap.size]? = some (.cells #[.int .i64 f0, .int .i64 f1, .int .i64 f2, .int .i64 f3, .int .i64 f4, .int .i64 f5, .int .i64 wa] 24) := (heap_alloc_old w3 _ (Nat.lt_of_lt_of_le Z2 b3.size)).trans ((b3.block _ Z2).trans H2)
  have K3 : (w3.alloc (.cells #[.int .i64 c0, .int .i64 c1, .int .i64 c2, .int .i64 f3, .int .i64 c4, .int .i64 c5, .int .i64 ((wb + 1) % 7)] 24)).heap[w2.heap.size]? = some (.cells #[.int .i64 f0, .int .i64 f1, .int .i64 f2, .int .i64 f3, .int .i64 y4, .int .i64 y5, .int .i64 wb] 24) := (heap_alloc_old w3 _ (Nat.lt_of_lt_of_le X2 b3.size)).trans ((b3.block _ X2).trans K2)
  have M3 : (w3.alloc (.cells #[.int .i64 c0, .int .i64 c1, .int .i64 c2, .int .i64 f3, .int .i64 c4, .int .i64 c5, .int .i64 ((wb + 1) % 7)] 24)).heap[w3.heap.size]? = some (.cells #[.int .i64 c0, .int .i64 c1, .int .i64 c2, .int .i64 f3, .int .i64 c4, .int .i64 c5, .int .i64 ((wb + 1) % 7)] 24) := heap_alloc_new w3 _
  have Y3 : w2.heap.size < (w3.alloc (.cells #[.int .i64 c0, .int .i64 c1, .int .i64 c2, .int .i64 f3, .int .i64 c4, .int .i64 c5, .int .i64 ((wb + 1) % 7)] 24)).heap.size := by have := b3.size; simp at *; omega
  have X3 : w1.heap.size < (w3.alloc (.cells #[.int .i64 c0, .int .i64 c1, .int .i64 c2, .int .i64 f3, .int .i64 c4, .int .i64 c5, .int .i64 ((wb + 1) % 7)] 24)).heap.size := by have := b3.size; simp at *; omega
  clear b3 H2 K2 Z2 X2 B2 cA cB cC
  have p0 := cellsT H3 0 _ rfl
  have q0 := cellsT K3 0 _ rfl
  have p1 := cellsT H3 1 _ rfl
  have q1 := cellsT K3 1 _ rfl
  have p2 := cellsT H3 2 _ rfl
  have q2 := cellsT K3 2 _ rfl
  have p3 := cellsT H3 3 _ rfl
  have q3 := cellsT K3 3 _ rfl
  have p4 := cellsT H3 4 _ rfl
  have q4 := cellsT K3 4 _ rfl
  have p5 := cellsT H3 5 _ rfl
  have q5 := cellsT K3 5 _ rfl
  have p6 := cellsT H3 6 _ rfl
  have q6 := cellsT K3 6 _ rfl
  have qq0 : ∀ ob, ((w3.alloc (.cells #[.int .i64 c0, .int .i64 c1, .int .i64 c2, .int .i64 f3, .int .i64 c4, .int .i64 c5, .int .i64 ((wb + 1) % 7)] 24)).alloc ob).cell? ⟨w2.heap.size, 0, none⟩ = some (.int .i64 f0) := fun ob => cellsT ((heap_alloc_old _ ob Y3).trans K3) 0 _ rfl
  have qq1 : ∀ ob, ((w3.alloc (.cells #[.int .i64 c0, .int .i64 c1, .int .i64 c2, .int .i64 f3, .int .i64 c4, .int .i64 c5, .int .i64 ((wb + 1) % 7)] 24)).alloc ob).cell? ⟨w2.heap.size, 1, none⟩ = some (.int .i64 f1) := fun ob => cellsT ((heap_alloc_old _ ob Y3).trans K3) 1 _ rfl
  have qq2 : ∀ ob, ((w3.alloc (.cells #[.int .i64 c0, .int .i64 c1, .int .i64 c2, .int .i64 f3, .int .i64 c4, .int .i64 c5, .int .i64 ((wb + 1) % 7)] 24)).alloc ob).cell? ⟨w2.heap.size, 2, none⟩ = some (.int .i64 f2) := fun ob => cellsT ((heap_alloc_old _ ob Y3).trans K3) 2 _ rfl
  have qq3 : ∀ ob, ((w3.alloc (.cells #[.int .i64 c0, .int .i64 c1, .int .i64 c2, .int .i64 f3, .int .i64 c4, .int .i64 c5, .int .i64 ((wb + 1) % 7)] 24)).alloc ob).cell? ⟨w2.heap.size, 3, none⟩ = some (.int .i64 f3) := fun ob => cellsT ((heap_alloc_old _ ob Y3).trans K3) 3 _ rfl
  have qq4 : ∀ ob, ((w3.alloc (.cells #[.int .i64 c0, .int .i64 c1, .int .i64 c2, .int .i64 f3, .int .i64 c4, .int .i64 c5, .int .i64 ((wb + 1) % 7)] 24)).alloc ob).cell? ⟨w2.heap.size, 4, none⟩ = some (.int .i64 y4) := fun ob => cellsT ((heap_alloc_old _ ob Y3).trans K3) 4 _ rfl
  have qq5 : ∀ ob, ((w3.alloc (.cells #[.int .i64 c0, .int .i64 c1, .int .i64 c2, .int .i64 f3, .int .i64 c4, .int .i64 c5, .int .i64 ((wb + 1) % 7)] 24)).alloc ob).cell? ⟨w2.heap.size, 5, none⟩ = some (.int .i64 y5) := fun ob => cellsT ((heap_alloc_old _ ob Y3).trans K3) 5 _ rfl
  have qq6 : ∀ ob, ((w3.alloc (.cells #[.int .i64 c0, .int .i64 c1, .int .i64 c2, .int .i64 f3, .int .i64 c4, .int .i64 c5, .int .i64 ((wb + 1) % 7)] 24)).alloc ob).cell? ⟨w2.heap.size, 6, none⟩ = some (.int .i64 wb) := fun ob => cellsT ((heap_alloc_old _ ob Y3).trans K3) 6 _ rfl
  have r3 := cellsT M3 3 _ rfl
  have r6 := cellsT M3 6 _ rfl
  go_wp2_with fail
  have z1 : (w3.alloc (.cells #[.int .i64 c0, .int .i64 c1, .int .i64 c2, .int .i64 f3, .int .i64 c4, .int .i64 c5, .int .i64 ((wb + 1) % 7)] 24)).heap.size = w3.heap.size + 1 := by simp
  have z2 : ((w3.alloc (.cells #[.int .i64 c0, .int .i64 c1, .int .i64 c2, .int .i64 f3, .int .i64 c4, .int .i64 c5, .int .i64 ((wb + 1) % 7)] 24)).alloc (.cells #[.int .i64 f0, .int .i64 f1, .int .i64 f2, .int .i64 f3, .int .i64 f4, .int .i64 f5] 34)).heap.size = w3.heap.size + 1 + 1 := by simp
  have HX : (((w3.alloc (.cells #[.int .i64 c0, .int .i64 c1, .int .i64 c2, .int .i64 f3, .int .i64 c4, .int .i64 c5, .int .i64 ((wb + 1) % 7)] 24)).alloc (.cells #[.int .i64 f0, .int .i64 f1, .int .i64 f2, .int .i64 f3, .int .i64 f4, .int .i64 f5] 34)).alloc (.cells #[.int .i64 f0, .int .i64 f1, .int .i64 f2, .int .i64 f3, .int .i64 y4, .int .i64 y5] 34)).heap[w3.heap.size + 1]? = some (.cells #[.int .i64 f0, .int .i64 f1, .int .i64 f2, .int .i64 f3, .int .i64 f4, .int .i64 f5] 34) := (heap_alloc_old _ _ (by rw [z2]; omega)).trans (by rw [← z1]; exact heap_alloc_new _ _)
  have HY : (((w3.alloc (.cells #[.int .i64 c0, .int .i64 c1, .int .i64 c2, .int .i64 f3, .int .i64 c4, .int .i64 c5, .int .i64 ((wb + 1) % 7)] 24)).alloc (.cells #[.int .i64 f0, .int .i64 f1, .int .i64 f2, .int .i64 f3, .int .i64 f4, .int .i64 f5] 34)).alloc (.cells #[.int .i64 f0, .int .i64 f1, .int .i64 f2, .int .i64 f3, .int .i64 y4, .int .i64 y5] 34)).heap[w3.heap.size + 1 + 1]? = some (.cells #[.int .i64 f0, .int .i64 f1, .int .i64 f2, .int .i64 f3, .int .i64 y4, .int .i64 y5] 34) := by rw [← z2]; exact heap_alloc_new _ _
  have HK : (((w3.alloc (.cells #[.int .i64 c0, .int .i64 c1, .int .i64 c2, .int .i64 f3, .int .i64 c4, .int .i64 c5, .int .i64 ((wb + 1) % 7)] 24)).alloc (.cells #[.int .i64 f0, .int .i64 f1, .int .i64 f2, .int .i64 f3, .int .i64 f4, .int .i64 f5] 34)).alloc (.cells #[.int .i64 f0, .int .i64 f1, .int .i64 f2, .int .i64 f3, .int .i64 y4, .int .i64 y5] 34)).heap[w2.heap.size]? = some (.cells #[.int .i64 f0, .int .i64 f1, .int .i64 f2, .int .i64 f3, .int .i64 y4, .int .i64 y5, .int .i64 wb] 24) := (heap_alloc_old _ _ (by rw [z2]; omega)).trans ((heap_alloc_old _ _ Y3).trans K3)
  have HM : (((w3.alloc (.cells #[.int .i64 c0, .int .i64 c1, .int .i64 c2, .int .i64 f3, .int .i64 c4, .int .i64 c5, .int .i64 ((wb + 1) % 7)] 24)).alloc (.cells #[.int .i64 f0, .int .i64 f1, .int .i64 f2, .int .i64 f3, .int .i64 f4, .int .i64 f5] 34)).alloc (.cells #[.int .i64 f0, .int .i64 f1, .int .i64 f2, .int .i64 f3, .int .i64 y4, .int .i64 y5] 34)).heap[w3.heap.size]? = some (.cells #[.int .i64 c0, .int .i64 c1, .int .i64 c2, .int .i64 f3, .int .i64 c4, .int .i64 c5, .int .i64 ((wb + 1) % 7)] 24) := (heap_alloc_old _ _ (by rw [z2]; omega)).trans ((heap_alloc_old _ _ (by rw [z1]; omega)).trans M3)
  have BB : Below w.heap.size w (((w3.alloc (.cells #[.int .i64 c0, .int .i64 c1, .int .i64 c2, .int .i64 f3, .int .i64 c4, .int .i64 c5, .int .i64 ((wb + 1) % 7)] 24)).alloc (.cells #[.int .i64 f0, .int .i64 f1, .int .i64 f2, .int .i64 f3, .int .i64 f4, .int .i64 f5] 34)).alloc (.cells #[.int .i64 f0, .int .i64 f1, .int .i64 f2, .int .i64 f3, .int .i64 y4, .int .i64 y5] 34)) := below_al (below_al B3 B3.size _) (below_al B3 B3.size _).size _
  clear p0 q0 qq0 p1 q1 qq1 p2 q2 qq2 p3 q3 qq3 p4 q4 qq4 p5 q5 qq5 p6 q6 qq6 B3 H3 K3 M3 z1 z2 Y3 X3 r3 r6
  change Code.wp _ _ _ _ (((w3.alloc (.cells #[.int .i64 c0, .int .i64 c1, .int .i64 c2, .int .i64 f3, .int .i64 c4, .int .i64 c5, .int .i64 ((wb + 1) % 7)] 24)).alloc (.cells #[.int .i64 f0, .int .i64 f1, .int .i64 f2, .int .i64 f3, .int .i64 f4, .int .i64 f5] 34)).alloc (.cells #[.int .i64 f0, .int .i64 f1, .int .i64 f2, .int .i64 f3, .int .i64 y4, .int .i64 y5] 34))
  generalize (((w3.alloc (.cells #[.int .i64 c0, .int .i64 c1, .int .i64 c2, .int .i64 f3, .int .i64 c4, .int .i64 c5, .int .i64 ((wb + 1) % 7)] 24)).alloc (.cells #[.int .i64 f0, .int .i64 f1, .int .i64 f2, .int .i64 f3, .int .i64 f4, .int .i64 f5] 34)).alloc (.cells #[.int .i64 f0, .int .i64 f1, .int .i64 f2, .int .i64 f3, .int .i64 y4, .int .i64 y5] 34)) = wq at HX HY HK HM BB ⊢
  have x0 : wq.cell? ⟨w3.heap.size + 1, 0, none⟩ = some (.int .i64 f0) := by rw [cell_of_row _ _ _ _ _ _ HX]; rfl
  have v0 : wq.cell? ⟨w3.heap.size + 1 + 1, 0, none⟩ = some (.int .i64 f0) := by rw [cell_of_row _ _ _ _ _ _ HY]; rfl
  have x1 : wq.cell? ⟨w3.heap.size + 1, 1, none⟩ = some (.int .i64 f1) := by rw [cell_of_row _ _ _ _ _ _ HX]; rfl
  have v1 : wq.cell? ⟨w3.heap.size + 1 + 1, 1, none⟩ = some (.int .i64 f1) := by rw [cell_of_row _ _ _ _ _ _ HY]; rfl
  have x2 : wq.cell? ⟨w3.heap.size + 1, 2, none⟩ = some (.int .i64 f2) := by rw [cell_of_row _ _ _ _ _ _ HX]; rfl
  have v2 : wq.cell? ⟨w3.heap.size + 1 + 1, 2, none⟩ = some (.int .i64 f2) := by rw [cell_of_row _ _ _ _ _ _ HY]; rfl
  have x3 : wq.cell? ⟨w3.heap.size + 1, 3, none⟩ = some (.int .i64 f3) := by rw [cell_of_row _ _ _ _ _ _ HX]; rfl
  have v3 : wq.cell? ⟨w3.heap.size + 1 + 1, 3, none⟩ = some (.int .i64 f3) := by rw [cell_of_row _ _ _ _ _ _ HY]; rfl
  have x4 : wq.cell? ⟨w3.heap.size + 1, 4, none⟩ = some (.int .i64 f4) := by rw [cell_of_row _ _ _ _ _ _ HX]; rfl
  have v4 : wq.cell? ⟨w3.heap.size + 1 + 1, 4, none⟩ = some (.int .i64 y4) := by rw [cell_of_row _ _ _ _ _ _ HY]; rfl
  have x5 : wq.cell? ⟨w3.heap.size + 1, 5, none⟩ = some (.int .i64 f5) := by rw [cell_of_row _ _ _ _ _ _ HX]; rfl
  have v5 : wq.cell? ⟨w3.heap.size + 1 + 1, 5, none⟩ = some (.int .i64 y5) := by rw [cell_of_row _ _ _ _ _ _ HY]; rfl
  have k3 := cellsT HK 3 _ rfl
  have k6 := cellsT HK 6 _ rfl
  have m3 := cellsT HM 3 _ rfl
  have m6 := cellsT HM 6 _ rfl
  clear HX HY HK HM
  refine wp_loop_rounds 5 ?_
  rw [rounds_succ]
  go_wp2
  go_quiet (fail)
  go_wp2
  rw [rounds_succ]
  go_wp2
  go_quiet (fail)
  go_wp2
  rw [rounds_succ]
  go_wp2
  go_quiet (fail)
  go_wp2
  rw [rounds_succ]
  go_wp2
  go_quiet (fail)
  go_wp2
  rw [rounds_succ]
  go_wp2
  go_quiet (fail)
  go_wp2
  have hd1 : decide (f4 < y4) = true := decide_eq_true hlt
  have x7 : IntKind.i64.wrap (wb + 1) = wb + 1 := wrapI (by omega) (by omega)
  have hw1 := hw.1
  have hw2 := hw.2
  go_quiet (fail)
  go_wp2
  go_ret
  exact ⟨rfl, by repeat (first | exact BB | refine below_dN ?_ _)⟩
set_option maxHeartbeats 4000000 in
set_option maxRecDepth 100000 in
theorem order_5 (a b : Nat) (hab : a < b) (hb : b < 4294880896) {c0 c1 c2 c4 c5 f0 f1 f2 f3 f4 f5 wa wb y5 : Int} (hlt : f5 < y5) (hw : 0 ≤ wb ∧ wb < 7)
    (cA : ∀ w, Days w → Calls Tryd.prog 10 #[.int .i64 a] w fun e w' => e = .returned (.tuple #[.agg #[.int .i64 f0, .int .i64 f1, .int .i64 f2, .int .i64 f3, .int .i64 f4, .int .i64 f5, .int .i64 wa], .int .i64 0]) ∧ Below w.heap.size w w')
    (cB : ∀ w, Days w → Calls Tryd.prog 10 #[.int .i64 b] w fun e w' => e = .returned (.tuple #[.agg #[.int .i64 f0, .int .i64 f1, .int .i64 f2, .int .i64 f3, .int .i64 f4, .int .i64 y5, .int .i64 wb], .int .i64 0]) ∧ Below w.heap.size w w')
    (cC : ∀ w, Days w → Calls Tryd.prog 10 #[.int .i64 (b + 86400)] w fun e w' => e = .returned (.tuple #[.agg #[.int .i64 c0, .int .i64 c1, .int .i64 c2, .int .i64 f3, .int .i64 c4, .int .i64 c5, .int .i64 ((wb + 1) % 7)], .int .i64 0]) ∧ Below w.heap.size w w')
    (w : World) (hT : Tabs w) (hw0 : 0 < w.heap.size) : Calls Tryd.prog 6 #[.int .i64 a, .int .i64 b] w fun e w' => e = .returned (.bool true) ∧ Below w.heap.size w w' := by
  have ge1 : (f5 == y5) = false := by rw [beq_eq_false_iff_ne]; omega
  have ge2 : ¬ f5 = y5 := by omega
  go_enter Tryd.func6, Tryd.ntmps6
  go_wp2_with fail
  refine (shown_any _ hT hw0).mono ?_; rintro e w0 ⟨rfl, b0⟩
  have T0 := hT.below b0
  go_wp2_with fail
  refine (cA _ T0.days).mono ?_; rintro e w1 ⟨rfl, b1⟩
  have B1 := below_al (b0.trans (b1.mono b0.size)) (b0.trans (b1.mono b0.size)).size (.cells #[.int .i64 f0, .int .i64 f1, .int .i64 f2, .int .i64 f3, .int .i64 f4, .int .i64 f5, .int .i64 wa] 24)
  have H1 : (w1.alloc (.cells #[.int .i64 f0, .int .i64 f1, .int .i64 f2, .int .i64 f3, .int .i64 f4, .int .i64 f5, .int .i64 wa] 24)).heap[w1.heap.size]? = some (.cells #[.int .i64 f0, .int .i64 f1, .int .i64 f2, .int .i64 f3, .int .i64 f4, .int .i64 f5, .int .i64 wa] 24) := heap_alloc_new w1 _
  have Z1 : w1.heap.size < (w1.alloc (.cells #[.int .i64 f0, .int .i64 f1, .int .i64 f2, .int .i64 f3, .int .i64 f4, .int .i64 f5, .int .i64 wa] 24)).heap.size := by simp
  clear b0 b1 T0
  go_wp2_with fail
  refine (cB _ (hT.below B1).days).mono ?_; rintro e w2 ⟨rfl, b2⟩
  have B2 := below_al (B1.trans (b2.mono B1.size)) (B1.trans (b2.mono B1.size)).size (.cells #[.int .i64 f0, .int .i64 f1, .int .i64 f2, .int .i64 f3, .int .i64 f4, .int .i64 y5, .int .i64 wb] 24)
  have H2 : (w2.alloc (.cells #[.int .i64 f0, .int .i64 f1, .int .i64 f2, .int .i64 f3, .int .i64 f4, .int .i64 y5, .int .i64 wb] 24)).heap[w1.heap.size]? = some (.cells #[.int .i64 f0, .int .i64 f1, .int .i64 f2, .int .i64 f3, .int .i64 f4, .int .i64 f5, .int .i64 wa] 24) := (heap_alloc_old w2 _ (Nat.lt_of_lt_of_le Z1 b2.size)).trans ((b2.block _ Z1).trans H1)
  have K2 : (w2.alloc (.cells #[.int .i64 f0, .int .i64 f1, .int .i64 f2, .int .i64 f3, .int .i64 f4, .int .i64 y5, .int .i64 wb] 24)).heap[w2.heap.size]? = some (.cells #[.int .i64 f0, .int .i64 f1, .int .i64 f2, .int .i64 f3, .int .i64 f4, .int .i64 y5, .int .i64 wb] 24) := heap_alloc_new w2 _
  have Z2 : w1.heap.size < (w2.alloc (.cells #[.int .i64 f0, .int .i64 f1, .int .i64 f2, .int .i64 f3, .int .i64 f4, .int .i64 y5, .int .i64 wb] 24)).heap.size := by have := b2.size; simp at *; omega
  have X2 : w2.heap.size < (w2.alloc (.cells #[.int .i64 f0, .int .i64 f1, .int .i64 f2, .int .i64 f3, .int .i64 f4, .int .i64 y5, .int .i64 wb] 24)).heap.size := by simp
  clear b2 H1 Z1 B1
  go_wp2_with fail
  refine (cC _ (hT.below B2).days).mono ?_; rintro e w3 ⟨rfl, b3⟩
  have B3 := below_al (B2.trans (b3.mono B2.size)) (B2.trans (b3.mono B2.size)).size (.cells #[.int .i64 c0, .int .i64 c1, .int .i64 c2, .int .i64 f3, .int .i64 c4, .int .i64 c5, .int .i64 ((wb + 1) % 7)] 24)
  have H3 : (w3.alloc (.cells #[.int .i64 c0, .int .i64 c1, .int .i64 c2, .int .i64 f3, .int .i64 c4, .int .i64 c5, .int .i64 ((wb + 1) % 7)] 24)).heap[w1.heap.size]? = some (.cells #[.int .i64 f0, .int .i64 f1, .int .i64 f2, .int .i64 f3, .int .i64 f4, .int .i64 f5, .int .i64 wa] 24) := (heap_alloc_old w3 _ (Nat.lt_of_lt_of_le Z2 b3.size)).trans ((b3.block _ Z2).trans H2)
  have K3 : (w3.alloc (.cells #[.int .i64 c0, .int .i64 c1, .int .i64 c2, .int .i64 f3, .int .i64 c4, .int .i64 c5, .int .i64 ((wb + 1) % 7)] 24)).heap[w2.heap.size]? = some (.cells #[.int .i64 f0, .int .i64 f1, .int .i64 f2, .int .i64 f3, .int .i64 f4, .int .i64 y5, .int .i64 wb] 24) := (heap_alloc_old w3 _ (Nat.lt_of_lt_of_le X2 b3.size)).trans ((b3.block _ X2).trans K2)
  have M3 : (w3.alloc (.cells #[.int .i64 c0, .int .i64 c1, .int .i64 c2, .int .i64 f3, .int .i64 c4, .int .i64 c5, .int .i64 ((wb + 1) % 7)] 24)).heap[w3.heap.size]? = some (.cells #[.int .i64 c0, .int .i64 c1, .int .i64 c2, .int .i64 f3, .int .i64 c4, .int .i64 c5, .int .i64 ((wb + 1) % 7)] 24) := heap_alloc_new w3 _
  have Y3 : w2.heap.size < (w3.alloc (.cells #[.int .i64 c0, .int .i64 c1, .int .i64 c2, .int .i64 f3, .int .i64 c4, .int .i64 c5, .int .i64 ((wb + 1) % 7)] 24)).heap.size := by have := b3.size; simp at *; omega
  have X3 : w1.heap.size < (w3.alloc (.cells #[.int .i64 c0, .int .i64 c1, .int .i64 c2, .int .i64 f3, .int .i64 c4, .int .i64 c5, .int .i64 ((wb + 1) % 7)] 24)).heap.size := by have := b3.size; simp at *; omega
  clear b3 H2 K2 Z2 X2 B2 cA cB cC
  have p0 := cellsT H3 0 _ rfl
  have q0 := cellsT K3 0 _ rfl
  have p1 := cellsT H3 1 _ rfl
  have q1 := cellsT K3 1 _ rfl
  have p2 := cellsT H3 2 _ rfl
  have q2 := cellsT K3 2 _ rfl
  have p3 := cellsT H3 3 _ rfl
  have q3 := cellsT K3 3 _ rfl
  have p4 := cellsT H3 4 _ rfl
  have q4 := cellsT K3 4 _ rfl
  have p5 := cellsT H3 5 _ rfl
  have q5 := cellsT K3 5 _ rfl
  have p6 := cellsT H3 6 _ rfl
  have q6 := cellsT K3 6 _ rfl
  have qq0 : ∀ ob, ((w3.alloc (.cells #[.int .i64 c0, .int .i64 c1, .int .i64 c2, .int .i64 f3, .int .i64 c4, .int .i64 c5, .int .i64 ((wb + 1) % 7)] 24)).alloc ob).cell? ⟨w2.heap.size, 0, none⟩ = some (.int .i64 f0) := fun ob => cellsT ((heap_alloc_old _ ob Y3).trans K3) 0 _ rfl
  have qq1 : ∀ ob, ((w3.alloc (.cells #[.int .i64 c0, .int .i64 c1, .int .i64 c2, .int .i64 f3, .int .i64 c4, .int .i64 c5, .int .i64 ((wb + 1) % 7)] 24)).alloc ob).cell? ⟨w2.heap.size, 1, none⟩ = some (.int .i64 f1) := fun ob => cellsT ((heap_alloc_old _ ob Y3).trans K3) 1 _ rfl
  have qq2 : ∀ ob, ((w3.alloc (.cells #[.int .i64 c0, .int .i64 c1, .int .i64 c2, .int .i64 f3, .int .i64 c4, .int .i64 c5, .int .i64 ((wb + 1) % 7)] 24)).alloc ob).cell? ⟨w2.heap.size, 2, none⟩ = some (.int .i64 f2) := fun ob => cellsT ((heap_alloc_old _ ob Y3).trans K3) 2 _ rfl
  have qq3 : ∀ ob, ((w3.alloc (.cells #[.int .i64 c0, .int .i64 c1, .int .i64 c2, .int .i64 f3, .int .i64 c4, .int .i64 c5, .int .i64 ((wb + 1) % 7)] 24)).alloc ob).cell? ⟨w2.heap.size, 3, none⟩ = some (.int .i64 f3) := fun ob => cellsT ((heap_alloc_old _ ob Y3).trans K3) 3 _ rfl
  have qq4 : ∀ ob, ((w3.alloc (.cells #[.int .i64 c0, .int .i64 c1, .int .i64 c2, .int .i64 f3, .int .i64 c4, .int .i64 c5, .int .i64 ((wb + 1) % 7)] 24)).alloc ob).cell? ⟨w2.heap.size, 4, none⟩ = some (.int .i64 f4) := fun ob => cellsT ((heap_alloc_old _ ob Y3).trans K3) 4 _ rfl
  have qq5 : ∀ ob, ((w3.alloc (.cells #[.int .i64 c0, .int .i64 c1, .int .i64 c2, .int .i64 f3, .int .i64 c4, .int .i64 c5, .int .i64 ((wb + 1) % 7)] 24)).alloc ob).cell? ⟨w2.heap.size, 5, none⟩ = some (.int .i64 y5) := fun ob => cellsT ((heap_alloc_old _ ob Y3).trans K3) 5 _ rfl
  have qq6 : ∀ ob, ((w3.alloc (.cells #[.int .i64 c0, .int .i64 c1, .int .i64 c2, .int .i64 f3, .int .i64 c4, .int .i64 c5, .int .i64 ((wb + 1) % 7)] 24)).alloc ob).cell? ⟨w2.heap.size, 6, none⟩ = some (.int .i64 wb) := fun ob => cellsT ((heap_alloc_old _ ob Y3).trans K3) 6 _ rfl
  have r3 := cellsT M3 3 _ rfl
  have r6 := cellsT M3 6 _ rfl
  go_wp2_with fail
  have z1 : (w3.alloc (.cells #[.int .i64 c0, .int .i64 c1, .int .i64 c2, .int .i64 f3, .int .i64 c4, .int .i64 c5, .int .i64 ((wb + 1) % 7)] 24)).heap.size = w3.heap.size + 1 := by simp
  have z2 : ((w3.alloc (.cells #[.int .i64 c0, .int .i64 c1, .int .i64 c2, .int .i64 f3, .int .i64 c4, .int .i64 c5, .int .i64 ((wb + 1) % 7)] 24)).alloc (.cells #[.int .i64 f0, .int .i64 f1, .int .i64 f2, .int .i64 f3, .int .i64 f4, .int .i64 f5] 34)).heap.size = w3.heap.size + 1 + 1 := by simp
  have HX : (((w3.alloc (.cells #[.int .i64 c0, .int .i64 c1, .int .i64 c2, .int .i64 f3, .int .i64 c4, .int .i64 c5, .int .i64 ((wb + 1) % 7)] 24)).alloc (.cells #[.int .i64 f0, .int .i64 f1, .int .i64 f2, .int .i64 f3, .int .i64 f4, .int .i64 f5] 34)).alloc (.cells #[.int .i64 f0, .int .i64 f1, .int .i64 f2, .int .i64 f3, .int .i64 f4, .int .i64 y5] 34)).heap[w3.heap.size + 1]? = some (.cells #[.int .i64 f0, .int .i64 f1, .int .i64 f2, .int .i64 f3, .int .i64 f4, .int .i64 f5] 34) := (heap_alloc_old _ _ (by rw [z2]; omega)).trans (by rw [← z1]; exact heap_alloc_new _ _)
  have HY : (((w3.alloc (.cells #[.int .i64 c0, .int .i64 c1, .int .i64 c2, .int .i64 f3, .int .i64 c4, .int .i64 c5, .int .i64 ((wb + 1) % 7)] 24)).alloc (.cells #[.int .i64 f0, .int .i64 f1, .int .i64 f2, .int .i64 f3, .int .i64 f4, .int .i64 f5] 34)).alloc (.cells #[.int .i64 f0, .int .i64 f1, .int .i64 f2, .int .i64 f3, .int .i64 f4, .int .i64 y5] 34)).heap[w3.heap.size + 1 + 1]? = some (.cells #[.int .i64 f0, .int .i64 f1, .int .i64 f2, .int .i64 f3, .int .i64 f4, .int .i64 y5] 34) := by rw [← z2]; exact heap_alloc_new _ _
  have HK : (((w3.alloc (.cells #[.int .i64 c0, .int .i64 c1, .int .i64 c2, .int .i64 f3, .int .i64 c4, .int .i64 c5, .int .i64 ((wb + 1) % 7)] 24)).alloc (.cells #[.int .i64 f0, .int .i64 f1, .int .i64 f2, .int .i64 f3, .int .i64 f4, .int .i64 f5] 34)).alloc (.cells #[.int .i64 f0, .int .i64 f1, .int .i64 f2, .int .i64 f3, .int .i64 f4, .int .i64 y5] 34)).heap[w2.heap.size]? = some (.cells #[.int .i64 f0, .int .i64 f1, .int .i64 f2, .int .i64 f3, .int .i64 f4, .int .i64 y5, .int .i64 wb] 24) := (heap_alloc_old _ _ (by rw [z2]; omega)).trans ((heap_alloc_old _ _ Y3).trans K3)
  have HM : (((w3.alloc (.cells #[.int .i64 c0, .int .i64 c1, .int .i64 c2, .int .i64 f3, .int .i64 c4, .int .i64 c5, .int .i64 ((wb + 1) % 7)] 24)).alloc (.cells #[.int .i64 f0, .int .i64 f1, .int .i64 f2, .int .i64 f3, .int .i64 f4, .int .i64 f5] 34)).alloc (.cells #[.int .i64 f0, .int .i64 f1, .int .i64 f2, .int .i64 f3, .int .i64 f4, .int .i64 y5] 34)).heap[w3.heap.size]? = some (.cells #[.int .i64 c0, .int .i64 c1, .int .i64 c2, .int .i64 f3, .int .i64 c4, .int .i64 c5, .int .i64 ((wb + 1) % 7)] 24) := (heap_alloc_old _ _ (by rw [z2]; omega)).trans ((heap_alloc_old _ _ (by rw [z1]; omega)).trans M3)
  have BB : Below w.heap.size w (((w3.alloc (.cells #[.int .i64 c0, .int .i64 c1, .int .i64 c2, .int .i64 f3, .int .i64 c4, .int .i64 c5, .int .i64 ((wb + 1) % 7)] 24)).alloc (.cells #[.int .i64 f0, .int .i64 f1, .int .i64 f2, .int .i64 f3, .int .i64 f4, .int .i64 f5] 34)).alloc (.cells #[.int .i64 f0, .int .i64 f1, .int .i64 f2, .int .i64 f3, .int .i64 f4, .int .i64 y5] 34)) := below_al (below_al B3 B3.size _) (below_al B3 B3.size _).size _
  clear p0 q0 qq0 p1 q1 qq1 p2 q2 qq2 p3 q3 qq3 p4 q4 qq4 p5 q5 qq5 p6 q6 qq6 B3 H3 K3 M3 z1 z2 Y3 X3 r3 r6
  change Code.wp _ _ _ _ (((w3.alloc (.cells #[.int .i64 c0, .int .i64 c1, .int .i64 c2, .int .i64 f3, .int .i64 c4, .int .i64 c5, .int .i64 ((wb + 1) % 7)] 24)).alloc (.cells #[.int .i64 f0, .int .i64 f1, .int .i64 f2, .int .i64 f3, .int .i64 f4, .int .i64 f5] 34)).alloc (.cells #[.int .i64 f0, .int .i64 f1, .int .i64 f2, .int .i64 f3, .int .i64 f4, .int .i64 y5] 34))
  generalize (((w3.alloc (.cells #[.int .i64 c0, .int .i64 c1, .int .i64 c2, .int .i64 f3, .int .i64 c4, .int .i64 c5, .int .i64 ((wb + 1) % 7)] 24)).alloc (.cells #[.int .i64 f0, .int .i64 f1, .int .i64 f2, .int .i64 f3, .int .i64 f4, .int .i64 f5] 34)).alloc (.cells #[.int .i64 f0, .int .i64 f1, .int .i64 f2, .int .i64 f3, .int .i64 f4, .int .i64 y5] 34)) = wq at HX HY HK HM BB ⊢
  have x0 : wq.cell? ⟨w3.heap.size + 1, 0, none⟩ = some (.int .i64 f0) := by rw [cell_of_row _ _ _ _ _ _ HX]; rfl
  have v0 : wq.cell? ⟨w3.heap.size + 1 + 1, 0, none⟩ = some (.int .i64 f0) := by rw [cell_of_row _ _ _ _ _ _ HY]; rfl
  have x1 : wq.cell? ⟨w3.heap.size + 1, 1, none⟩ = some (.int .i64 f1) := by rw [cell_of_row _ _ _ _ _ _ HX]; rfl
  have v1 : wq.cell? ⟨w3.heap.size + 1 + 1, 1, none⟩ = some (.int .i64 f1) := by rw [cell_of_row _ _ _ _ _ _ HY]; rfl
  have x2 : wq.cell? ⟨w3.heap.size + 1, 2, none⟩ = some (.int .i64 f2) := by rw [cell_of_row _ _ _ _ _ _ HX]; rfl
  have v2 : wq.cell? ⟨w3.heap.size + 1 + 1, 2, none⟩ = some (.int .i64 f2) := by rw [cell_of_row _ _ _ _ _ _ HY]; rfl
  have x3 : wq.cell? ⟨w3.heap.size + 1, 3, none⟩ = some (.int .i64 f3) := by rw [cell_of_row _ _ _ _ _ _ HX]; rfl
  have v3 : wq.cell? ⟨w3.heap.size + 1 + 1, 3, none⟩ = some (.int .i64 f3) := by rw [cell_of_row _ _ _ _ _ _ HY]; rfl
  have x4 : wq.cell? ⟨w3.heap.size + 1, 4, none⟩ = some (.int .i64 f4) := by rw [cell_of_row _ _ _ _ _ _ HX]; rfl
  have v4 : wq.cell? ⟨w3.heap.size + 1 + 1, 4, none⟩ = some (.int .i64 f4) := by rw [cell_of_row _ _ _ _ _ _ HY]; rfl
  have x5 : wq.cell? ⟨w3.heap.size + 1, 5, none⟩ = some (.int .i64 f5) := by rw [cell_of_row _ _ _ _ _ _ HX]; rfl
  have v5 : wq.cell? ⟨w3.heap.size + 1 + 1, 5, none⟩ = some (.int .i64 y5) := by rw [cell_of_row _ _ _ _ _ _ HY]; rfl
  have k3 := cellsT HK 3 _ rfl
  have k6 := cellsT HK 6 _ rfl
  have m3 := cellsT HM 3 _ rfl
  have m6 := cellsT HM 6 _ rfl
  clear HX HY HK HM
  refine wp_loop_rounds 6 ?_
  rw [rounds_succ]
  go_wp2
  go_quiet (fail)
  go_wp2
  rw [rounds_succ]
  go_wp2
  go_quiet (fail)
  go_wp2
  rw [rounds_succ]
  go_wp2
  go_quiet (fail)
  go_wp2
  rw [rounds_succ]
  go_wp2
  go_quiet (fail)
  go_wp2
  rw [rounds_succ]
  go_wp2
  go_quiet (fail)
  go_wp2
  rw [rounds_succ]
  go_wp2
  go_quiet (fail)
  go_wp2
  have hd1 : decide (f5 < y5) = true := decide_eq_true hlt
  have x7 : IntKind.i64.wrap (wb + 1) = wb + 1 := wrapI (by omega) (by omega)
  have hw1 := hw.1
  have hw2 := hw.2
  go_quiet (fail)
  go_wp2
  go_ret
  exact ⟨rfl, by repeat (first | exact BB | refine below_dN ?_ _)⟩
end Go.Proofs.YtjbojboiagbofaaDoor
