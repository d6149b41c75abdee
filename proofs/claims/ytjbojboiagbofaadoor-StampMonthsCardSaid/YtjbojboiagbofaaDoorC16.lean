/- The document's clock. -/
import Derived.Test.YtjbojboiagbofaaDoorC15
set_option linter.unusedSimpArgs false
set_option linter.unusedVariables false
namespace Go.Proofs.YtjbojboiagbofaaDoor
open Go.RowKit Go.Shelf

set_option maxHeartbeats 4000000 in
theorem rclock_any (y m d h mi se wd : Int) (hn mn sn : Nat) (hh : h = hn) (hm : mi = mn) (hs : se = sn) (h1 : hn < 100) (h2 : mn < 100) (h3 : sn < 100) (w : World) :
    Calls Tryd.prog 29 #[.agg #[.int .i64 y, .int .i64 m, .int .i64 d, .int .i64 h, .int .i64 mi, .int .i64 se, .int .i64 wd]] w fun e w' => e = .returned (.string ⟨(clockL hn mn sn).toArray⟩) ∧ Below w.heap.size w w' := by
  have c1 := fun w => wide_two hn h1 w
  have c2 := fun w => wide_two mn h2 w
  have c3 := fun w => wide_two sn h3 w
  rw [← hh] at c1
  rw [← hm] at c2
  rw [← hs] at c3
  unfold clockL
  clear h1 h2 h3 hh hm hs
  have z1 : (⟨(dg2 hn).toArray⟩ : ByteArray).size = 2 := rfl
  have z2 : (⟨(dg2 mn).toArray⟩ : ByteArray).size = 2 := rfl
  have z3 : (⟨(dg2 sn).toArray⟩ : ByteArray).size = 2 := rfl
  rw [← str_app, ← str_app, ← str_app, ← str_app, ← str_app]
  generalize (⟨(dg2 hn).toArray⟩ : ByteArray) = s1 at *
  generalize (⟨(dg2 mn).toArray⟩ : ByteArray) = s2 at *
  generalize (⟨(dg2 sn).toArray⟩ : ByteArray) = s3 at *
  have hh0 : (w.alloc (.cells #[.int .i64 y, .int .i64 m, .int .i64 d, .int .i64 h, .int .i64 mi, .int .i64 se, .int .i64 wd] 24)).drew.heap[w.heap.size]? = some (.cells #[.int .i64 y, .int .i64 m, .int .i64 d, .int .i64 h, .int .i64 mi, .int .i64 se, .int .i64 wd] 24) := heap_alloc_new w _
  have hb0 : Below w.heap.size w (w.alloc (.cells #[.int .i64 y, .int .i64 m, .int .i64 d, .int .i64 h, .int .i64 mi, .int .i64 se, .int .i64 wd] 24)).drew := below_dn _ 1
  have hz0 : w.heap.size < (w.alloc (.cells #[.int .i64 y, .int .i64 m, .int .i64 d, .int .i64 h, .int .i64 mi, .int .i64 se, .int .i64 wd] 24)).drew.heap.size := by show _ < (w.alloc _).heap.size; simp
  have q : ∀ W : World, W.heap[w.heap.size]? = some (.cells #[.int .i64 y, .int .i64 m, .int .i64 d, .int .i64 h, .int .i64 mi, .int .i64 se, .int .i64 wd] 24) → ∀ i v, (#[Value.int .i64 y, .int .i64 m, .int .i64 d, .int .i64 h, .int .i64 mi, .int .i64 se, .int .i64 wd] : Array Value)[i]? = some v → W.cell? ⟨w.heap.size, i, none⟩ = some v := fun W hW i v hv => by rw [cell_of_row _ _ _ _ _ _ hW]; exact hv
  go_enter Tryd.func29, Tryd.ntmps29
  go_wp2
  go_region_held3 (fun W => W.cell? ⟨w.heap.size, 3, none⟩ = some (.int .i64 h) ∧ W.cell? ⟨w.heap.size, 4, none⟩ = some (.int .i64 mi) ∧ W.cell? ⟨w.heap.size, 5, none⟩ = some (.int .i64 se)) (go_keep) (first
    | (go_at_call_of 27 (Value.int IntKind.i64 h); refine (c1 _).mono ?_; rintro e' w1 ⟨rfl, b1⟩; have H1 := (b1.block _ hz0).trans hh0; have Z1 := Nat.lt_of_lt_of_le hz0 b1.size; have B1 := hb0.trans (b1.mono (Nat.le_of_lt hz0)); have r3 := q w1 H1 3 _ rfl; have r4 := q w1 H1 4 _ rfl; have r5 := q w1 H1 5 _ rfl)
    | (go_at_call_of 27 (Value.int IntKind.i64 mi); refine (c2 _).mono ?_; rintro e' w2 ⟨rfl, b2⟩; have H2 := (b2.block _ Z1).trans H1; have Z2 := Nat.lt_of_lt_of_le Z1 b2.size; have B2 := B1.trans (b2.mono (Nat.le_of_lt Z1)); have r3 := q w2 H2 3 _ rfl; have r4 := q w2 H2 4 _ rfl; have r5 := q w2 H2 5 _ rfl)
    | (go_at_call_of 27 (Value.int IntKind.i64 se); refine (c3 _).mono ?_; rintro e' w3 ⟨rfl, b3⟩; have H3 := (b3.block _ Z2).trans H2; have Z3 := Nat.lt_of_lt_of_le Z2 b3.size; have B3 := B2.trans (b3.mono (Nat.le_of_lt Z2)); have r3 := q w3 H3 3 _ rfl; have r4 := q w3 H3 4 _ rfl; have r5 := q w3 H3 5 _ rfl))
  clear r3 r4 r5 q H1 H2 H3 b2 b3 hh0
  go_wp2
  go_ret
  refine ⟨ret_str ?_, B3⟩
  simp only [ByteArray.append_assoc]
end Go.Proofs.YtjbojboiagbofaaDoor
