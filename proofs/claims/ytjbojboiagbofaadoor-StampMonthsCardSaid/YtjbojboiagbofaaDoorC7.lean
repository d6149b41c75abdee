/- secondsTo, Second. -/
import Derived.Test.YtjbojboiagbofaaDoorC7a
import Derived.Deep.RegionHeld3
set_option linter.unusedSimpArgs false
set_option linter.unusedVariables false
namespace Go.Proofs.YtjbojboiagbofaaDoor
open Go.RowKit

set_option maxHeartbeats 2000000 in
theorem secondsTo_yes (y m d h mi se wd : Int) (k j e : Nat) (hy : y = 1999 + k) (hk : k ≤ 137) (hm : m = j + 1) (hj : j < 12) (hd : d = e + 1) (he : e < dim k j) (hT : OkH h mi se) (w : World) (hD : Days w) :
    Calls Tryd.prog 31 #[.agg #[.int .i64 y, .int .i64 m, .int .i64 d, .int .i64 h, .int .i64 mi, .int .i64 se, .int .i64 wd]] w fun e' w' => e' = .returned (.tuple #[.int .i64 (((yd k + md k j + e : Nat) - 365) * 86400 + h * 3600 + mi * 60 + se), .bool true]) ∧ Below w.heap.size w w' := by
  have cD := isDate_yes y m d h mi se wd k j e hy hk hm hj hd he
  have cT := isTime_yes y m d h mi se wd hT
  have cN := daysTo_any y m d h mi se wd k j e hy hk hm hj hd he
  have hn0 : yd k + md k j + e < 60000 := by
    have h1 := yd_le k
    have h2 := md_mono k (i := j) (j := 12) (by omega)
    rw [md_12] at h2
    have := diy_le k
    have := dim_le k j
    omega
  generalize yd k + md k j + e = n at cN hn0 ⊢
  have hT' := hT
  obtain ⟨t1, t2, t3⟩ := hT'
  have hb1 : Below w.heap.size w (w.alloc (.cells #[.int .i64 y, .int .i64 m, .int .i64 d, .int .i64 h, .int .i64 mi, .int .i64 se, .int .i64 wd] 24)) := (Below.refl _ _).alloc (Nat.le_refl _) _
  have hh1 : (w.alloc (.cells #[.int .i64 y, .int .i64 m, .int .i64 d, .int .i64 h, .int .i64 mi, .int .i64 se, .int .i64 wd] 24)).heap[w.heap.size]? = some (.cells #[.int .i64 y, .int .i64 m, .int .i64 d, .int .i64 h, .int .i64 mi, .int .i64 se, .int .i64 wd] 24) := heap_alloc_new w _
  have hD1 := hD.below hb1
  have hz1 : w.heap.size < (w.alloc (.cells #[.int .i64 y, .int .i64 m, .int .i64 d, .int .i64 h, .int .i64 mi, .int .i64 se, .int .i64 wd] 24)).heap.size := by simp
  clear hy hk hm hj hd he hT
  go_enter Tryd.func31, Tryd.ntmps31
  go_wp2_with fail
  refine (cD _ hD1).mono ?_; rintro e' w2 ⟨rfl, b2⟩
  have hh2 := (b2.block w.heap.size hz1).trans hh1
  have hD2 := hD1.below b2
  have hb2 := hb1.trans (b2.mono (Nat.le_of_lt hz1))
  have hz2 : w.heap.size < w2.heap.size := Nat.lt_of_lt_of_le hz1 b2.size
  clear b2 hb1 hh1 hD1 hz1
  have q : ∀ i v, (#[Value.int .i64 y, .int .i64 m, .int .i64 d, .int .i64 h, .int .i64 mi, .int .i64 se, .int .i64 wd] : Array Value)[i]? = some v → w2.cell? ⟨w.heap.size, i, none⟩ = some v := fun i v hv => by rw [cell_of_row _ _ _ _ _ _ hh2]; exact hv
  have q0 := q 0 _ rfl
  have q1 := q 1 _ rfl
  have q2 := q 2 _ rfl
  have q3 := q 3 _ rfl
  have q4 := q 4 _ rfl
  have q5 := q 5 _ rfl
  have q6 := q 6 _ rfl
  go_wp2_with fail
  clear q q0 q1 q2 q3 q4 q5 q6
  refine (cT _).mono ?_; rintro e' w3 ⟨rfl, b3⟩
  have hh3 := (b3.block w.heap.size hz2).trans hh2
  have hD3 := hD2.below b3
  have hb3 := hb2.trans (b3.mono (Nat.le_of_lt hz2))
  have hz3 : w.heap.size < w3.heap.size := Nat.lt_of_lt_of_le hz2 b3.size
  clear b3 hb2 hh2 hD2 hz2
  have q : ∀ i v, (#[Value.int .i64 y, .int .i64 m, .int .i64 d, .int .i64 h, .int .i64 mi, .int .i64 se, .int .i64 wd] : Array Value)[i]? = some v → w3.cell? ⟨w.heap.size, i, none⟩ = some v := fun i v hv => by rw [cell_of_row _ _ _ _ _ _ hh3]; exact hv
  have q0 := q 0 _ rfl
  have q1 := q 1 _ rfl
  have q2 := q 2 _ rfl
  have q3 := q 3 _ rfl
  have q4 := q 4 _ rfl
  have q5 := q 5 _ rfl
  have q6 := q 6 _ rfl
  go_wp2_with fail
  have q' : ∀ W : World, W.heap[w.heap.size]? = w3.heap[w.heap.size]? → ∀ i v, (#[Value.int .i64 y, .int .i64 m, .int .i64 d, .int .i64 h, .int .i64 mi, .int .i64 se, .int .i64 wd] : Array Value)[i]? = some v → W.cell? ⟨w.heap.size, i, none⟩ = some v := fun W hW i v hv => by rw [cell_of_row _ _ _ _ _ _ (hW.trans hh3)]; exact hv
  have hd3 : Below w.heap.size w w3.drew := hb3.trans ⟨rfl, rfl, rfl, Nat.le_refl _, fun _ _ => rfl⟩
  clear q cT cD hD hh3 hb3
  have HN := Lib.hid hn0
  go_region_held3 (fun W => W.cell? ⟨w.heap.size, 0, none⟩ = some (.int .i64 y) ∧ W.cell? ⟨w.heap.size, 1, none⟩ = some (.int .i64 m) ∧ W.cell? ⟨w.heap.size, 2, none⟩ = some (.int .i64 d) ∧ W.cell? ⟨w.heap.size, 3, none⟩ = some (.int .i64 h) ∧ W.cell? ⟨w.heap.size, 4, none⟩ = some (.int .i64 mi) ∧ W.cell? ⟨w.heap.size, 5, none⟩ = some (.int .i64 se) ∧ W.cell? ⟨w.heap.size, 6, none⟩ = some (.int .i64 wd)) (go_keep) (first | (go_at_call 43; refine (cN _ ?_).mono ?_; exact hD3; rintro e' w4 ⟨rfl, b4⟩; have r0 := q' w4 (b4.block _ hz3) 0 _ rfl; have r1 := q' w4 (b4.block _ hz3) 1 _ rfl; have r2 := q' w4 (b4.block _ hz3) 2 _ rfl; have r3 := q' w4 (b4.block _ hz3) 3 _ rfl; have r4 := q' w4 (b4.block _ hz3) 4 _ rfl; have r5 := q' w4 (b4.block _ hz3) 5 _ rfl; have r6 := q' w4 (b4.block _ hz3) 6 _ rfl))
  have x1 := wrapI (n := ((n : Int) - 365) * 86400) (by omega) (by omega)
  have x2 := wrapI (n := h * 3600) (by omega) (by omega)
  have x3 := wrapI (n := mi * 60) (by omega) (by omega)
  have x4 := wrapI (n := ((n : Int) - 365) * 86400 + h * 3600) (by omega) (by omega)
  have x5 := wrapI (n := ((n : Int) - 365) * 86400 + h * 3600 + mi * 60) (by omega) (by omega)
  have x6 := wrapI (n := ((n : Int) - 365) * 86400 + h * 3600 + mi * 60 + se) (by omega) (by omega)
  simp only [x1, x2, x3, x4, x5, x6]
  have hb4 := hd3.trans (b4.mono (Nat.le_of_lt hz3))
  clear r0 r1 r2 r3 r4 r5 r6 q' b4 hd3 x1 x2 x3 x4 x5 x6
  go_wp2
  go_ret2
  exact ⟨rfl, hb4⟩
set_option maxHeartbeats 2000000 in
theorem secondsTo_no (y m d h mi se wd : Int) (ho : ¬ (OkD 2136 y m d ∧ OkH h mi se)) (w : World) (hD : Days w) :
    Calls Tryd.prog 31 #[.agg #[.int .i64 y, .int .i64 m, .int .i64 d, .int .i64 h, .int .i64 mi, .int .i64 se, .int .i64 wd]] w fun e' w' => e' = .returned (.tuple #[.int .i64 0, .bool false]) ∧ Below w.heap.size w w' := by
  have hb1 : Below w.heap.size w (w.alloc (.cells #[.int .i64 y, .int .i64 m, .int .i64 d, .int .i64 h, .int .i64 mi, .int .i64 se, .int .i64 wd] 24)) := (Below.refl _ _).alloc (Nat.le_refl _) _
  have hh1 : (w.alloc (.cells #[.int .i64 y, .int .i64 m, .int .i64 d, .int .i64 h, .int .i64 mi, .int .i64 se, .int .i64 wd] 24)).heap[w.heap.size]? = some (.cells #[.int .i64 y, .int .i64 m, .int .i64 d, .int .i64 h, .int .i64 mi, .int .i64 se, .int .i64 wd] 24) := heap_alloc_new w _
  have hD1 := hD.below hb1
  have hz1 : w.heap.size < (w.alloc (.cells #[.int .i64 y, .int .i64 m, .int .i64 d, .int .i64 h, .int .i64 mi, .int .i64 se, .int .i64 wd] 24)).heap.size := by simp
  by_cases hO : OkD 2136 y m d
  · have cT := isTime_no y m d h mi se wd (fun q => ho ⟨hO, q⟩)
    obtain ⟨k, j, e, hy, hk, hm, hj, hd, he⟩ := hO
    have cD := isDate_yes y m d h mi se wd k j e hy (by omega) hm hj hd he
    clear hy hk hm hj hd he ho
    go_enter Tryd.func31, Tryd.ntmps31
    go_wp2_with fail
    refine (cD _ hD1).mono ?_; rintro e' w2 ⟨rfl, b2⟩
    have hh2 := (b2.block w.heap.size hz1).trans hh1
    have hb2 := hb1.trans (b2.mono (Nat.le_of_lt hz1))
    have hz2 : w.heap.size < w2.heap.size := Nat.lt_of_lt_of_le hz1 b2.size
    clear b2 hb1 hh1 hD1 hz1
    have q : ∀ i v, (#[Value.int .i64 y, .int .i64 m, .int .i64 d, .int .i64 h, .int .i64 mi, .int .i64 se, .int .i64 wd] : Array Value)[i]? = some v → w2.cell? ⟨w.heap.size, i, none⟩ = some v := fun i v hv => by rw [cell_of_row _ _ _ _ _ _ hh2]; exact hv
    have q0 := q 0 _ rfl
    have q1 := q 1 _ rfl
    have q2 := q 2 _ rfl
    have q3 := q 3 _ rfl
    have q4 := q 4 _ rfl
    have q5 := q 5 _ rfl
    have q6 := q 6 _ rfl
    go_wp2_with fail
    refine (cT _).mono ?_; rintro e' w3 ⟨rfl, b3⟩
    have hb3 := hb2.trans (b3.mono (Nat.le_of_lt hz2))
    clear b3 hb2 hh2
    go_wp2_with fail
    go_ret2
    exact ⟨rfl, hb3⟩
  · have cD := isDate_no y m d h mi se wd hO
    go_enter Tryd.func31, Tryd.ntmps31
    go_wp2_with fail
    refine (cD _ hD1).mono ?_; rintro e' w2 ⟨rfl, b2⟩
    have hb2 := hb1.trans (b2.mono (Nat.le_of_lt hz1))
    clear b2 hb1 hh1 hD1 hz1
    go_wp2_with fail
    go_ret2
    exact ⟨rfl, hb2⟩
end Go.Proofs.YtjbojboiagbofaaDoor
