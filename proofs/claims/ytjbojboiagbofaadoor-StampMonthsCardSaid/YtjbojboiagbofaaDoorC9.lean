/- The document's seconds of a date: where there is none. -/
import Derived.Test.YtjbojboiagbofaaDoorC8
set_option linter.unusedSimpArgs false
set_option linter.unusedVariables false
namespace Go.Proofs.YtjbojboiagbofaaDoor
open Go.RowKit

set_option maxHeartbeats 1000000 in
theorem rat_no0 (y m d h mi se wd : Int)  (f0 : (y : Int) < 1999) (w : World) :
    Calls Tryd.prog 32 #[.agg #[.int .i64 y, .int .i64 m, .int .i64 d, .int .i64 h, .int .i64 mi, .int .i64 se, .int .i64 wd]] w fun e' w' => e' = .returned (.tuple #[.int .i64 0, .bool false]) ∧ Below w.heap.size w w' := by
  have hbb := below_dn (w := w) #[.int .i64 y, .int .i64 m, .int .i64 d, .int .i64 h, .int .i64 mi, .int .i64 se, .int .i64 wd]
  have g0 : decide ((y : Int) < 1999) = true := decide_eq_true f0
  clear f0
  go_enter Tryd.func32, Tryd.ntmps32
  go_wp2
  go_quiet (fail)
  go_wp2
  go_ret2
  exact ⟨rfl, hbb _⟩
set_option maxHeartbeats 1000000 in
theorem rat_no1 (y m d h mi se wd : Int) (f0 : ¬ (y : Int) < 1999) (f1 : (2137 : Int) < y) (w : World) :
    Calls Tryd.prog 32 #[.agg #[.int .i64 y, .int .i64 m, .int .i64 d, .int .i64 h, .int .i64 mi, .int .i64 se, .int .i64 wd]] w fun e' w' => e' = .returned (.tuple #[.int .i64 0, .bool false]) ∧ Below w.heap.size w w' := by
  have hbb := below_dn (w := w) #[.int .i64 y, .int .i64 m, .int .i64 d, .int .i64 h, .int .i64 mi, .int .i64 se, .int .i64 wd]
  have g0 : decide ((y : Int) < 1999) = false := decide_eq_false f0
  have g1 : decide ((2137 : Int) < y) = true := decide_eq_true f1
  clear f0 f1
  go_enter Tryd.func32, Tryd.ntmps32
  go_wp2
  go_quiet (fail)
  go_wp2
  go_ret2
  exact ⟨rfl, hbb _⟩
set_option maxHeartbeats 1000000 in
theorem rat_no2 (y m d h mi se wd : Int) (f0 : ¬ (y : Int) < 1999) (f1 : ¬ (2137 : Int) < y) (f2 : (m : Int) < 1) (w : World) :
    Calls Tryd.prog 32 #[.agg #[.int .i64 y, .int .i64 m, .int .i64 d, .int .i64 h, .int .i64 mi, .int .i64 se, .int .i64 wd]] w fun e' w' => e' = .returned (.tuple #[.int .i64 0, .bool false]) ∧ Below w.heap.size w w' := by
  have hbb := below_dn (w := w) #[.int .i64 y, .int .i64 m, .int .i64 d, .int .i64 h, .int .i64 mi, .int .i64 se, .int .i64 wd]
  have g0 : decide ((y : Int) < 1999) = false := decide_eq_false f0
  have g1 : decide ((2137 : Int) < y) = false := decide_eq_false f1
  have g2 : decide ((m : Int) < 1) = true := decide_eq_true f2
  clear f0 f1 f2
  go_enter Tryd.func32, Tryd.ntmps32
  go_wp2
  go_quiet (fail)
  go_wp2
  go_ret2
  exact ⟨rfl, hbb _⟩
set_option maxHeartbeats 1000000 in
theorem rat_no3 (y m d h mi se wd : Int) (f0 : ¬ (y : Int) < 1999) (f1 : ¬ (2137 : Int) < y) (f2 : ¬ (m : Int) < 1) (f3 : (12 : Int) < m) (w : World) :
    Calls Tryd.prog 32 #[.agg #[.int .i64 y, .int .i64 m, .int .i64 d, .int .i64 h, .int .i64 mi, .int .i64 se, .int .i64 wd]] w fun e' w' => e' = .returned (.tuple #[.int .i64 0, .bool false]) ∧ Below w.heap.size w w' := by
  have hbb := below_dn (w := w) #[.int .i64 y, .int .i64 m, .int .i64 d, .int .i64 h, .int .i64 mi, .int .i64 se, .int .i64 wd]
  have g0 : decide ((y : Int) < 1999) = false := decide_eq_false f0
  have g1 : decide ((2137 : Int) < y) = false := decide_eq_false f1
  have g2 : decide ((m : Int) < 1) = false := decide_eq_false f2
  have g3 : decide ((12 : Int) < m) = true := decide_eq_true f3
  clear f0 f1 f2 f3
  go_enter Tryd.func32, Tryd.ntmps32
  go_wp2
  go_quiet (fail)
  go_wp2
  go_ret2
  exact ⟨rfl, hbb _⟩
set_option maxHeartbeats 1000000 in
theorem rat_no4 (y m d h mi se wd : Int) (f0 : ¬ (y : Int) < 1999) (f1 : ¬ (2137 : Int) < y) (f2 : ¬ (m : Int) < 1) (f3 : ¬ (12 : Int) < m) (f4 : (d : Int) < 1) (w : World) :
    Calls Tryd.prog 32 #[.agg #[.int .i64 y, .int .i64 m, .int .i64 d, .int .i64 h, .int .i64 mi, .int .i64 se, .int .i64 wd]] w fun e' w' => e' = .returned (.tuple #[.int .i64 0, .bool false]) ∧ Below w.heap.size w w' := by
  have hbb := below_dn (w := w) #[.int .i64 y, .int .i64 m, .int .i64 d, .int .i64 h, .int .i64 mi, .int .i64 se, .int .i64 wd]
  have g0 : decide ((y : Int) < 1999) = false := decide_eq_false f0
  have g1 : decide ((2137 : Int) < y) = false := decide_eq_false f1
  have g2 : decide ((m : Int) < 1) = false := decide_eq_false f2
  have g3 : decide ((12 : Int) < m) = false := decide_eq_false f3
  have g4 : decide ((d : Int) < 1) = true := decide_eq_true f4
  clear f0 f1 f2 f3 f4
  go_enter Tryd.func32, Tryd.ntmps32
  go_wp2
  go_quiet (fail)
  go_wp2
  go_ret2
  exact ⟨rfl, hbb _⟩
set_option maxHeartbeats 1000000 in
theorem rat_no5 (y m d h mi se wd : Int) (k j : Nat) (hk : y = 1999 + k) (hj : m = j + 1) (f0 : ¬ (y : Int) < 1999) (f1 : ¬ (2137 : Int) < y) (f2 : ¬ (m : Int) < 1) (f3 : ¬ (12 : Int) < m) (f4 : ¬ (d : Int) < 1) (f5 : ((dim k j : Int) : Int) < d) (w : World) :
    Calls Tryd.prog 32 #[.agg #[.int .i64 y, .int .i64 m, .int .i64 d, .int .i64 h, .int .i64 mi, .int .i64 se, .int .i64 wd]] w fun e' w' => e' = .returned (.tuple #[.int .i64 0, .bool false]) ∧ Below w.heap.size w w' := by
  have hbb := below_dn (w := w) #[.int .i64 y, .int .i64 m, .int .i64 d, .int .i64 h, .int .i64 mi, .int .i64 se, .int .i64 wd]
  have cd := rdays_any y m k j hk (by omega) hj (by omega)
  generalize (dim k j : Int) = D at *
  have g0 : decide ((y : Int) < 1999) = false := decide_eq_false f0
  have g1 : decide ((2137 : Int) < y) = false := decide_eq_false f1
  have g2 : decide ((m : Int) < 1) = false := decide_eq_false f2
  have g3 : decide ((12 : Int) < m) = false := decide_eq_false f3
  have g4 : decide ((d : Int) < 1) = false := decide_eq_false f4
  have g5 : decide ((D : Int) < d) = true := decide_eq_true f5
  clear f0 f1 f2 f3 f4 f5 hk hj
  go_enter Tryd.func32, Tryd.ntmps32
  go_wp2
  go_quiet ((go_at_call 22; with_reducible exact qSame cd))
  go_wp2
  go_ret2
  exact ⟨rfl, hbb _⟩
set_option maxHeartbeats 1000000 in
theorem rat_no6 (y m d h mi se wd : Int) (k j : Nat) (hk : y = 1999 + k) (hj : m = j + 1) (f0 : ¬ (y : Int) < 1999) (f1 : ¬ (2137 : Int) < y) (f2 : ¬ (m : Int) < 1) (f3 : ¬ (12 : Int) < m) (f4 : ¬ (d : Int) < 1) (f5 : ¬ ((dim k j : Int) : Int) < d) (f6 : (h : Int) < 0) (w : World) :
    Calls Tryd.prog 32 #[.agg #[.int .i64 y, .int .i64 m, .int .i64 d, .int .i64 h, .int .i64 mi, .int .i64 se, .int .i64 wd]] w fun e' w' => e' = .returned (.tuple #[.int .i64 0, .bool false]) ∧ Below w.heap.size w w' := by
  have hbb := below_dn (w := w) #[.int .i64 y, .int .i64 m, .int .i64 d, .int .i64 h, .int .i64 mi, .int .i64 se, .int .i64 wd]
  have cd := rdays_any y m k j hk (by omega) hj (by omega)
  generalize (dim k j : Int) = D at *
  have g0 : decide ((y : Int) < 1999) = false := decide_eq_false f0
  have g1 : decide ((2137 : Int) < y) = false := decide_eq_false f1
  have g2 : decide ((m : Int) < 1) = false := decide_eq_false f2
  have g3 : decide ((12 : Int) < m) = false := decide_eq_false f3
  have g4 : decide ((d : Int) < 1) = false := decide_eq_false f4
  have g5 : decide ((D : Int) < d) = false := decide_eq_false f5
  have g6 : decide ((h : Int) < 0) = true := decide_eq_true f6
  clear f0 f1 f2 f3 f4 f5 f6 hk hj
  go_enter Tryd.func32, Tryd.ntmps32
  go_wp2
  go_quiet ((go_at_call 22; with_reducible exact qSame cd))
  go_wp2
  go_ret2
  exact ⟨rfl, hbb _⟩
set_option maxHeartbeats 1000000 in
theorem rat_no7 (y m d h mi se wd : Int) (k j : Nat) (hk : y = 1999 + k) (hj : m = j + 1) (f0 : ¬ (y : Int) < 1999) (f1 : ¬ (2137 : Int) < y) (f2 : ¬ (m : Int) < 1) (f3 : ¬ (12 : Int) < m) (f4 : ¬ (d : Int) < 1) (f5 : ¬ ((dim k j : Int) : Int) < d) (f6 : ¬ (h : Int) < 0) (f7 : (23 : Int) < h) (w : World) :
    Calls Tryd.prog 32 #[.agg #[.int .i64 y, .int .i64 m, .int .i64 d, .int .i64 h, .int .i64 mi, .int .i64 se, .int .i64 wd]] w fun e' w' => e' = .returned (.tuple #[.int .i64 0, .bool false]) ∧ Below w.heap.size w w' := by
  have hbb := below_dn (w := w) #[.int .i64 y, .int .i64 m, .int .i64 d, .int .i64 h, .int .i64 mi, .int .i64 se, .int .i64 wd]
  have cd := rdays_any y m k j hk (by omega) hj (by omega)
  generalize (dim k j : Int) = D at *
  have g0 : decide ((y : Int) < 1999) = false := decide_eq_false f0
  have g1 : decide ((2137 : Int) < y) = false := decide_eq_false f1
  have g2 : decide ((m : Int) < 1) = false := decide_eq_false f2
  have g3 : decide ((12 : Int) < m) = false := decide_eq_false f3
  have g4 : decide ((d : Int) < 1) = false := decide_eq_false f4
  have g5 : decide ((D : Int) < d) = false := decide_eq_false f5
  have g6 : decide ((h : Int) < 0) = false := decide_eq_false f6
  have g7 : decide ((23 : Int) < h) = true := decide_eq_true f7
  clear f0 f1 f2 f3 f4 f5 f6 f7 hk hj
  go_enter Tryd.func32, Tryd.ntmps32
  go_wp2
  go_quiet ((go_at_call 22; with_reducible exact qSame cd))
  go_wp2
  go_ret2
  exact ⟨rfl, hbb _⟩
set_option maxHeartbeats 1000000 in
theorem rat_no8 (y m d h mi se wd : Int) (k j : Nat) (hk : y = 1999 + k) (hj : m = j + 1) (f0 : ¬ (y : Int) < 1999) (f1 : ¬ (2137 : Int) < y) (f2 : ¬ (m : Int) < 1) (f3 : ¬ (12 : Int) < m) (f4 : ¬ (d : Int) < 1) (f5 : ¬ ((dim k j : Int) : Int) < d) (f6 : ¬ (h : Int) < 0) (f7 : ¬ (23 : Int) < h) (f8 : (mi : Int) < 0) (w : World) :
    Calls Tryd.prog 32 #[.agg #[.int .i64 y, .int .i64 m, .int .i64 d, .int .i64 h, .int .i64 mi, .int .i64 se, .int .i64 wd]] w fun e' w' => e' = .returned (.tuple #[.int .i64 0, .bool false]) ∧ Below w.heap.size w w' := by
  have hbb := below_dn (w := w) #[.int .i64 y, .int .i64 m, .int .i64 d, .int .i64 h, .int .i64 mi, .int .i64 se, .int .i64 wd]
  have cd := rdays_any y m k j hk (by omega) hj (by omega)
  generalize (dim k j : Int) = D at *
  have g0 : decide ((y : Int) < 1999) = false := decide_eq_false f0
  have g1 : decide ((2137 : Int) < y) = false := decide_eq_false f1
  have g2 : decide ((m : Int) < 1) = false := decide_eq_false f2
  have g3 : decide ((12 : Int) < m) = false := decide_eq_false f3
  have g4 : decide ((d : Int) < 1) = false := decide_eq_false f4
  have g5 : decide ((D : Int) < d) = false := decide_eq_false f5
  have g6 : decide ((h : Int) < 0) = false := decide_eq_false f6
  have g7 : decide ((23 : Int) < h) = false := decide_eq_false f7
  have g8 : decide ((mi : Int) < 0) = true := decide_eq_true f8
  clear f0 f1 f2 f3 f4 f5 f6 f7 f8 hk hj
  go_enter Tryd.func32, Tryd.ntmps32
  go_wp2
  go_quiet ((go_at_call 22; with_reducible exact qSame cd))
  go_wp2
  go_ret2
  exact ⟨rfl, hbb _⟩
set_option maxHeartbeats 1000000 in
theorem rat_no9 (y m d h mi se wd : Int) (k j : Nat) (hk : y = 1999 + k) (hj : m = j + 1) (f0 : ¬ (y : Int) < 1999) (f1 : ¬ (2137 : Int) < y) (f2 : ¬ (m : Int) < 1) (f3 : ¬ (12 : Int) < m) (f4 : ¬ (d : Int) < 1) (f5 : ¬ ((dim k j : Int) : Int) < d) (f6 : ¬ (h : Int) < 0) (f7 : ¬ (23 : Int) < h) (f8 : ¬ (mi : Int) < 0) (f9 : (59 : Int) < mi) (w : World) :
    Calls Tryd.prog 32 #[.agg #[.int .i64 y, .int .i64 m, .int .i64 d, .int .i64 h, .int .i64 mi, .int .i64 se, .int .i64 wd]] w fun e' w' => e' = .returned (.tuple #[.int .i64 0, .bool false]) ∧ Below w.heap.size w w' := by
  have hbb := below_dn (w := w) #[.int .i64 y, .int .i64 m, .int .i64 d, .int .i64 h, .int .i64 mi, .int .i64 se, .int .i64 wd]
  have cd := rdays_any y m k j hk (by omega) hj (by omega)
  generalize (dim k j : Int) = D at *
  have g0 : decide ((y : Int) < 1999) = false := decide_eq_false f0
  have g1 : decide ((2137 : Int) < y) = false := decide_eq_false f1
  have g2 : decide ((m : Int) < 1) = false := decide_eq_false f2
  have g3 : decide ((12 : Int) < m) = false := decide_eq_false f3
  have g4 : decide ((d : Int) < 1) = false := decide_eq_false f4
  have g5 : decide ((D : Int) < d) = false := decide_eq_false f5
  have g6 : decide ((h : Int) < 0) = false := decide_eq_false f6
  have g7 : decide ((23 : Int) < h) = false := decide_eq_false f7
  have g8 : decide ((mi : Int) < 0) = false := decide_eq_false f8
  have g9 : decide ((59 : Int) < mi) = true := decide_eq_true f9
  clear f0 f1 f2 f3 f4 f5 f6 f7 f8 f9 hk hj
  go_enter Tryd.func32, Tryd.ntmps32
  go_wp2
  go_quiet ((go_at_call 22; with_reducible exact qSame cd))
  go_wp2
  go_ret2
  exact ⟨rfl, hbb _⟩
set_option maxHeartbeats 1000000 in
theorem rat_no10 (y m d h mi se wd : Int) (k j : Nat) (hk : y = 1999 + k) (hj : m = j + 1) (f0 : ¬ (y : Int) < 1999) (f1 : ¬ (2137 : Int) < y) (f2 : ¬ (m : Int) < 1) (f3 : ¬ (12 : Int) < m) (f4 : ¬ (d : Int) < 1) (f5 : ¬ ((dim k j : Int) : Int) < d) (f6 : ¬ (h : Int) < 0) (f7 : ¬ (23 : Int) < h) (f8 : ¬ (mi : Int) < 0) (f9 : ¬ (59 : Int) < mi) (f10 : (se : Int) < 0) (w : World) :
    Calls Tryd.prog 32 #[.agg #[.int .i64 y, .int .i64 m, .int .i64 d, .int .i64 h, .int .i64 mi, .int .i64 se, .int .i64 wd]] w fun e' w' => e' = .returned (.tuple #[.int .i64 0, .bool false]) ∧ Below w.heap.size w w' := by
  have hbb := below_dn (w := w) #[.int .i64 y, .int .i64 m, .int .i64 d, .int .i64 h, .int .i64 mi, .int .i64 se, .int .i64 wd]
  have cd := rdays_any y m k j hk (by omega) hj (by omega)
  generalize (dim k j : Int) = D at *
  have g0 : decide ((y : Int) < 1999) = false := decide_eq_false f0
  have g1 : decide ((2137 : Int) < y) = false := decide_eq_false f1
  have g2 : decide ((m : Int) < 1) = false := decide_eq_false f2
  have g3 : decide ((12 : Int) < m) = false := decide_eq_false f3
  have g4 : decide ((d : Int) < 1) = false := decide_eq_false f4
  have g5 : decide ((D : Int) < d) = false := decide_eq_false f5
  have g6 : decide ((h : Int) < 0) = false := decide_eq_false f6
  have g7 : decide ((23 : Int) < h) = false := decide_eq_false f7
  have g8 : decide ((mi : Int) < 0) = false := decide_eq_false f8
  have g9 : decide ((59 : Int) < mi) = false := decide_eq_false f9
  have g10 : decide ((se : Int) < 0) = true := decide_eq_true f10
  clear f0 f1 f2 f3 f4 f5 f6 f7 f8 f9 f10 hk hj
  go_enter Tryd.func32, Tryd.ntmps32
  go_wp2
  go_quiet ((go_at_call 22; with_reducible exact qSame cd))
  go_wp2
  go_ret2
  exact ⟨rfl, hbb _⟩
set_option maxHeartbeats 1000000 in
theorem rat_no11 (y m d h mi se wd : Int) (k j : Nat) (hk : y = 1999 + k) (hj : m = j + 1) (f0 : ¬ (y : Int) < 1999) (f1 : ¬ (2137 : Int) < y) (f2 : ¬ (m : Int) < 1) (f3 : ¬ (12 : Int) < m) (f4 : ¬ (d : Int) < 1) (f5 : ¬ ((dim k j : Int) : Int) < d) (f6 : ¬ (h : Int) < 0) (f7 : ¬ (23 : Int) < h) (f8 : ¬ (mi : Int) < 0) (f9 : ¬ (59 : Int) < mi) (f10 : ¬ (se : Int) < 0) (f11 : (59 : Int) < se) (w : World) :
    Calls Tryd.prog 32 #[.agg #[.int .i64 y, .int .i64 m, .int .i64 d, .int .i64 h, .int .i64 mi, .int .i64 se, .int .i64 wd]] w fun e' w' => e' = .returned (.tuple #[.int .i64 0, .bool false]) ∧ Below w.heap.size w w' := by
  have hbb := below_dn (w := w) #[.int .i64 y, .int .i64 m, .int .i64 d, .int .i64 h, .int .i64 mi, .int .i64 se, .int .i64 wd]
  have cd := rdays_any y m k j hk (by omega) hj (by omega)
  generalize (dim k j : Int) = D at *
  have g0 : decide ((y : Int) < 1999) = false := decide_eq_false f0
  have g1 : decide ((2137 : Int) < y) = false := decide_eq_false f1
  have g2 : decide ((m : Int) < 1) = false := decide_eq_false f2
  have g3 : decide ((12 : Int) < m) = false := decide_eq_false f3
  have g4 : decide ((d : Int) < 1) = false := decide_eq_false f4
  have g5 : decide ((D : Int) < d) = false := decide_eq_false f5
  have g6 : decide ((h : Int) < 0) = false := decide_eq_false f6
  have g7 : decide ((23 : Int) < h) = false := decide_eq_false f7
  have g8 : decide ((mi : Int) < 0) = false := decide_eq_false f8
  have g9 : decide ((59 : Int) < mi) = false := decide_eq_false f9
  have g10 : decide ((se : Int) < 0) = false := decide_eq_false f10
  have g11 : decide ((59 : Int) < se) = true := decide_eq_true f11
  clear f0 f1 f2 f3 f4 f5 f6 f7 f8 f9 f10 f11 hk hj
  go_enter Tryd.func32, Tryd.ntmps32
  go_wp2
  go_quiet ((go_at_call 22; with_reducible exact qSame cd))
  go_wp2
  go_ret2
  exact ⟨rfl, hbb _⟩
end Go.Proofs.YtjbojboiagbofaaDoor
