/- isTime, isDate. -/
import Derived.Test.YtjbojboiagbofaaDoorC4
set_option linter.unusedSimpArgs false
set_option linter.unusedVariables false
namespace Go.Proofs.YtjbojboiagbofaaDoor
open Go.RowKit

theorem within_yes (n lo hi : Int) (h : lo ≤ n ∧ n ≤ hi) (w : World) :
    Calls Tryd.prog 36 #[.int .i64 n, .int .i64 lo, .int .i64 hi] w fun e w' => e = .returned (.bool true) ∧ w' = w := by
  have := within_any n lo hi w
  rwa [decide_eq_true h.1, decide_eq_true h.2] at this
theorem within_no (n lo hi : Int) (h : ¬ (lo ≤ n ∧ n ≤ hi)) (w : World) :
    Calls Tryd.prog 36 #[.int .i64 n, .int .i64 lo, .int .i64 hi] w fun e w' => e = .returned (.bool false) ∧ w' = w := by
  have := within_any n lo hi w
  rwa [show (decide (lo ≤ n) && decide (n ≤ hi)) = false by simp; omega] at this
theorem qSame {f : FuncId} {args : Array Value} {w : World} {a : Nat} {v : Value} (c : ∀ W : World, Calls Tryd.prog f args W fun e w' => e = .returned v ∧ w' = W) :
    Calls Tryd.prog f args (w.drewN a) fun e w'' => e = .returned v ∧ ∃ m, w'' = w.drewN m := (c _).mono fun _ _ hh => ⟨hh.1, a, hh.2⟩
def OkH (h mi se : Int) : Prop := (0 ≤ h ∧ h ≤ 23) ∧ (0 ≤ mi ∧ mi ≤ 59) ∧ (0 ≤ se ∧ se ≤ 59)
set_option maxHeartbeats 1000000 in
theorem isTime_yes (y m d h mi se wd : Int) (ho : OkH h mi se) (w : World) :
    Calls Tryd.prog 42 #[.agg #[.int .i64 y, .int .i64 m, .int .i64 d, .int .i64 h, .int .i64 mi, .int .i64 se, .int .i64 wd]] w fun e w' => e = .returned (.bool true) ∧ Below w.heap.size w w' := by
  have c1 := within_yes h 0 23 ho.1
  have c2 := within_yes mi 0 59 ho.2.1
  have c3 := within_yes se 0 59 ho.2.2
  clear ho
  go_enter Tryd.func42, Tryd.ntmps42
  go_wp2_with fail
  refine (c1 _).mono ?_; rintro e w1 ⟨rfl, hw⟩; rw [hw]
  go_wp2_with fail
  refine (c2 _).mono ?_; rintro e w1 ⟨rfl, hw⟩; rw [hw]
  go_wp2_with fail
  refine (c3 _).mono ?_; rintro e w1 ⟨rfl, hw⟩; rw [hw]
  go_wp2
  go_ret
  exact ⟨rfl, (Below.refl _ _).alloc (Nat.le_refl _) _⟩
set_option maxHeartbeats 1000000 in
theorem isTime_no (y m d h mi se wd : Int) (ho : ¬ OkH h mi se) (w : World) :
    Calls Tryd.prog 42 #[.agg #[.int .i64 y, .int .i64 m, .int .i64 d, .int .i64 h, .int .i64 mi, .int .i64 se, .int .i64 wd]] w fun e w' => e = .returned (.bool false) ∧ Below w.heap.size w w' := by
  by_cases h1 : 0 ≤ h ∧ h ≤ 23
  · have c1 := within_yes h 0 23 h1
    by_cases h2 : 0 ≤ mi ∧ mi ≤ 59
    · have c2 := within_yes mi 0 59 h2
      have c3 := within_no se 0 59 (fun q => ho ⟨h1, h2, q⟩)
      clear ho h1 h2
      go_enter Tryd.func42, Tryd.ntmps42
      go_wp2_with fail
      refine (c1 _).mono ?_; rintro e w1 ⟨rfl, hw⟩; rw [hw]
      go_wp2_with fail
      refine (c2 _).mono ?_; rintro e w1 ⟨rfl, hw⟩; rw [hw]
      go_wp2_with fail
      refine (c3 _).mono ?_; rintro e w1 ⟨rfl, hw⟩; rw [hw]
      go_wp2
      go_ret
      exact ⟨rfl, (Below.refl _ _).alloc (Nat.le_refl _) _⟩
    · have c2 := within_no mi 0 59 h2
      clear ho h1 h2
      go_enter Tryd.func42, Tryd.ntmps42
      go_wp2_with fail
      refine (c1 _).mono ?_; rintro e w1 ⟨rfl, hw⟩; rw [hw]
      go_wp2_with fail
      refine (c2 _).mono ?_; rintro e w1 ⟨rfl, hw⟩; rw [hw]
      go_wp2
      go_ret
      exact ⟨rfl, (Below.refl _ _).alloc (Nat.le_refl _) _⟩
  · have c1 := within_no h 0 23 h1
    clear ho h1
    go_enter Tryd.func42, Tryd.ntmps42
    go_wp2_with fail
    refine (c1 _).mono ?_; rintro e w1 ⟨rfl, hw⟩; rw [hw]
    go_wp2
    go_ret
    exact ⟨rfl, (Below.refl _ _).alloc (Nat.le_refl _) _⟩
/-- There is such a date, in the years 1999 to last. -/
def OkD (last : Nat) (y m d : Int) : Prop := ∃ k j e : Nat, y = 1999 + k ∧ 1999 + k ≤ last ∧ m = j + 1 ∧ j < 12 ∧ d = e + 1 ∧ e < dim k j
theorem Days.drewN {w : World} (h : Days w) (n : Nat) : Days (w.drewN n) := h
theorem below_dN {B : Nat} {w w' : World} (h : Below B w w') (n : Nat) : Below B w (w'.drewN n) := ⟨h.1, h.2, h.3, h.4, h.5⟩
theorem below_dn {w : World} (c : Array Value) (n : Nat) : Below w.heap.size w ((w.alloc (.cells c 24)).drewN n) := below_dN ((Below.refl _ _).alloc (Nat.le_refl _) _) _
set_option maxHeartbeats 1000000 in
theorem isDate_yes (y m d h mi se wd : Int) (k j e : Nat) (hy : y = 1999 + k) (hk : k ≤ 137) (hm : m = j + 1) (hj : j < 12) (hd : d = e + 1) (he : e < dim k j) (w : World) (hD : Days w) :
    Calls Tryd.prog 41 #[.agg #[.int .i64 y, .int .i64 m, .int .i64 d, .int .i64 h, .int .i64 mi, .int .i64 se, .int .i64 wd]] w fun e w' => e = .returned (.bool true) ∧ Below w.heap.size w w' := by
  have c1 := within_yes y 1999 2136 (by omega)
  have c2 := within_yes m 1 12 (by omega)
  have c3 := within_yes d 1 (dim k j) (by omega)
  have hD1 : ∀ n, Days ((w.alloc (.cells #[.int .i64 y, .int .i64 m, .int .i64 d, .int .i64 h, .int .i64 mi, .int .i64 se, .int .i64 wd] 24)).drewN n) := fun n => (hD.below ((Below.refl _ _).alloc (Nat.le_refl _) _)).drewN n
  have c4 := fun W hW => daysOfMonth_any y m k j hy (by omega) hm hj W hW
  have hbb := below_dn (w := w) #[.int .i64 y, .int .i64 m, .int .i64 d, .int .i64 h, .int .i64 mi, .int .i64 se, .int .i64 wd]
  clear hy hk hm hj hd he hD
  go_enter Tryd.func41, Tryd.ntmps41
  go_wp2
  go_quiet (first
    | (go_at_call 38; exact (c4 _ (hD1 _)).mono fun _ _ hh => ⟨hh.1, _, hh.2⟩)
    | (go_at_call 36; with_reducible first | exact qSame c1 | exact qSame c2 | exact qSame c3))
  go_wp2
  go_ret
  exact ⟨rfl, hbb _⟩
end Go.Proofs.YtjbojboiagbofaaDoor
