/- leap years, days of a month. -/
import Derived.Test.YtjbojboiagbofaaDoorQ0
import Derived.Test.YtjbojboiagbofaaDoorProg
import Derived.WalkKit
import Derived.BigCall
import Derived.BigQuiet
import Derived.Deep.QuietTactic
import Derived.Lib.LaidTab
set_option linter.unusedSimpArgs false
set_option linter.unusedVariables false
namespace Go.Proofs.YtjbojboiagbofaaDoor
open Go.RowKit

theorem leap_iff (k : Nat) : leap k = true ↔ ((1999 + k) % 4 = 0 ∧ ((1999 + k) % 100 ≠ 0 ∨ (1999 + k) % 400 = 0)) := by unfold leap; simp
theorem leap_ret (k : Nat) (b : Bool) (h : (b = true) ↔ ((1999 + (k : Int)) % 4 = 0 ∧ ((1999 + (k : Int)) % 100 ≠ 0 ∨ (1999 + (k : Int)) % 400 = 0))) : Ending.returned (.bool b) = .returned (.bool (leap k)) := by
  have : b = leap k := by
    rw [Bool.eq_iff_iff, h, leap_iff]
    omega
  rw [this]
theorem isLeap_any (y : Int) (k : Nat) (hy : y = 1999 + k) (hk : k ≤ 200) (w : World) :
    Calls Tryd.prog 50 #[.int .i64 y] w fun e w' => e = .returned (.bool (leap k)) ∧ w' = w := by
  subst hy
  go_enter Tryd.func50, Tryd.ntmps50
  go_wp2
  all_goals
    go_ret
    refine ⟨leap_ret k _ ?_, rfl⟩
    simp
    try omega
theorem rleap_any (y : Int) (k : Nat) (hy : y = 1999 + k) (hk : k ≤ 200) (w : World) :
    Calls Tryd.prog 39 #[.int .i64 y] w fun e w' => e = .returned (.bool (leap k)) ∧ w' = w := by
  subst hy
  go_enter Tryd.func39, Tryd.ntmps39
  go_wp2
  all_goals
    go_ret
    refine ⟨leap_ret k _ ?_, rfl⟩
    simp
    try omega
theorem ret_int {k : IntKind} {a b : Int} (h : a = b) : Ending.returned (.int k a) = .returned (.int k b) := by rw [h]
theorem daysOfYear_any (y : Int) (k : Nat) (hy : y = 1999 + k) (hk : k ≤ 200) (w : World) :
    Calls Tryd.prog 37 #[.int .i64 y] w fun e w' => e = .returned (.int .i64 (diy k)) ∧ w' = w := by
  have hl := isLeap_any y k hy hk w
  unfold diy
  clear hy hk
  generalize leap k = b at hl ⊢
  cases b
  all_goals
    go_enter Tryd.func37, Tryd.ntmps37
    go_wp2_with (go_at_call 50; refine hl.mono ?_; rintro e w' ⟨rfl, rfl⟩)
    go_ret
    exact ⟨rfl, rfl⟩
/-- What the table of the months' days holds. -/
def dtab : List Int := [31, 28, 31, 30, 31, 30, 31, 31, 30, 31, 30, 31]
def Days (w : World) : Prop := Lib.TabIs Tryd.prog w "estafette/stamp.monthDays" .i64 dtab
theorem Days.at {w : World} (h : Days w) (j : Nat) (hj : j < 12) : w.cell? ⟨2, j, none⟩ = some (.int .i64 (dtab.getD j 0)) :=
  Lib.TabIs.cell h (g := 2) (by kernel_rfl) j hj
theorem dtab_dim (k j : Nat) (hj : j < 12) (h : ¬ (j = 1 ∧ leap k = true)) : dtab.getD j 0 = (dim k j : Nat) := by
  unfold dim
  cases hl : leap k
  · have : ∀ i : Fin 12, dtab.getD i.val 0 = ((if i.val = 1 then 28 else if i.val = 3 ∨ i.val = 5 ∨ i.val = 8 ∨ i.val = 10 then 30 else 31 : Nat) : Int) := by decide
    simpa using this ⟨j, hj⟩
  · have hj1 : j ≠ 1 := fun e => h ⟨e, hl⟩
    rw [if_neg hj1]
    have : ∀ i : Fin 12, i.val ≠ 1 → dtab.getD i.val 0 = ((if i.val = 3 ∨ i.val = 5 ∨ i.val = 8 ∨ i.val = 10 then 30 else 31 : Nat) : Int) := by decide
    exact this ⟨j, hj⟩ hj1
set_option maxHeartbeats 1000000 in
theorem daysOfMonth_any (y m : Int) (k j : Nat) (hy : y = 1999 + k) (hk : k ≤ 200) (hm : m = j + 1) (hj : j < 12) (w : World) (hD : Days w) :
    Calls Tryd.prog 38 #[.int .i64 y, .int .i64 m] w fun e w' => e = .returned (.int .i64 (dim k j)) ∧ w' = w := by
  have hl := isLeap_any y k hy hk w
  have hc := hD.at j hj
  subst hm
  clear hy hk hD
  by_cases hj1 : j = 1
  · subst hj1
    have hdd := dtab_dim k 1 hj
    have hd1 : dim k 1 = if leap k then 29 else 28 := rfl
    rw [hd1]
    clear hd1 hdd
    generalize leap k = b at hl ⊢
    cases b
    all_goals
      go_enter Tryd.func38, Tryd.ntmps38
      go_wp2_with (go_at_call 50; refine hl.mono ?_; rintro e w' ⟨rfl, rfl⟩)
      go_ret
      exact ⟨rfl, rfl⟩
  · rw [dtab_dim k j hj (fun h => hj1 h.1)] at hc
    have h1 : ¬ ((j : Int) + 1 = 2) := by omega
    have h2 : (j : Int) < 12 := by omega
    have h3 : (0 : Int) ≤ j := by omega
    generalize hdd : (dim k j : Int) = dd at hc
    clear hdd hl
    go_enter Tryd.func38, Tryd.ntmps38
    go_wp2
    go_ret
    exact ⟨rfl, rfl⟩
set_option maxHeartbeats 1000000 in
theorem rdays_any (y m : Int) (k j : Nat) (hy : y = 1999 + k) (hk : k ≤ 200) (hm : m = j + 1) (hj : j < 12) (w : World) :
    Calls Tryd.prog 22 #[.int .i64 y, .int .i64 m] w fun e w' => e = .returned (.int .i64 (dim k j)) ∧ w' = w := by
  have hl := rleap_any y k hy hk w
  subst hm
  clear hy hk
  match j, hj with
  | 1, hj =>
    have hd1 : dim k 1 = if leap k then 29 else 28 := rfl
    rw [hd1]
    clear hd1
    generalize leap k = b at hl ⊢
    cases b
    all_goals
      go_enter Tryd.func22, Tryd.ntmps22
      go_wp2_with (go_at_call 39; refine hl.mono ?_; rintro e w' ⟨rfl, rfl⟩)
      go_ret
      exact ⟨rfl, rfl⟩
  | 0, hj | 2, hj | 3, hj | 4, hj | 5, hj | 6, hj | 7, hj | 8, hj | 9, hj | 10, hj | 11, hj =>
    clear hl
    go_enter Tryd.func22, Tryd.ntmps22
    go_wp2
    go_ret
    exact ⟨rfl, rfl⟩
end Go.Proofs.YtjbojboiagbofaaDoor
