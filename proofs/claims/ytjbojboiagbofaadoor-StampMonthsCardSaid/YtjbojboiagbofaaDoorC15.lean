/- The document's Month, Weekday, clock. -/
import Derived.Test.YtjbojboiagbofaaDoorC14
import Derived.Deep.RegionHeld3
import Derived.Laws.DeepStrings4
set_option linter.unusedSimpArgs false
set_option linter.unusedVariables false
namespace Go.Proofs.YtjbojboiagbofaaDoor
open Go.RowKit Go.Shelf

set_option maxHeartbeats 2000000 in
theorem month_any (m : Int) (j : Nat) (hm : m = j + 1) (hj : j < 12) (w : World) :
    Calls Tryd.prog 28 #[.int .i64 m] w fun e w' => e = .returned (.string ⟨(mon j).toArray⟩) ∧ w' = w := by
  subst hm
  match j, hj with
  | 0, _ | 1, _ | 2, _ | 3, _ | 4, _ | 5, _ | 6, _ | 7, _ | 8, _ | 9, _ | 10, _ | 11, _ =>
    go_enter Tryd.func28, Tryd.ntmps28
    go_wp2
    go_ret
    exact ⟨ret_str (by kernel_rfl), rfl⟩
set_option maxHeartbeats 2000000 in
theorem weekday_any (m : Int) (j : Nat) (hm : m = j) (hj : j < 7) (w : World) :
    Calls Tryd.prog 26 #[.int .i64 m] w fun e w' => e = .returned (.string ⟨(wdl j).toArray⟩) ∧ w' = w := by
  subst hm
  match j, hj with
  | 0, _ | 1, _ | 2, _ | 3, _ | 4, _ | 5, _ | 6, _ =>
    go_enter Tryd.func26, Tryd.ntmps26
    go_wp2
    go_ret
    exact ⟨ret_str (by kernel_rfl), rfl⟩
end Go.Proofs.YtjbojboiagbofaaDoor
