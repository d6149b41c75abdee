/- The listed table of powers of ten, for a walk. -/
import Derived.Test.YtdikgifgapbocaaDoorFr
import Derived.Stop.LaidErr
set_option linter.unusedSimpArgs false
set_option linter.unusedVariables false
namespace Go.Proofs.YtdikgifgapbocaaDoor
open Go.ChangeShapes Go.WideShapes Go.ChangeAt Go.RowKit

noncomputable def gP : Nat := (Tryd.prog.globalNamed "internal/strconv.uint64pow10").getD 0
noncomputable def tP : TypeId := ((Tryd.prog.globals[gP]?).map (·.type)).getD 0
noncomputable def eP : TypeId := match Tryd.prog.underlying tP with | some (.array _ e) => e | _ => 0
theorem pow_laid : (Rows.laid_internal_strconv_uint64pow10 : DataW Unit) = Lib.tabData .u64 Lib.pow10Tab := rfl
theorem tab_of {W : World} {x1 x2 : String × DataW Unit} {r : List (String × DataW Unit)} (hp : ((x1 :: x2 :: ("internal/strconv.uint64pow10", Rows.laid_internal_strconv_uint64pow10) :: r).all fun x => x.2.handleName?.isNone) = true) (h : laidMetH Tryd.prog (x1 :: x2 :: ("internal/strconv.uint64pow10", Rows.laid_internal_strconv_uint64pow10) :: r) W) : Tab W := by
  rw [MakeChecks.laidMetH_plain _ _ _ hp] at h
  have h3 := laidMet.tail (laidMet.tail h)
  rw [pow_laid] at h3
  exact Lib.tabIs_of_head (g := gP) (t := tP) (e := eP) (n := 20) (by kernel_rfl) (by kernel_rfl) (by kernel_rfl) (by kernel_rfl) (by kernel_rfl) (by kernel_rfl) h3
end Go.Proofs.YtdikgifgapbocaaDoor
