/- From a walk to a row's claim: what the listed variables hold. -/
import Derived.Test.YtjbojboiagbofaaDoorL3
import Derived.Test.YtjbojboiagbofaaDoorRows
import Derived.Test.YtjbojboiagbofaaDoorCards
import Derived.Test.YtjbojboiagbofaaDoorTie
import Derived.ProofKit
import Derived.OpenShut
import Derived.LaidMore
import Derived.Lay
import Derived.LaidLaws
import Derived.SevenTiedAt
import Derived.Stop.Joined
import Derived.Stop.LaidErr
import Derived.Deep.DeepHandedRow
import Derived.Lib.LaidTab
set_option linter.unusedSimpArgs false
set_option linter.unusedVariables false
namespace Go.Proofs.YtjbojboiagbofaaDoor
open Go.ChangeShapes Go.WideShapes Go.ChangeAt Go.RowKit

theorem ownK : ownKnob Tryd.prog.godebug = none := by kernel_rfl
theorem laidK : laidOutB Tryd.prog = true := by kernel_rfl
/-- A table of strings as a row lists it. -/
def strData {H : Type} (ls : List (List UInt8)) : DataW H := .agg (ls.map fun l => .lit (.string l))
theorem cells_of_strs {H : Type} {enc : TypeId × Value → H} {P : Program} {w : World} {base : Nat} {sp : Nat → Bool} {held : Bool} {fuel : Nat} {t e : TypeId} {n : Nat} {cs : List Value} {ls : List (List UInt8)} {p : List MemPlace}
    (ht : P.underlying t = some (.array n e)) (he : P.underlying e = some .string) (hce : P.cellsOf e = 1) (hct : P.cellsOf t = n)
    (h : DataW.trod enc P w base sp held fuel t cs = some (strData ls, p)) : cs = ls.map fun l => Value.string ⟨l.toArray⟩ := by
  cases fuel with
  | zero => simp [DataW.trod] at h
  | succ fuel =>
    simp only [DataW.trod, ht, hce, hct, Nat.mul_one] at h
    split at h
    · rename_i hl
      obtain ⟨xs, hm, hx⟩ := Option.map_eq_some_iff.1 h
      have hxs : xs.map (·.1) = ls.map fun l => (DataW.lit (.string l) : DataW H) := by
        have := congrArg Prod.fst hx
        simpa [strData] using this
      have hxl : xs.length = n := by simpa using Lib.mapM_length hm
      have hzl : ls.length = n := by
        have := congrArg List.length hxs
        simp at this
        omega
      apply List.ext_getElem?
      intro i
      by_cases hi : i < n
      · obtain ⟨b, hb, hf⟩ := Lib.mapM_at hm i i (by simp [hi])
        obtain ⟨s, hc, hbe, _⟩ := DataW.trod_string he hf
        have h1 : cs[i]? = some (.string s) := by
          have := congrArg (·[0]?) hc
          simpa [List.getElem?_take, List.getElem?_drop] using this
        have h2 : (xs.map (·.1))[i]? = some (DataW.lit (.string s.data.toList) : DataW H) := by simp [hb, hbe]
        rw [hxs] at h2
        simp only [List.getElem?_map, Option.map_eq_some_iff, DataW.lit.injEq, Lit.string.injEq] at h2
        obtain ⟨l, hl', hs⟩ := h2
        subst hs
        simp [h1, hl']
      · rw [List.getElem?_eq_none (by omega), List.getElem?_eq_none (by simp; omega)]
    · cases h
theorem strIs_of_head {W : World} {name : String} {ls : List (List UInt8)} {rest : List (String × DataW Unit)} {g : Nat} {t e : TypeId} {n : Nat}
    (hg : Tryd.prog.globalNamed name = some g) (hty : (Tryd.prog.globals[g]?).map (·.type) = some t) (ht : Tryd.prog.underlying t = some (.array n e)) (he : Tryd.prog.underlying e = some .string) (hce : Tryd.prog.cellsOf e = 1) (hct : Tryd.prog.cellsOf t = n)
    (h : laidMet Tryd.prog ((name, strData ls) :: rest) W) : StrIs W name ls := by
  obtain ⟨ps, ⟨g', t', cs, fuel, p, q, hg', ht', hvar, hd, _, _⟩, _⟩ := h
  obtain rfl := Option.some.inj (hg.symm.trans hg')
  obtain rfl := Option.some.inj (hty.symm.trans ht')
  unfold StrIs
  rw [hvar, ← cells_of_strs ht he hce hct hd]
noncomputable def gP : Nat := (Tryd.prog.globalNamed "internal/strconv.uint64pow10").getD 0
noncomputable def tP : TypeId := ((Tryd.prog.globals[gP]?).map (·.type)).getD 0
noncomputable def eP : TypeId := match Tryd.prog.underlying tP with | some (.array _ e) => e | _ => 0
theorem pow_laid : (Rows.laid_internal_strconv_uint64pow10 : DataW Unit) = Lib.tabData .u64 Lib.pow10Tab := rfl
theorem days_laid : (Rows.laid_estafette_stamp_monthDays : DataW Unit) = Lib.tabData .i64 dtab := rfl
theorem mons_laid : (Rows.laid_estafette_stamp_monthNames : DataW Unit) = strData monT := rfl
theorem wds_laid : (Rows.laid_estafette_stamp_weekdayNames : DataW Unit) = strData wdT := rfl
theorem tabs_of {W : World} {x1 x2 : String × DataW Unit} (hp : ((x1 :: x2 :: ("internal/strconv.uint64pow10", Rows.laid_internal_strconv_uint64pow10) :: ("estafette/stamp.monthDays", Rows.laid_estafette_stamp_monthDays) :: ("estafette/stamp.monthNames", Rows.laid_estafette_stamp_monthNames) :: ("estafette/stamp.weekdayNames", Rows.laid_estafette_stamp_weekdayNames) :: []).all fun x => x.2.handleName?.isNone) = true)
    (h : laidMetH Tryd.prog (x1 :: x2 :: ("internal/strconv.uint64pow10", Rows.laid_internal_strconv_uint64pow10) :: ("estafette/stamp.monthDays", Rows.laid_estafette_stamp_monthDays) :: ("estafette/stamp.monthNames", Rows.laid_estafette_stamp_monthNames) :: ("estafette/stamp.weekdayNames", Rows.laid_estafette_stamp_weekdayNames) :: []) W) : Tabs W ∧ 0 < W.heap.size := by
  rw [MakeChecks.laidMetH_plain _ _ _ hp] at h
  have h3 := laidMet.tail (laidMet.tail h)
  have h4 := laidMet.tail h3
  have h5 := laidMet.tail h4
  have h6 := laidMet.tail h5
  rw [pow_laid] at h3
  rw [days_laid] at h4
  rw [mons_laid] at h5
  rw [wds_laid] at h6
  have hM : Mons W := strIs_of_head (g := 0) (t := 42) (e := 9) (n := 12) (by kernel_rfl) (by kernel_rfl) Tryd.underlying42 Tryd.underlying9 (by kernel_rfl) (by kernel_rfl) h5
  refine ⟨⟨?_, ?_, hM, ?_⟩, ?_⟩
  · exact Lib.tabIs_of_head (g := 2) (t := 59) (e := 3) (n := 12) (by kernel_rfl) (by kernel_rfl) (by kernel_rfl) (by kernel_rfl) (by kernel_rfl) (by kernel_rfl) h4
  · exact Lib.tabIs_of_head (g := gP) (t := tP) (e := eP) (n := 20) (by kernel_rfl) (by kernel_rfl) (by kernel_rfl) (by kernel_rfl) (by kernel_rfl) (by kernel_rfl) h3
  · exact strIs_of_head (g := 1) (t := 43) (e := 9) (n := 7) (by kernel_rfl) (by kernel_rfl) (by kernel_rfl) Tryd.underlying9 (by kernel_rfl) (by kernel_rfl) h6
  · obtain ⟨t, fr, hh⟩ := hM.heap
    exact (Array.getElem?_eq_some_iff.1 hh).1
end Go.Proofs.YtjbojboiagbofaaDoor
