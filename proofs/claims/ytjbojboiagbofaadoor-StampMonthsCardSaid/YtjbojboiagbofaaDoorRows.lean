/-
  NARROWER THAN 'FOR EVERY INPUT', by the rows' own cells (each row's printed sentence says how): StampTells: laid · StampReads: laid · StampBack: laid · StampOrder: laid · StampZones: laid · StampMonths: laid.
  DERIVED. THE GIVEN ROWS OF THIS SEAT. 6 by the template 'for every input the law returns true; each argument reads behind the call as it read before'; 0 by the template 'total and deterministic' (their statements: YtjbojboiagbofaaDoorTotals.lean).
  GIVEN WITH THE SEED: the statements are not yours to turn. If you find one false, say at which input.
  Laid BY PROGRAM, IN A SANDBOX (cutbox-rows.mjs): the forced cells as the released guide's own fill.sh prints them over the translation 28d883219b8a315d… (all of the seat's roots in one cut). By AI agents, Wed Nov 11 2026. No macro, syntax, notation, axiom, sorry.
-/
import Derived.Test.YtjbojboiagbofaaDoorChecked
import GoSem.Claim
import GoSem.ClaimJoined
import GoSem.ClaimMapViews
import Derived.JoinedTies
import Derived.KernelRfl
namespace Go.Proofs.YtjbojboiagbofaaDoor
/- THE CELL 'sum', in the pinned program and in every row, IS THE sha256 OF THE DUMP (.gsa) THAT YtjbojboiagbofaaDoorProg.lean LOADS. Nothing in Lean hashes anything: it is a label: what it is worth is what the hold of that sum in a sandbox is worth. -/
noncomputable def Tryd.pinned : Pinned := { name := "ytjbojboiagbofaadoor", sum := "28d883219b8a315dbd1ffc3d2a9b63bd351f8d37fee037469fd6583e36ad9cec", checked := Tryd.checked }
namespace Rows
def none {H : Type} : Left H := { results := [], args := [] }

/- WHAT THE LISTED PACKAGE-LEVEL VARIABLES READ AS WHEN THE CALL BEGINS. Each datum BY PROGRAM (the guide's laid-datum.mjs) off the statement by which the dump's own 'gosem.cut.vars' lays the variable. In a bare row this is a premise. The card (YtjbojboiagbofaaDoorCards.lean) ties it to the program's text. -/
def laid_math_bits_deBruijn32tab {H : Type} : DataW H := .agg [.lit (.int .u8 0), .lit (.int .u8 1), .lit (.int .u8 28), .lit (.int .u8 2), .lit (.int .u8 29), .lit (.int .u8 14), .lit (.int .u8 24), .lit (.int .u8 3), .lit (.int .u8 30), .lit (.int .u8 22), .lit (.int .u8 20), .lit (.int .u8 15), .lit (.int .u8 25), .lit (.int .u8 17), .lit (.int .u8 4), .lit (.int .u8 8), .lit (.int .u8 31), .lit (.int .u8 27), .lit (.int .u8 13), .lit (.int .u8 23), .lit (.int .u8 21), .lit (.int .u8 19), .lit (.int .u8 16), .lit (.int .u8 7), .lit (.int .u8 26), .lit (.int .u8 12), .lit (.int .u8 18), .lit (.int .u8 6), .lit (.int .u8 11), .lit (.int .u8 5), .lit (.int .u8 10), .lit (.int .u8 9)]
def laid_math_bits_deBruijn64tab {H : Type} : DataW H := .agg [.lit (.int .u8 0), .lit (.int .u8 1), .lit (.int .u8 56), .lit (.int .u8 2), .lit (.int .u8 57), .lit (.int .u8 49), .lit (.int .u8 28), .lit (.int .u8 3), .lit (.int .u8 61), .lit (.int .u8 58), .lit (.int .u8 42), .lit (.int .u8 50), .lit (.int .u8 38), .lit (.int .u8 29), .lit (.int .u8 17), .lit (.int .u8 4), .lit (.int .u8 62), .lit (.int .u8 47), .lit (.int .u8 59), .lit (.int .u8 36), .lit (.int .u8 45), .lit (.int .u8 43), .lit (.int .u8 51), .lit (.int .u8 22), .lit (.int .u8 53), .lit (.int .u8 39), .lit (.int .u8 33), .lit (.int .u8 30), .lit (.int .u8 24), .lit (.int .u8 18), .lit (.int .u8 12), .lit (.int .u8 5), .lit (.int .u8 63), .lit (.int .u8 55), .lit (.int .u8 48), .lit (.int .u8 27), .lit (.int .u8 60), .lit (.int .u8 41), .lit (.int .u8 37), .lit (.int .u8 16), .lit (.int .u8 46), .lit (.int .u8 35), .lit (.int .u8 44), .lit (.int .u8 21), .lit (.int .u8 52), .lit (.int .u8 32), .lit (.int .u8 23), .lit (.int .u8 11), .lit (.int .u8 54), .lit (.int .u8 26), .lit (.int .u8 40), .lit (.int .u8 15), .lit (.int .u8 34), .lit (.int .u8 20), .lit (.int .u8 31), .lit (.int .u8 10), .lit (.int .u8 25), .lit (.int .u8 14), .lit (.int .u8 19), .lit (.int .u8 9), .lit (.int .u8 13), .lit (.int .u8 8), .lit (.int .u8 7), .lit (.int .u8 6)]
def laid_internal_strconv_uint64pow10 {H : Type} : DataW H := .agg [.lit (.int .u64 1), .lit (.int .u64 10), .lit (.int .u64 100), .lit (.int .u64 1000), .lit (.int .u64 10000), .lit (.int .u64 100000), .lit (.int .u64 1000000), .lit (.int .u64 10000000), .lit (.int .u64 100000000), .lit (.int .u64 1000000000), .lit (.int .u64 10000000000), .lit (.int .u64 100000000000), .lit (.int .u64 1000000000000), .lit (.int .u64 10000000000000), .lit (.int .u64 100000000000000), .lit (.int .u64 1000000000000000), .lit (.int .u64 10000000000000000), .lit (.int .u64 100000000000000000), .lit (.int .u64 1000000000000000000), .lit (.int .u64 10000000000000000000)]
def laid_estafette_stamp_monthDays {H : Type} : DataW H := .agg [.lit (.int .i64 31), .lit (.int .i64 28), .lit (.int .i64 31), .lit (.int .i64 30), .lit (.int .i64 31), .lit (.int .i64 30), .lit (.int .i64 31), .lit (.int .i64 31), .lit (.int .i64 30), .lit (.int .i64 31), .lit (.int .i64 30), .lit (.int .i64 31)]
def laid_estafette_stamp_monthNames {H : Type} : DataW H := .agg [.lit (.string [74, 97, 110]), .lit (.string [70, 101, 98]), .lit (.string [77, 97, 114]), .lit (.string [65, 112, 114]), .lit (.string [77, 97, 121]), .lit (.string [74, 117, 110]), .lit (.string [74, 117, 108]), .lit (.string [65, 117, 103]), .lit (.string [83, 101, 112]), .lit (.string [79, 99, 116]), .lit (.string [78, 111, 118]), .lit (.string [68, 101, 99])]
def laid_estafette_stamp_weekdayNames {H : Type} : DataW H := .agg [.lit (.string [83, 117, 110]), .lit (.string [77, 111, 110]), .lit (.string [84, 117, 101]), .lit (.string [87, 101, 100]), .lit (.string [84, 104, 117]), .lit (.string [70, 114, 105]), .lit (.string [83, 97, 116])]

/-- 'estafettelaw08.StampTells': WHATEVER THE INPUT: true; the input reads as it did. -/
def stampTellsSpec : ChangeSpec := { name := "stampTells", fn := fun _ => fun
  | [d] => { results := [.lit (.bool true)], args := [d] }
  | _ => none }
def stampTellsRow : OpenClaim := { program := "ytjbojboiagbofaadoor", sum := "28d883219b8a315dbd1ffc3d2a9b63bd351f8d37fee037469fd6583e36ad9cec", func := "estafette/estafettelaw08.StampTells", spec := "stampTells", named := ["estafette/stamp.monthDays", "estafette/stamp.monthNames", "estafette/stamp.weekdayNames", "internal/strconv.uint64pow10", "math/bits.deBruijn32tab", "math/bits.deBruijn64tab"], apart := false, laid := [("math/bits.deBruijn32tab", laid_math_bits_deBruijn32tab), ("math/bits.deBruijn64tab", laid_math_bits_deBruijn64tab), ("internal/strconv.uint64pow10", laid_internal_strconv_uint64pow10), ("estafette/stamp.monthDays", laid_estafette_stamp_monthDays), ("estafette/stamp.monthNames", laid_estafette_stamp_monthNames), ("estafette/stamp.weekdayNames", laid_estafette_stamp_weekdayNames)] }
def StampTellsSaid : Prop := stampTellsRow.holds Tryd.pinned (OpenSpec.ofChange stampTellsSpec)

/-- ITS FALSE NEIGHBOUR: 'it returns false'. Refute it at one input. -/
def stampTellsWrong : ChangeSpec := { name := "stampTells", fn := fun _ => fun
  | [d] => { results := [.lit (.bool false)], args := [d] }
  | _ => none }
def StampTellsWrongFalsely : Prop := stampTellsRow.holds Tryd.pinned (OpenSpec.ofChange stampTellsWrong)

/-- 'estafettelaw08.StampReads': WHATEVER THE INPUT: true; the input reads as it did. -/
def stampReadsSpec : ChangeSpec := { name := "stampReads", fn := fun _ => fun
  | [d1, d2] => { results := [.lit (.bool true)], args := [d1, d2] }
  | _ => none }
def stampReadsRow : OpenClaim := { program := "ytjbojboiagbofaadoor", sum := "28d883219b8a315dbd1ffc3d2a9b63bd351f8d37fee037469fd6583e36ad9cec", func := "estafette/estafettelaw08.StampReads", spec := "stampReads", named := ["estafette/stamp.monthDays", "estafette/stamp.monthNames", "estafette/stamp.weekdayNames", "internal/strconv.uint64pow10", "math/bits.deBruijn32tab", "math/bits.deBruijn64tab"], apart := false, laid := [("math/bits.deBruijn32tab", laid_math_bits_deBruijn32tab), ("math/bits.deBruijn64tab", laid_math_bits_deBruijn64tab), ("internal/strconv.uint64pow10", laid_internal_strconv_uint64pow10), ("estafette/stamp.monthDays", laid_estafette_stamp_monthDays), ("estafette/stamp.monthNames", laid_estafette_stamp_monthNames), ("estafette/stamp.weekdayNames", laid_estafette_stamp_weekdayNames)] }
def StampReadsSaid : Prop := stampReadsRow.holds Tryd.pinned (OpenSpec.ofChange stampReadsSpec)

/-- ITS FALSE NEIGHBOUR: 'it returns false'. Refute it at one input. -/
def stampReadsWrong : ChangeSpec := { name := "stampReads", fn := fun _ => fun
  | [d1, d2] => { results := [.lit (.bool false)], args := [d1, d2] }
  | _ => none }
def StampReadsWrongFalsely : Prop := stampReadsRow.holds Tryd.pinned (OpenSpec.ofChange stampReadsWrong)

/-- 'estafettelaw08.StampBack': WHATEVER THE INPUT: true; the input reads as it did. -/
def stampBackSpec : ChangeSpec := { name := "stampBack", fn := fun _ => fun
  | [d] => { results := [.lit (.bool true)], args := [d] }
  | _ => none }
def stampBackRow : OpenClaim := { program := "ytjbojboiagbofaadoor", sum := "28d883219b8a315dbd1ffc3d2a9b63bd351f8d37fee037469fd6583e36ad9cec", func := "estafette/estafettelaw08.StampBack", spec := "stampBack", named := ["estafette/stamp.monthDays", "estafette/stamp.monthNames", "estafette/stamp.weekdayNames", "internal/strconv.uint64pow10", "math/bits.deBruijn32tab", "math/bits.deBruijn64tab"], apart := false, laid := [("math/bits.deBruijn32tab", laid_math_bits_deBruijn32tab), ("math/bits.deBruijn64tab", laid_math_bits_deBruijn64tab), ("internal/strconv.uint64pow10", laid_internal_strconv_uint64pow10), ("estafette/stamp.monthDays", laid_estafette_stamp_monthDays), ("estafette/stamp.monthNames", laid_estafette_stamp_monthNames), ("estafette/stamp.weekdayNames", laid_estafette_stamp_weekdayNames)] }
def StampBackSaid : Prop := stampBackRow.holds Tryd.pinned (OpenSpec.ofChange stampBackSpec)

/-- ITS FALSE NEIGHBOUR: 'it returns false'. Refute it at one input. -/
def stampBackWrong : ChangeSpec := { name := "stampBack", fn := fun _ => fun
  | [d] => { results := [.lit (.bool false)], args := [d] }
  | _ => none }
def StampBackWrongFalsely : Prop := stampBackRow.holds Tryd.pinned (OpenSpec.ofChange stampBackWrong)

/-- 'estafettelaw08.StampOrder': WHATEVER THE INPUT: true; the input reads as it did. -/
def stampOrderSpec : ChangeSpec := { name := "stampOrder", fn := fun _ => fun
  | [d1, d2] => { results := [.lit (.bool true)], args := [d1, d2] }
  | _ => none }
def stampOrderRow : OpenClaim := { program := "ytjbojboiagbofaadoor", sum := "28d883219b8a315dbd1ffc3d2a9b63bd351f8d37fee037469fd6583e36ad9cec", func := "estafette/estafettelaw08.StampOrder", spec := "stampOrder", named := ["estafette/stamp.monthDays", "estafette/stamp.monthNames", "estafette/stamp.weekdayNames", "internal/strconv.uint64pow10", "math/bits.deBruijn32tab", "math/bits.deBruijn64tab"], apart := false, laid := [("math/bits.deBruijn32tab", laid_math_bits_deBruijn32tab), ("math/bits.deBruijn64tab", laid_math_bits_deBruijn64tab), ("internal/strconv.uint64pow10", laid_internal_strconv_uint64pow10), ("estafette/stamp.monthDays", laid_estafette_stamp_monthDays), ("estafette/stamp.monthNames", laid_estafette_stamp_monthNames), ("estafette/stamp.weekdayNames", laid_estafette_stamp_weekdayNames)] }
def StampOrderSaid : Prop := stampOrderRow.holds Tryd.pinned (OpenSpec.ofChange stampOrderSpec)

/-- ITS FALSE NEIGHBOUR: 'it returns false'. Refute it at one input. -/
def stampOrderWrong : ChangeSpec := { name := "stampOrder", fn := fun _ => fun
  | [d1, d2] => { results := [.lit (.bool false)], args := [d1, d2] }
  | _ => none }
def StampOrderWrongFalsely : Prop := stampOrderRow.holds Tryd.pinned (OpenSpec.ofChange stampOrderWrong)

/-- 'estafettelaw08.StampZones': WHATEVER THE INPUT: true; the input reads as it did. -/
def stampZonesSpec : ChangeSpec := { name := "stampZones", fn := fun _ => fun
  | [d1, d2, d3] => { results := [.lit (.bool true)], args := [d1, d2, d3] }
  | _ => none }
def stampZonesRow : OpenClaim := { program := "ytjbojboiagbofaadoor", sum := "28d883219b8a315dbd1ffc3d2a9b63bd351f8d37fee037469fd6583e36ad9cec", func := "estafette/estafettelaw08.StampZones", spec := "stampZones", named := ["estafette/stamp.monthDays", "estafette/stamp.monthNames", "estafette/stamp.weekdayNames", "internal/strconv.uint64pow10", "math/bits.deBruijn32tab", "math/bits.deBruijn64tab"], apart := false, laid := [("math/bits.deBruijn32tab", laid_math_bits_deBruijn32tab), ("math/bits.deBruijn64tab", laid_math_bits_deBruijn64tab), ("internal/strconv.uint64pow10", laid_internal_strconv_uint64pow10), ("estafette/stamp.monthDays", laid_estafette_stamp_monthDays), ("estafette/stamp.monthNames", laid_estafette_stamp_monthNames), ("estafette/stamp.weekdayNames", laid_estafette_stamp_weekdayNames)] }
def StampZonesSaid : Prop := stampZonesRow.holds Tryd.pinned (OpenSpec.ofChange stampZonesSpec)

/-- ITS FALSE NEIGHBOUR: 'it returns false'. Refute it at one input. -/
def stampZonesWrong : ChangeSpec := { name := "stampZones", fn := fun _ => fun
  | [d1, d2, d3] => { results := [.lit (.bool false)], args := [d1, d2, d3] }
  | _ => none }
def StampZonesWrongFalsely : Prop := stampZonesRow.holds Tryd.pinned (OpenSpec.ofChange stampZonesWrong)

/-- 'estafettelaw08.StampMonths': WHATEVER THE INPUT: true; the input reads as it did. -/
def stampMonthsSpec : ChangeSpec := { name := "stampMonths", fn := fun _ => fun
  | [d1, d2] => { results := [.lit (.bool true)], args := [d1, d2] }
  | _ => none }
def stampMonthsRow : OpenClaim := { program := "ytjbojboiagbofaadoor", sum := "28d883219b8a315dbd1ffc3d2a9b63bd351f8d37fee037469fd6583e36ad9cec", func := "estafette/estafettelaw08.StampMonths", spec := "stampMonths", named := ["estafette/stamp.monthDays", "estafette/stamp.monthNames", "estafette/stamp.weekdayNames", "internal/strconv.uint64pow10", "math/bits.deBruijn32tab", "math/bits.deBruijn64tab"], apart := false, laid := [("math/bits.deBruijn32tab", laid_math_bits_deBruijn32tab), ("math/bits.deBruijn64tab", laid_math_bits_deBruijn64tab), ("internal/strconv.uint64pow10", laid_internal_strconv_uint64pow10), ("estafette/stamp.monthDays", laid_estafette_stamp_monthDays), ("estafette/stamp.monthNames", laid_estafette_stamp_monthNames), ("estafette/stamp.weekdayNames", laid_estafette_stamp_weekdayNames)] }
def StampMonthsSaid : Prop := stampMonthsRow.holds Tryd.pinned (OpenSpec.ofChange stampMonthsSpec)

/-- ITS FALSE NEIGHBOUR: 'it returns false'. Refute it at one input. -/
def stampMonthsWrong : ChangeSpec := { name := "stampMonths", fn := fun _ => fun
  | [d1, d2] => { results := [.lit (.bool false)], args := [d1, d2] }
  | _ => none }
def StampMonthsWrongFalsely : Prop := stampMonthsRow.holds Tryd.pinned (OpenSpec.ofChange stampMonthsWrong)

/- THE SECOND FORM. 'bulk': how many values and letters a reading holds, each counted each time it is reached (what is shared counts as often as it is met; a slice's spare places count too). A statement '..UptoSaid' is the law's where the arguments, and the package variables that the reading takes, are together of bulk at most 1048576: NARROWER than '..Said'. Prove '..Said' where nothing that the law and all that it calls make is longer than what came in: it says more and counts as full. Else prove '..UptoSaid'. A law counts once. -/
mutual
def uptoBulk {H : Type} : DataW H → Nat
  | .lit (.string bytes) => bytes.length + 1
  | .lit _ => 1
  | .nil => 1
  | .ptr d => uptoBulk d + 1
  | .slice elems spare => uptoBulkAll elems + uptoBulkAll spare + 1
  | .agg parts => uptoBulkAll parts + 1
  | .iface _ d => uptoBulk d + 1
  | .map entries => uptoBulkEntries entries + 1
  | .held _ => 1
def uptoBulkAll {H : Type} : List (DataW H) → Nat
  | [] => 0
  | d :: r => uptoBulk d + uptoBulkAll r
def uptoBulkEntries {H : Type} : List (Lit × DataW H) → Nat
  | [] => 0
  | x :: r => uptoBulkEntry x + uptoBulkEntries r
def uptoBulkEntry {H : Type} : Lit × DataW H → Nat
  | (.string bytes, d) => bytes.length + uptoBulk d + 1
  | (_, d) => uptoBulk d + 1
 end
def uptoSmall : (H : Type) → List (DataW H) → Bool := fun _ ds => decide (uptoBulkAll ds ≤ 1048576)
def OpenSpec.upto (s : _root_.Go.ChangeSpec) : _root_.Go.OpenSpec := { _root_.Go.OpenSpec.ofChange s with cond := some uptoSmall }

/-- 'estafettelaw08.StampTells', WHERE WHAT IT READS IS OF BULK AT MOST 1048576: true; the input reads as it did. -/
def stampTellsUptoRow : OpenClaim := { program := "ytjbojboiagbofaadoor", sum := "28d883219b8a315dbd1ffc3d2a9b63bd351f8d37fee037469fd6583e36ad9cec", func := "estafette/estafettelaw08.StampTells", spec := "stampTells", named := ["estafette/stamp.monthDays", "estafette/stamp.monthNames", "estafette/stamp.weekdayNames", "internal/strconv.uint64pow10", "math/bits.deBruijn32tab", "math/bits.deBruijn64tab"], apart := false, laid := [("math/bits.deBruijn32tab", laid_math_bits_deBruijn32tab), ("math/bits.deBruijn64tab", laid_math_bits_deBruijn64tab), ("internal/strconv.uint64pow10", laid_internal_strconv_uint64pow10), ("estafette/stamp.monthDays", laid_estafette_stamp_monthDays), ("estafette/stamp.monthNames", laid_estafette_stamp_monthNames), ("estafette/stamp.weekdayNames", laid_estafette_stamp_weekdayNames)], narrowed := true }
def StampTellsUptoSaid : Prop := stampTellsUptoRow.holds Tryd.pinned (OpenSpec.upto stampTellsSpec)

/-- 'estafettelaw08.StampReads', WHERE WHAT IT READS IS OF BULK AT MOST 1048576: true; the input reads as it did. -/
def stampReadsUptoRow : OpenClaim := { program := "ytjbojboiagbofaadoor", sum := "28d883219b8a315dbd1ffc3d2a9b63bd351f8d37fee037469fd6583e36ad9cec", func := "estafette/estafettelaw08.StampReads", spec := "stampReads", named := ["estafette/stamp.monthDays", "estafette/stamp.monthNames", "estafette/stamp.weekdayNames", "internal/strconv.uint64pow10", "math/bits.deBruijn32tab", "math/bits.deBruijn64tab"], apart := false, laid := [("math/bits.deBruijn32tab", laid_math_bits_deBruijn32tab), ("math/bits.deBruijn64tab", laid_math_bits_deBruijn64tab), ("internal/strconv.uint64pow10", laid_internal_strconv_uint64pow10), ("estafette/stamp.monthDays", laid_estafette_stamp_monthDays), ("estafette/stamp.monthNames", laid_estafette_stamp_monthNames), ("estafette/stamp.weekdayNames", laid_estafette_stamp_weekdayNames)], narrowed := true }
def StampReadsUptoSaid : Prop := stampReadsUptoRow.holds Tryd.pinned (OpenSpec.upto stampReadsSpec)

/-- 'estafettelaw08.StampBack', WHERE WHAT IT READS IS OF BULK AT MOST 1048576: true; the input reads as it did. -/
def stampBackUptoRow : OpenClaim := { program := "ytjbojboiagbofaadoor", sum := "28d883219b8a315dbd1ffc3d2a9b63bd351f8d37fee037469fd6583e36ad9cec", func := "estafette/estafettelaw08.StampBack", spec := "stampBack", named := ["estafette/stamp.monthDays", "estafette/stamp.monthNames", "estafette/stamp.weekdayNames", "internal/strconv.uint64pow10", "math/bits.deBruijn32tab", "math/bits.deBruijn64tab"], apart := false, laid := [("math/bits.deBruijn32tab", laid_math_bits_deBruijn32tab), ("math/bits.deBruijn64tab", laid_math_bits_deBruijn64tab), ("internal/strconv.uint64pow10", laid_internal_strconv_uint64pow10), ("estafette/stamp.monthDays", laid_estafette_stamp_monthDays), ("estafette/stamp.monthNames", laid_estafette_stamp_monthNames), ("estafette/stamp.weekdayNames", laid_estafette_stamp_weekdayNames)], narrowed := true }
def StampBackUptoSaid : Prop := stampBackUptoRow.holds Tryd.pinned (OpenSpec.upto stampBackSpec)

/-- 'estafettelaw08.StampOrder', WHERE WHAT IT READS IS OF BULK AT MOST 1048576: true; the input reads as it did. -/
def stampOrderUptoRow : OpenClaim := { program := "ytjbojboiagbofaadoor", sum := "28d883219b8a315dbd1ffc3d2a9b63bd351f8d37fee037469fd6583e36ad9cec", func := "estafette/estafettelaw08.StampOrder", spec := "stampOrder", named := ["estafette/stamp.monthDays", "estafette/stamp.monthNames", "estafette/stamp.weekdayNames", "internal/strconv.uint64pow10", "math/bits.deBruijn32tab", "math/bits.deBruijn64tab"], apart := false, laid := [("math/bits.deBruijn32tab", laid_math_bits_deBruijn32tab), ("math/bits.deBruijn64tab", laid_math_bits_deBruijn64tab), ("internal/strconv.uint64pow10", laid_internal_strconv_uint64pow10), ("estafette/stamp.monthDays", laid_estafette_stamp_monthDays), ("estafette/stamp.monthNames", laid_estafette_stamp_monthNames), ("estafette/stamp.weekdayNames", laid_estafette_stamp_weekdayNames)], narrowed := true }
def StampOrderUptoSaid : Prop := stampOrderUptoRow.holds Tryd.pinned (OpenSpec.upto stampOrderSpec)

/-- 'estafettelaw08.StampZones', WHERE WHAT IT READS IS OF BULK AT MOST 1048576: true; the input reads as it did. -/
def stampZonesUptoRow : OpenClaim := { program := "ytjbojboiagbofaadoor", sum := "28d883219b8a315dbd1ffc3d2a9b63bd351f8d37fee037469fd6583e36ad9cec", func := "estafette/estafettelaw08.StampZones", spec := "stampZones", named := ["estafette/stamp.monthDays", "estafette/stamp.monthNames", "estafette/stamp.weekdayNames", "internal/strconv.uint64pow10", "math/bits.deBruijn32tab", "math/bits.deBruijn64tab"], apart := false, laid := [("math/bits.deBruijn32tab", laid_math_bits_deBruijn32tab), ("math/bits.deBruijn64tab", laid_math_bits_deBruijn64tab), ("internal/strconv.uint64pow10", laid_internal_strconv_uint64pow10), ("estafette/stamp.monthDays", laid_estafette_stamp_monthDays), ("estafette/stamp.monthNames", laid_estafette_stamp_monthNames), ("estafette/stamp.weekdayNames", laid_estafette_stamp_weekdayNames)], narrowed := true }
def StampZonesUptoSaid : Prop := stampZonesUptoRow.holds Tryd.pinned (OpenSpec.upto stampZonesSpec)

/-- 'estafettelaw08.StampMonths', WHERE WHAT IT READS IS OF BULK AT MOST 1048576: true; the input reads as it did. -/
def stampMonthsUptoRow : OpenClaim := { program := "ytjbojboiagbofaadoor", sum := "28d883219b8a315dbd1ffc3d2a9b63bd351f8d37fee037469fd6583e36ad9cec", func := "estafette/estafettelaw08.StampMonths", spec := "stampMonths", named := ["estafette/stamp.monthDays", "estafette/stamp.monthNames", "estafette/stamp.weekdayNames", "internal/strconv.uint64pow10", "math/bits.deBruijn32tab", "math/bits.deBruijn64tab"], apart := false, laid := [("math/bits.deBruijn32tab", laid_math_bits_deBruijn32tab), ("math/bits.deBruijn64tab", laid_math_bits_deBruijn64tab), ("internal/strconv.uint64pow10", laid_internal_strconv_uint64pow10), ("estafette/stamp.monthDays", laid_estafette_stamp_monthDays), ("estafette/stamp.monthNames", laid_estafette_stamp_monthNames), ("estafette/stamp.weekdayNames", laid_estafette_stamp_weekdayNames)], narrowed := true }
def StampMonthsUptoSaid : Prop := stampMonthsUptoRow.holds Tryd.pinned (OpenSpec.upto stampMonthsSpec)

end Rows
end Go.Proofs.YtjbojboiagbofaaDoor
