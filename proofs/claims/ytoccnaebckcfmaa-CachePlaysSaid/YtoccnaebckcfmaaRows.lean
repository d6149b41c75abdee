/-
  No cell of these rows narrows 'for every input' (looked for: loops, veiled, ifaces, maps, wideKeys, modest, calm, conditions, laid).
  DERIVED. THE GIVEN ROWS OF THIS SEAT. 5 by the template 'for every input the law returns true; each argument reads behind the call as it read before'; 0 by the template 'total and deterministic' (their statements: YtoccnaebckcfmaaTotals.lean).
  GIVEN WITH THE SEED: the statements are not yours to turn. If you find one false, say at which input.
  Laid BY PROGRAM, IN A SANDBOX (cutbox-rows.mjs): the forced cells as the released guide's own fill.sh prints them over the translation d51b44fb6110f189… (all of the seat's roots in one cut). By AI agents, Wed Nov 11 2026. No macro, syntax, notation, axiom, sorry.
-/
import Derived.Test.YtoccnaebckcfmaaChecked
import GoSem.Claim
import GoSem.ClaimJoined
import GoSem.ClaimMapViews
import Derived.JoinedTies
import Derived.KernelRfl
namespace Go.Proofs.Ytoccnaebckcfmaa
/- THE CELL 'sum', in the pinned program and in every row, IS THE sha256 OF THE DUMP (.gsa) THAT YtoccnaebckcfmaaProg.lean LOADS. Nothing in Lean hashes anything: it is a label: what it is worth is what the hold of that sum in a sandbox is worth. -/
noncomputable def Try.pinned : Pinned := { name := "ytoccnaebckcfmaa", sum := "d51b44fb6110f189c3f8dc9d3069a49a25f564ad55a2f2ec0fe2605cb71fae0c", checked := Try.checked }
namespace Rows
def none {H : Type} : Left H := { results := [], args := [] }

/-- 'estafettelaw03.CachePlays': WHATEVER THE INPUT: true; the input reads as it did. -/
def cachePlaysSpec : ChangeSpec := { name := "cachePlays", fn := fun _ => fun
  | [d1, d2] => { results := [.lit (.bool true)], args := [d1, d2] }
  | _ => none }
def cachePlaysRow : OpenClaim := { program := "ytoccnaebckcfmaa", sum := "d51b44fb6110f189c3f8dc9d3069a49a25f564ad55a2f2ec0fe2605cb71fae0c", func := "estafette/estafettelaw03.CachePlays", spec := "cachePlays", unfollowed := true, recurses := true, apart := false }
def CachePlaysSaid : Prop := cachePlaysRow.holds Try.pinned (OpenSpec.ofChange cachePlaysSpec)

/-- ITS FALSE NEIGHBOUR: 'it returns false'. Refute it at one input. -/
def cachePlaysWrong : ChangeSpec := { name := "cachePlays", fn := fun _ => fun
  | [d1, d2] => { results := [.lit (.bool false)], args := [d1, d2] }
  | _ => none }
def CachePlaysWrongFalsely : Prop := cachePlaysRow.holds Try.pinned (OpenSpec.ofChange cachePlaysWrong)

/-- 'estafettelaw03.CacheBounds': WHATEVER THE INPUT: true; the input reads as it did. -/
def cacheBoundsSpec : ChangeSpec := { name := "cacheBounds", fn := fun _ => fun
  | [d1, d2] => { results := [.lit (.bool true)], args := [d1, d2] }
  | _ => none }
def cacheBoundsRow : OpenClaim := { program := "ytoccnaebckcfmaa", sum := "d51b44fb6110f189c3f8dc9d3069a49a25f564ad55a2f2ec0fe2605cb71fae0c", func := "estafette/estafettelaw03.CacheBounds", spec := "cacheBounds", unfollowed := true, recurses := true, apart := false }
def CacheBoundsSaid : Prop := cacheBoundsRow.holds Try.pinned (OpenSpec.ofChange cacheBoundsSpec)

/-- ITS FALSE NEIGHBOUR: 'it returns false'. Refute it at one input. -/
def cacheBoundsWrong : ChangeSpec := { name := "cacheBounds", fn := fun _ => fun
  | [d1, d2] => { results := [.lit (.bool false)], args := [d1, d2] }
  | _ => none }
def CacheBoundsWrongFalsely : Prop := cacheBoundsRow.holds Try.pinned (OpenSpec.ofChange cacheBoundsWrong)

/-- 'estafettelaw03.CacheAborts': WHATEVER THE INPUT: true; the input reads as it did. -/
def cacheAbortsSpec : ChangeSpec := { name := "cacheAborts", fn := fun _ => fun
  | [d1, d2] => { results := [.lit (.bool true)], args := [d1, d2] }
  | _ => none }
def cacheAbortsRow : OpenClaim := { program := "ytoccnaebckcfmaa", sum := "d51b44fb6110f189c3f8dc9d3069a49a25f564ad55a2f2ec0fe2605cb71fae0c", func := "estafette/estafettelaw03.CacheAborts", spec := "cacheAborts", unfollowed := true, recurses := true, apart := false }
def CacheAbortsSaid : Prop := cacheAbortsRow.holds Try.pinned (OpenSpec.ofChange cacheAbortsSpec)

/-- ITS FALSE NEIGHBOUR: 'it returns false'. Refute it at one input. -/
def cacheAbortsWrong : ChangeSpec := { name := "cacheAborts", fn := fun _ => fun
  | [d1, d2] => { results := [.lit (.bool false)], args := [d1, d2] }
  | _ => none }
def CacheAbortsWrongFalsely : Prop := cacheAbortsRow.holds Try.pinned (OpenSpec.ofChange cacheAbortsWrong)

/-- 'estafettelaw03.CacheCrashes': WHATEVER THE INPUT: true; the input reads as it did. -/
def cacheCrashesSpec : ChangeSpec := { name := "cacheCrashes", fn := fun _ => fun
  | [d1, d2, d3] => { results := [.lit (.bool true)], args := [d1, d2, d3] }
  | _ => none }
def cacheCrashesRow : OpenClaim := { program := "ytoccnaebckcfmaa", sum := "d51b44fb6110f189c3f8dc9d3069a49a25f564ad55a2f2ec0fe2605cb71fae0c", func := "estafette/estafettelaw03.CacheCrashes", spec := "cacheCrashes", inPlace := ["maps.clone"], unfollowed := true, recurses := true, apart := false }
def CacheCrashesSaid : Prop := cacheCrashesRow.holds Try.pinned (OpenSpec.ofChange cacheCrashesSpec)

/-- ITS FALSE NEIGHBOUR: 'it returns false'. Refute it at one input. -/
def cacheCrashesWrong : ChangeSpec := { name := "cacheCrashes", fn := fun _ => fun
  | [d1, d2, d3] => { results := [.lit (.bool false)], args := [d1, d2, d3] }
  | _ => none }
def CacheCrashesWrongFalsely : Prop := cacheCrashesRow.holds Try.pinned (OpenSpec.ofChange cacheCrashesWrong)

/-- 'estafettelaw03.CacheReads': WHATEVER THE INPUT: true; the input reads as it did. -/
def cacheReadsSpec : ChangeSpec := { name := "cacheReads", fn := fun _ => fun
  | [d1, d2] => { results := [.lit (.bool true)], args := [d1, d2] }
  | _ => none }
def cacheReadsRow : OpenClaim := { program := "ytoccnaebckcfmaa", sum := "d51b44fb6110f189c3f8dc9d3069a49a25f564ad55a2f2ec0fe2605cb71fae0c", func := "estafette/estafettelaw03.CacheReads", spec := "cacheReads", unfollowed := true, recurses := true, apart := false }
def CacheReadsSaid : Prop := cacheReadsRow.holds Try.pinned (OpenSpec.ofChange cacheReadsSpec)

/-- ITS FALSE NEIGHBOUR: 'it returns false'. Refute it at one input. -/
def cacheReadsWrong : ChangeSpec := { name := "cacheReads", fn := fun _ => fun
  | [d1, d2] => { results := [.lit (.bool false)], args := [d1, d2] }
  | _ => none }
def CacheReadsWrongFalsely : Prop := cacheReadsRow.holds Try.pinned (OpenSpec.ofChange cacheReadsWrong)

/- THE SECOND FORM. 'bulk': how many values and letters a reading holds, each counted each time it is reached (what is shared counts as often as it is met; a slice's spare places count too). A statement '..UptoSaid' is the law's where the arguments, and the package variables that the reading takes, are together of bulk at most 1048576: NARROWER than '..Said'. Prove '..Said' where nothing that the law and all that it calls make is longer than what came in: it says more and counts as full. Else prove '..UptoSaid'. A law counts once. -/
mutual
def uptoBulk {H : Type} : DataW H → Nat
  | .lit (.string bytes) => bytes.length + 1
  | .lit _ => 1
  | .nil => 1
  | .ptr d => uptoBulk d + 1
  | .slice elems spare => uptoBulkAll elems + uptoBulkAll spare + 1
  | .agg parts => uptoBulkAll parts + 1
  | .iface _ d => uptoBulk d + 1
  | .map entries => uptoBulkEntries entries + 1
  | .held _ => 1
def uptoBulkAll {H : Type} : List (DataW H) → Nat
  | [] => 0
  | d :: r => uptoBulk d + uptoBulkAll r
def uptoBulkEntries {H : Type} : List (Lit × DataW H) → Nat
  | [] => 0
  | x :: r => uptoBulkEntry x + uptoBulkEntries r
def uptoBulkEntry {H : Type} : Lit × DataW H → Nat
  | (.string bytes, d) => bytes.length + uptoBulk d + 1
  | (_, d) => uptoBulk d + 1
 end
def uptoSmall : (H : Type) → List (DataW H) → Bool := fun _ ds => decide (uptoBulkAll ds ≤ 1048576)
def OpenSpec.upto (s : _root_.Go.ChangeSpec) : _root_.Go.OpenSpec := { _root_.Go.OpenSpec.ofChange s with cond := some uptoSmall }

/-- 'estafettelaw03.CachePlays', WHERE WHAT IT READS IS OF BULK AT MOST 1048576: true; the input reads as it did. -/
def cachePlaysUptoRow : OpenClaim := { program := "ytoccnaebckcfmaa", sum := "d51b44fb6110f189c3f8dc9d3069a49a25f564ad55a2f2ec0fe2605cb71fae0c", func := "estafette/estafettelaw03.CachePlays", spec := "cachePlays", unfollowed := true, recurses := true, apart := false, narrowed := true }
def CachePlaysUptoSaid : Prop := cachePlaysUptoRow.holds Try.pinned (OpenSpec.upto cachePlaysSpec)

/-- 'estafettelaw03.CacheBounds', WHERE WHAT IT READS IS OF BULK AT MOST 1048576: true; the input reads as it did. -/
def cacheBoundsUptoRow : OpenClaim := { program := "ytoccnaebckcfmaa", sum := "d51b44fb6110f189c3f8dc9d3069a49a25f564ad55a2f2ec0fe2605cb71fae0c", func := "estafette/estafettelaw03.CacheBounds", spec := "cacheBounds", unfollowed := true, recurses := true, apart := false, narrowed := true }
def CacheBoundsUptoSaid : Prop := cacheBoundsUptoRow.holds Try.pinned (OpenSpec.upto cacheBoundsSpec)

/-- 'estafettelaw03.CacheAborts', WHERE WHAT IT READS IS OF BULK AT MOST 1048576: true; the input reads as it did. -/
def cacheAbortsUptoRow : OpenClaim := { program := "ytoccnaebckcfmaa", sum := "d51b44fb6110f189c3f8dc9d3069a49a25f564ad55a2f2ec0fe2605cb71fae0c", func := "estafette/estafettelaw03.CacheAborts", spec := "cacheAborts", unfollowed := true, recurses := true, apart := false, narrowed := true }
def CacheAbortsUptoSaid : Prop := cacheAbortsUptoRow.holds Try.pinned (OpenSpec.upto cacheAbortsSpec)

/-- 'estafettelaw03.CacheCrashes', WHERE WHAT IT READS IS OF BULK AT MOST 1048576: true; the input reads as it did. -/
def cacheCrashesUptoRow : OpenClaim := { program := "ytoccnaebckcfmaa", sum := "d51b44fb6110f189c3f8dc9d3069a49a25f564ad55a2f2ec0fe2605cb71fae0c", func := "estafette/estafettelaw03.CacheCrashes", spec := "cacheCrashes", inPlace := ["maps.clone"], unfollowed := true, recurses := true, apart := false, narrowed := true }
def CacheCrashesUptoSaid : Prop := cacheCrashesUptoRow.holds Try.pinned (OpenSpec.upto cacheCrashesSpec)

/-- 'estafettelaw03.CacheReads', WHERE WHAT IT READS IS OF BULK AT MOST 1048576: true; the input reads as it did. -/
def cacheReadsUptoRow : OpenClaim := { program := "ytoccnaebckcfmaa", sum := "d51b44fb6110f189c3f8dc9d3069a49a25f564ad55a2f2ec0fe2605cb71fae0c", func := "estafette/estafettelaw03.CacheReads", spec := "cacheReads", unfollowed := true, recurses := true, apart := false, narrowed := true }
def CacheReadsUptoSaid : Prop := cacheReadsUptoRow.holds Try.pinned (OpenSpec.upto cacheReadsSpec)

end Rows
end Go.Proofs.Ytoccnaebckcfmaa
