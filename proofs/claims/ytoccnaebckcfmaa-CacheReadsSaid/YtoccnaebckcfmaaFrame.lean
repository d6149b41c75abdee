/- The calls of layer 3's laws that came in. -/
import Derived.Test.YtoccnaebckcfmaaRows
import Derived.Test.YtoccnaebckcfmaaL3
import Derived.ProofKit
import Derived.OpenShut
import Derived.ShutString
import Derived.ChangeOld
import Derived.Deep.Slices
set_option linter.unusedSimpArgs false
set_option linter.unusedVariables false
set_option maxRecDepth 8000
namespace Go.Proofs.Ytoccnaebckcfmaa
open Go.ChangeShapes Go.WideShapes Go.ChangeAt Go.RowKit

theorem ownK : ownKnob Try.prog.godebug = none := by kernel_rfl
theorem laidK : laidOutB Try.prog = true := by kernel_rfl

section
variable {H : Type} {enc : TypeId × Value → H} {w : World}

theorem spot_none {w : World} {x : Addr} {u : Value} (h : w.cell? x = some u) : x = ⟨x.block, x.off, none⟩ := by
  obtain ⟨b, o, s⟩ := x
  cases s with
  | none => rfl
  | some y =>
    exfalso
    unfold World.cell? at h
    split at h <;> simp at h
theorem spot_of {ad : Addr} {n : Nat} {cs : List Value} (hn : 0 < n) (hc : w.cells? 0 (ad.add 0) n = some cs) : ad = ⟨ad.block, ad.off, none⟩ := by
  obtain ⟨_, hcl, hat⟩ := World.cells?_some hc
  have h0 := hat 0 hn
  have hne : cs[0]? = some cs[0] := List.getElem?_eq_getElem (by omega)
  rw [hne] at h0
  have h1 : w.cell? ad = some cs[0] := by simpa [Addr.add] using h0
  exact spot_none h1

theorem wf64 {z : Int} (hz : (Lit.int .i64 z).wf = true) : -9223372036854775808 ≤ z ∧ z ≤ 9223372036854775807 := by
  simp [Lit.wf, IntKind.min, IntKind.max, IntKind.signed, IntKind.bits] at hz
  exact hz
theorem wf8 {z : Int} (hz : (Lit.int .u8 z).wf = true) : 0 ≤ z ∧ z < 256 := by
  simp [Lit.wf, IntKind.min, IntKind.max, IntKind.signed, IntKind.bits] at hz
  omega

/-- A slice of calls that came in. -/
theorem ops3_open {fuel : Nat} {a : Option Addr} {len cap : Nat} {x : DataW H × List MemPlace} (h : DataW.trod enc Try.prog w 0 (fun _ => true) true fuel 22 (Value.slice a len cap).cells.toList = some x) :
    ∃ K A M B, Ops3 w a len K A M B := by
  have hc32 : Try.prog.cellsOf 32 = 4 := by kernel_rfl
  rcases Go.Deep.open_slice Try.underlying22 h with ⟨hcs, _⟩ | ⟨ad, l, c, m, n, D, Pl, hcs, hb, hl, hm, hmm, hx, hi⟩
  · simp [Value.cells] at hcs
    obtain ⟨rfl, rfl, rfl⟩ := hcs
    exact ⟨fun _ => 0, fun _ => 0, fun _ => 0, fun _ => 0, ⟨by omega, fun i hi => by omega, fun i hi => by omega, fun i hi => by omega, fun i hi => by omega, fun i hi => by omega⟩⟩
  · simp [Value.cells] at hcs
    obtain ⟨rfl, rfl, rfl⟩ := hcs
    simp at hmm
    subst hmm
    have key : ∀ i, ∃ t : Int × Int × Int × Int, i < len → ad = ⟨ad.block, ad.off, none⟩ ∧ w.cell? ⟨ad.block, ad.off + i * 4, none⟩ = some (.int .i64 t.1) ∧ w.cell? ⟨ad.block, ad.off + i * 4 + 1, none⟩ = some (.int .i64 t.2.1) ∧ w.cell? ⟨ad.block, ad.off + i * 4 + 2, none⟩ = some (.int .i64 t.2.2.1) ∧ w.cell? ⟨ad.block, ad.off + i * 4 + 3, none⟩ = some (.int .u8 t.2.2.2) ∧
        (Lit.int .i64 t.1).wf = true ∧ (Lit.int .i64 t.2.1).wf = true ∧ (Lit.int .i64 t.2.2.1).wf = true ∧ (Lit.int .u8 t.2.2.2).wf = true := by
      intro i
      by_cases hil : i < len
      · have sp : ad = ⟨ad.block, ad.off, none⟩ := by
          obtain ⟨cs', hc, ht⟩ := hi 0 (by omega)
          rw [hc32, Nat.zero_mul] at hc
          exact spot_of (by omega) hc
        obtain ⟨cs', hc, ht⟩ := hi i (by omega)
        rw [hc32] at hc
        obtain ⟨_, hcl, hat⟩ := World.cells?_some hc
        obtain ⟨xs, n', _, hD, _, hxl, hf⟩ := DataW.trod_struct Try.underlying32 ht
        have cell : ∀ j, j < 4 → w.cell? ⟨ad.block, ad.off + i * 4 + j, none⟩ = cs'[j]? := fun j hj => by
          have := hat j hj
          rw [sp, Addr.add_mid, Addr.add_mid] at this
          exact this
        have hf0 := hf 0 _ rfl
        have hf1 := hf 1 _ rfl
        have hf2 := hf 2 _ rfl
        have hf3 := hf 3 _ rfl
        obtain ⟨y0, hy0⟩ : ∃ y, xs[0]? = some y := ⟨_, List.getElem?_eq_getElem (by rw [hxl]; decide)⟩
        obtain ⟨y1, hy1⟩ : ∃ y, xs[1]? = some y := ⟨_, List.getElem?_eq_getElem (by rw [hxl]; decide)⟩
        obtain ⟨y2, hy2⟩ : ∃ y, xs[2]? = some y := ⟨_, List.getElem?_eq_getElem (by rw [hxl]; decide)⟩
        obtain ⟨y3, hy3⟩ : ∃ y, xs[3]? = some y := ⟨_, List.getElem?_eq_getElem (by rw [hxl]; decide)⟩
        rw [hy0] at hf0
        rw [hy1] at hf1
        rw [hy2] at hf2
        rw [hy3] at hf3
        obtain ⟨n0, hn0, _, hw0⟩ := DataW.trod_int Try.underlying3 hf0
        obtain ⟨n1, hn1, _, hw1⟩ := DataW.trod_int Try.underlying3 hf1
        obtain ⟨n2, hn2, _, hw2⟩ := DataW.trod_int Try.underlying3 hf2
        obtain ⟨n3, hn3, _, hw3⟩ := DataW.trod_int Try.underlying5 hf3
        have hc3 : Try.prog.cellsOf 3 = 1 := by kernel_rfl
        have hc5 : Try.prog.cellsOf 5 = 1 := by kernel_rfl
        refine ⟨(n0, n1, n2, n3), fun _ => ⟨sp, ?_, ?_, ?_, ?_, hw0, hw1, hw2, hw3⟩⟩
        · have h2 := cell 0 (by omega)
          rw [Nat.add_zero] at h2
          rw [h2]
          have := congrArg (·[0]?) hn0
          simpa [hc3] using this
        · rw [cell 1 (by omega)]
          have := congrArg (·[0]?) hn1
          simpa [hc3] using this
        · rw [cell 2 (by omega)]
          have := congrArg (·[0]?) hn2
          simpa [hc3] using this
        · rw [cell 3 (by omega)]
          have := congrArg (·[0]?) hn3
          simpa [hc5] using this
      · exact ⟨(0, 0, 0, 0), fun h => absurd h hil⟩
    obtain ⟨f, hf⟩ := Classical.axiomOfChoice key
    refine ⟨fun i => (f i).1, fun i => (f i).2.1, fun i => (f i).2.2.1, fun i => (f i).2.2.2, ⟨by unfold maxLen at hm; omega, fun i hil => ?_, fun i hil => wf64 (hf i hil).2.2.2.2.2.1, fun i hil => wf64 (hf i hil).2.2.2.2.2.2.1, fun i hil => wf64 (hf i hil).2.2.2.2.2.2.2.1, fun i hil => wf8 (hf i hil).2.2.2.2.2.2.2.2⟩⟩
    obtain ⟨sp, g0, g1, g2, g3, _⟩ := hf i hil
    exact ⟨ad.block, ad.off, congrArg some sp, World.block_lt_of_cell? w ⟨ad.block, ad.off + i * 4, none⟩ g0, g0, g1, g2, g3⟩
end
end Go.Proofs.Ytoccnaebckcfmaa
