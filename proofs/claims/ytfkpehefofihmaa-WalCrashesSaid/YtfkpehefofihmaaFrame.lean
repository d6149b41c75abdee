/- Arguments that are slices of bytes, of ints, of puts, and slices of such, as the laws read them. -/
import Derived.Test.YtfkpehefofihmaaRows
import Derived.Test.YtfkpehefofihmaaW18
import Derived.ProofKit
import Derived.OpenShut
import Derived.ShutString
import Derived.ChangeOld
import Derived.Deep.Slices
set_option linter.unusedSimpArgs false
set_option linter.unusedVariables false
set_option maxRecDepth 8000
namespace Go.Proofs.Ytfkpehefofihmaa
open Go.ChangeShapes Go.WideShapes Go.ChangeAt Go.RowKit

theorem ownK : ownKnob Try.prog.godebug = none := by kernel_rfl
theorem laidK : laidOutB Try.prog = true := by kernel_rfl

/-- Bytes that came in. -/
def BytesIn (w : World) (a : Option Addr) (len : Nat) (z : Nat → Int) : Prop := len ≤ 9223372036854775807 ∧ ∀ i, i < len → 0 ≤ z i ∧ z i < 256 ∧ ∃ g o, a = some ⟨g, o, none⟩ ∧ g < w.heap.size ∧ w.cell? ⟨g, o + i, none⟩ = some (.int .u8 (z i))

/-- Puts that came in: the bytes of those that have 64 of them. -/
structure PutsIn (w : World) (lv : Value) (rs : List (Int × Nat)) (vs : Nat → Array Value) : Prop where
  raws : RawsAt w lv rs
  bytes : ∀ i r, rs[i]? = some r → r.2 = 64 → SecOk (vs i) ∧ ∃ g o g' o' cap', (∃ n cap, lv = .slice (some ⟨g, o, none⟩) n cap) ∧ w.cell? ⟨g, o + i * 2 + 1, none⟩ = some (.slice (some ⟨g', o', none⟩) 64 cap') ∧ g' < w.heap.size ∧ w.rangeAt g' o' (vs i).toList

section
variable {H : Type} {enc : TypeId × Value → H} {w : World}

theorem spot_none {w : World} {x : Addr} {u : Value} (h : w.cell? x = some u) : x = ⟨x.block, x.off, none⟩ := by
  obtain ⟨b, o, s⟩ := x
  cases s with
  | none => rfl
  | some y =>
    exfalso
    unfold World.cell? at h
    split at h <;> simp at h

theorem bytes_open {fuel : Nat} {cs : List Value} {x : DataW H × List MemPlace} (h : DataW.trod enc Try.prog w 0 (fun _ => true) true fuel 51 cs = some x) :
    ∃ a len cap z, cs = [.slice a len cap] ∧ BytesIn w a len z := by
  rcases open_ints Try.underlying51 Try.underlying5 (by kernel_rfl) h with ⟨hcs, _⟩ | ⟨y, l, c, zs, hcs, _, hl, hm, hz, _, hcell, hwz⟩
  · exact ⟨none, 0, 0, fun _ => 0, hcs, by omega, fun i hi => by omega⟩
  · refine ⟨some y, l, c, fun i => zs.getD i 0, hcs, by unfold maxLen at hm; omega, fun i hi => ?_⟩
    simp at hz
    have h0 := hcell 0 (by omega)
    rw [show y.add 0 = y by simp [Addr.add]] at h0
    have hy := spot_none h0
    have hi' := hcell i (by omega)
    have hw : (Lit.int .u8 (zs.getD i 0)).wf = true := by
      have hil : i < zs.length := by omega
      have e : zs.getD i 0 = zs[i] := by rw [List.getD_eq_getElem?_getD, List.getElem?_eq_getElem hil]; rfl
      rw [e]
      exact hwz _ (List.getElem_mem hil)
    simp [Lit.wf, IntKind.min, IntKind.max, IntKind.signed, IntKind.bits] at hw
    refine ⟨by simpa using hw.1, by have := hw.2; simp; omega, y.block, y.off, congrArg some hy, World.block_lt_of_cell? w y h0, ?_⟩
    rw [hy, Addr.add_mid] at hi'
    exact hi'

theorem ints_open {fuel : Nat} {cs : List Value} {x : DataW H × List MemPlace} (h : DataW.trod enc Try.prog w 0 (fun _ => true) true fuel 33 cs = some x) :
    ∃ kv keep, cs = [kv] ∧ ∀ F : List Nat, (∀ y ∈ F, w.heap.size ≤ y) → KeepAt w F kv keep := by
  rcases open_ints Try.underlying33 Try.underlying3 (by kernel_rfl) h with ⟨hcs, _⟩ | ⟨y, len, cap, zs, hcs, _, hl, hm, hz, _, hcell, hwz⟩
  · exact ⟨_, [], hcs, fun F _ => ⟨none, 0, rfl, by simp, fun hne => absurd rfl hne⟩⟩
  · simp at hz
    have hlen : (zs.take len).length = len := by simp; omega
    refine ⟨_, zs.take len, hcs, fun F hF => ⟨some y, cap, by rw [hlen], by rw [hlen]; unfold maxLen at hm; omega, fun hne => ?_⟩⟩
    have hpos : 0 < len := by
      cases len with
      | zero => simp at hne
      | succ n => omega
    have h0 := hcell 0 (by omega)
    rw [show y.add 0 = y by simp [Addr.add]] at h0
    have hy := spot_none h0
    have hlt := World.block_lt_of_cell? w y h0
    refine ⟨y.block, y.off, congrArg some hy, hlt, fun hx => by have := hF _ hx; omega, fun j z hz' => ?_⟩
    have hj : j < len := by have := (List.getElem?_eq_some_iff.1 hz').1; omega
    have hc := hcell j (by omega)
    rw [hy, Addr.add_mid] at hc
    rw [hc]
    rw [List.getElem?_take_of_lt hj] at hz'
    rw [List.getD_eq_getElem?_getD, hz']
    rfl

theorem spot_of {ad : Addr} {n : Nat} {cs : List Value} (hn : 0 < n) (hc : w.cells? 0 (ad.add 0) n = some cs) : ad = ⟨ad.block, ad.off, none⟩ := by
  obtain ⟨_, hcl, hat⟩ := World.cells?_some hc
  have h0 := hat 0 hn
  have hne : cs[0]? = some cs[0] := List.getElem?_eq_getElem (by omega)
  rw [hne] at h0
  have h1 : w.cell? ad = some cs[0] := by simpa [Addr.add] using h0
  exact spot_none h1

/-- A slice whose elements are single cells. -/
theorem outer_open {T E fuel : Nat} {cs : List Value} {x : DataW H × List MemPlace} (hT : Try.prog.underlying T = some (.slice E)) (hE : Try.prog.cellsOf E = 1) (h : DataW.trod enc Try.prog w 0 (fun _ => true) true fuel T cs = some x) :
    ∃ a len cap, cs = [.slice a len cap] ∧ len ≤ 9223372036854775807 ∧ ∀ i, i < len → ∃ g o v n y, a = some ⟨g, o, none⟩ ∧ g < w.heap.size ∧ w.cell? ⟨g, o + i, none⟩ = some v ∧ DataW.trod enc Try.prog w 0 (fun _ => true) true n E [v] = some y := by
  rcases Go.Deep.open_slice hT h with ⟨hcs, _⟩ | ⟨ad, l, c, m, n, D, Pl, hcs, hb, hl, hm, hmm, hx, hi⟩
  · exact ⟨none, 0, 0, hcs, by omega, fun i hi => by omega⟩
  · refine ⟨some ad, l, c, hcs, by unfold maxLen at hm; omega, fun i hil => ?_⟩
    simp at hmm
    subst hmm
    have sp : ad = ⟨ad.block, ad.off, none⟩ := by
      obtain ⟨cs', hc, ht⟩ := hi 0 (by omega)
      rw [hE, Nat.zero_mul] at hc
      exact spot_of (by omega) hc
    obtain ⟨cs', hc, ht⟩ := hi i (by omega)
    rw [hE] at hc
    obtain ⟨_, hcl, hat⟩ := World.cells?_some hc
    have h0 := hat 0 (by omega)
    obtain ⟨v, hv⟩ : ∃ v, cs' = [v] := by
      match cs', hcl with
      | [v], _ => exact ⟨v, rfl⟩
    subst hv
    rw [sp, Addr.add_mid, Addr.add_mid] at h0
    simp at h0
    exact ⟨ad.block, ad.off, v, _, _, congrArg some sp, World.block_lt_of_cell? w ⟨ad.block, ad.off + i, none⟩ h0, h0, ht⟩

/-- A slice of puts that came in. -/
theorem puts_open {fuel : Nat} {cs : List Value} {x : DataW H × List MemPlace} (h : DataW.trod enc Try.prog w 0 (fun _ => true) true fuel 32 cs = some x) : ∃ lv rs vs, cs = [lv] ∧ PutsIn w lv rs vs := by
  have hc54 : Try.prog.cellsOf 54 = 2 := by kernel_rfl
  rcases Go.Deep.open_slice Try.underlying32 h with ⟨hcs, _⟩ | ⟨ad, l, c, m, n, D, Pl, hcs, hb, hl, hm, hmm, hx, hi⟩
  · exact ⟨_, [], fun _ => #[], hcs, ⟨⟨none, 0, rfl, by simp⟩, by simp⟩⟩
  · simp at hmm
    subst hmm
    have key : ∀ i, ∃ t : Int × Option Addr × Nat × Nat × (Nat → Int), i < l → ad = ⟨ad.block, ad.off, none⟩ ∧ t.1 ≤ 9223372036854775807 ∧ w.cell? ⟨ad.block, ad.off + i * 2, none⟩ = some (.int .i64 t.1) ∧ w.cell? ⟨ad.block, ad.off + i * 2 + 1, none⟩ = some (.slice t.2.1 t.2.2.1 t.2.2.2.1) ∧ BytesIn w t.2.1 t.2.2.1 t.2.2.2.2 := by
      intro i
      by_cases hil : i < l
      · have sp : ad = ⟨ad.block, ad.off, none⟩ := by
          obtain ⟨cs', hc, ht⟩ := hi 0 (by omega)
          rw [hc54, Nat.zero_mul] at hc
          exact spot_of (by omega) hc
        obtain ⟨cs', hc, ht⟩ := hi i (by omega)
        rw [hc54] at hc
        obtain ⟨_, hcl, hat⟩ := World.cells?_some hc
        obtain ⟨xs, n', _, hD, _, hxl, hf⟩ := DataW.trod_struct Try.underlying54 ht
        have cell : ∀ j, j < 2 → w.cell? ⟨ad.block, ad.off + i * 2 + j, none⟩ = cs'[j]? := fun j hj => by
          have := hat j hj
          rw [sp, Addr.add_mid, Addr.add_mid] at this
          exact this
        have hf0 := hf 0 _ rfl
        have hf1 := hf 1 _ rfl
        obtain ⟨y0, hy0⟩ : ∃ y, xs[0]? = some y := ⟨_, List.getElem?_eq_getElem (by rw [hxl]; decide)⟩
        obtain ⟨y1, hy1⟩ : ∃ y, xs[1]? = some y := ⟨_, List.getElem?_eq_getElem (by rw [hxl]; decide)⟩
        rw [hy0] at hf0
        rw [hy1] at hf1
        obtain ⟨n0, hn0, _, hw0⟩ := DataW.trod_int Try.underlying3 hf0
        obtain ⟨a1, len1, cap1, z1, hb1, hbi⟩ := bytes_open hf1
        have hc3 : Try.prog.cellsOf 3 = 1 := by kernel_rfl
        have hc51 : Try.prog.cellsOf 51 = 1 := by kernel_rfl
        refine ⟨(n0, a1, len1, cap1, z1), fun _ => ⟨sp, ?_, ?_, ?_, hbi⟩⟩
        · simp [Lit.wf, IntKind.min, IntKind.max, IntKind.signed, IntKind.bits] at hw0
          omega
        · have h2 := cell 0 (by omega)
          rw [Nat.add_zero] at h2
          rw [h2]
          have := congrArg (·[0]?) hn0
          simpa [hc3] using this
        · rw [cell 1 (by omega)]
          have := congrArg (·[0]?) hb1
          simpa [hc51] using this
      · exact ⟨(0, none, 0, 0, fun _ => 0), fun h => absurd h hil⟩
    obtain ⟨f, hf⟩ := Classical.axiomOfChoice key
    refine ⟨_, (List.range l).map (fun i => ((f i).1, (f i).2.2.1)), fun i => sec ((List.range 64).map (f i).2.2.2.2), hcs, ⟨⟨some ad, m, by simp, fun i r hr => ?_⟩, fun i r hr h64 => ?_⟩⟩
    · have hil : i < l := by have := (List.getElem?_eq_some_iff.1 hr).1; simpa using this
      simp [hil] at hr
      subst hr
      obtain ⟨sp, b1, c0, c1, hbi⟩ := hf i hil
      exact ⟨b1, ad.block, ad.off, _, _, congrArg some sp, World.block_lt_of_cell? w ⟨ad.block, ad.off + i * 2, none⟩ c0, c0, c1⟩
    · have hil : i < l := by have := (List.getElem?_eq_some_iff.1 hr).1; simpa using this
      simp [hil] at hr
      subst hr
      obtain ⟨sp, b1, c0, c1, hbi⟩ := hf i hil
      simp only at h64
      rw [h64] at c1 hbi
      obtain ⟨_, _, g', o', ha', hg', _⟩ := hbi.2 0 (by omega)
      refine ⟨sec_ok (by simp), ad.block, ad.off, g', o', (f i).2.2.2.1, ⟨l, m, by rw [← sp]⟩, by rw [← ha']; exact c1, hg', fun j u hu => ?_⟩
      have hj : j < 64 := by have := (List.getElem?_eq_some_iff.1 hu).1; simpa [sec] using this
      obtain ⟨_, _, g2, o2, ha2, _, hc2⟩ := hbi.2 j hj
      rw [ha'] at ha2
      simp at ha2
      obtain ⟨rfl, rfl⟩ := ha2
      rw [hc2]
      simp [sec, hj] at hu
      rw [← hu]
end
end Go.Proofs.Ytfkpehefofihmaa
