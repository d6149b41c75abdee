/- The calls of WalCrashes that came in. -/
import Derived.Test.YtfkpehefofihmaaV2
import Derived.Deep.Slices
set_option linter.unusedSimpArgs false
set_option linter.unusedVariables false
set_option maxRecDepth 8000
namespace Go.Proofs.Ytfkpehefofihmaa
open Go.ChangeShapes Go.WideShapes Go.ChangeAt Go.RowKit

section
variable {H : Type} {enc : TypeId × Value → H} {w : World}
/-- A slice of puts that came in. -/
theorem puts_openB {fuel : Nat} {cs : List Value} {x : DataW H × List MemPlace} (h : DataW.trod enc Try.prog w 0 (fun _ => true) true fuel 32 cs = some x) : ∃ lv rs vs, cs = [lv] ∧ PutsIn w lv rs vs ∧ ∀ j r, rs[j]? = some r → r.2 = 64 → IsB (vs j) := by
  have hc54 : Try.prog.cellsOf 54 = 2 := by kernel_rfl
  rcases Go.Deep.open_slice Try.underlying32 h with ⟨hcs, _⟩ | ⟨ad, l, c, m, n, D, Pl, hcs, hb, hl, hm, hmm, hx, hi⟩
  · exact ⟨_, [], fun _ => #[], hcs, ⟨⟨none, 0, rfl, by simp⟩, by simp⟩, by simp⟩
  · simp at hmm
    subst hmm
    have key : ∀ i, ∃ t : Int × Option Addr × Nat × Nat × (Nat → Int), i < l → ad = ⟨ad.block, ad.off, none⟩ ∧ t.1 ≤ 9223372036854775807 ∧ w.cell? ⟨ad.block, ad.off + i * 2, none⟩ = some (.int .i64 t.1) ∧ w.cell? ⟨ad.block, ad.off + i * 2 + 1, none⟩ = some (.slice t.2.1 t.2.2.1 t.2.2.2.1) ∧ BytesIn w t.2.1 t.2.2.1 t.2.2.2.2 := by
      intro i
      by_cases hil : i < l
      · have sp : ad = ⟨ad.block, ad.off, none⟩ := by
          obtain ⟨cs', hc, ht⟩ := hi 0 (by omega)
          rw [hc54, Nat.zero_mul] at hc
          exact spot_of (by omega) hc
        obtain ⟨cs', hc, ht⟩ := hi i (by omega)
        rw [hc54] at hc
        obtain ⟨_, hcl, hat⟩ := World.cells?_some hc
        obtain ⟨xs, n', _, hD, _, hxl, hf⟩ := DataW.trod_struct Try.underlying54 ht
        have cell : ∀ j, j < 2 → w.cell? ⟨ad.block, ad.off + i * 2 + j, none⟩ = cs'[j]? := fun j hj => by
          have := hat j hj
          rw [sp, Addr.add_mid, Addr.add_mid] at this
          exact this
        have hf0 := hf 0 _ rfl
        have hf1 := hf 1 _ rfl
        obtain ⟨y0, hy0⟩ : ∃ y, xs[0]? = some y := ⟨_, List.getElem?_eq_getElem (by rw [hxl]; decide)⟩
        obtain ⟨y1, hy1⟩ : ∃ y, xs[1]? = some y := ⟨_, List.getElem?_eq_getElem (by rw [hxl]; decide)⟩
        rw [hy0] at hf0
        rw [hy1] at hf1
        obtain ⟨n0, hn0, _, hw0⟩ := DataW.trod_int Try.underlying3 hf0
        obtain ⟨a1, len1, cap1, z1, hb1, hbi⟩ := bytes_open hf1
        have hc3 : Try.prog.cellsOf 3 = 1 := by kernel_rfl
        have hc51 : Try.prog.cellsOf 51 = 1 := by kernel_rfl
        refine ⟨(n0, a1, len1, cap1, z1), fun _ => ⟨sp, ?_, ?_, ?_, hbi⟩⟩
        · simp [Lit.wf, IntKind.min, IntKind.max, IntKind.signed, IntKind.bits] at hw0
          omega
        · have h2 := cell 0 (by omega)
          rw [Nat.add_zero] at h2
          rw [h2]
          have := congrArg (·[0]?) hn0
          simpa [hc3] using this
        · rw [cell 1 (by omega)]
          have := congrArg (·[0]?) hb1
          simpa [hc51] using this
      · exact ⟨(0, none, 0, 0, fun _ => 0), fun h => absurd h hil⟩
    obtain ⟨f, hf⟩ := Classical.axiomOfChoice key
    refine ⟨_, (List.range l).map (fun i => ((f i).1, (f i).2.2.1)), fun i => sec ((List.range 64).map (f i).2.2.2.2), hcs, ⟨⟨some ad, m, by simp, fun i r hr => ?_⟩, fun i r hr h64 => ?_⟩, fun i r hr h64 => ?_⟩
    · have hil : i < l := by have := (List.getElem?_eq_some_iff.1 hr).1; simpa using this
      simp [hil] at hr
      subst hr
      obtain ⟨sp, b1, c0, c1, hbi⟩ := hf i hil
      exact ⟨b1, ad.block, ad.off, _, _, congrArg some sp, World.block_lt_of_cell? w ⟨ad.block, ad.off + i * 2, none⟩ c0, c0, c1⟩
    · have hil : i < l := by have := (List.getElem?_eq_some_iff.1 hr).1; simpa using this
      simp [hil] at hr
      subst hr
      obtain ⟨sp, b1, c0, c1, hbi⟩ := hf i hil
      simp only at h64
      rw [h64] at c1 hbi
      obtain ⟨_, _, g', o', ha', hg', _⟩ := hbi.2 0 (by omega)
      refine ⟨sec_ok (by simp), ad.block, ad.off, g', o', (f i).2.2.2.1, ⟨l, m, by rw [← sp]⟩, by rw [← ha']; exact c1, hg', fun j u hu => ?_⟩
      have hj : j < 64 := by have := (List.getElem?_eq_some_iff.1 hu).1; simpa [sec] using this
      obtain ⟨_, _, g2, o2, ha2, _, hc2⟩ := hbi.2 j hj
      rw [ha'] at ha2
      simp at ha2
      obtain ⟨rfl, rfl⟩ := ha2
      rw [hc2]
      simp [sec, hj] at hu
      rw [← hu]
    · have hil : i < l := by have := (List.getElem?_eq_some_iff.1 hr).1; simpa using this
      simp [hil] at hr
      subst hr
      obtain ⟨sp, b1, c0, c1, hbi⟩ := hf i hil
      simp only at h64
      rw [h64] at hbi
      refine ⟨(List.range 64).map (f i).2.2.2.2, by simp, fun x hx => ?_, rfl⟩
      obtain ⟨y, hy, rfl⟩ := List.mem_map.1 hx
      obtain ⟨z0, z1, _⟩ := hbi.2 y (List.mem_range.1 hy)
      exact ⟨z0, z1⟩

/-- A slice of calls that came in. -/
theorem ops_open {fuel : Nat} {a : Option Addr} {len cap : Nat} {x : DataW H × List MemPlace} (h : DataW.trod enc Try.prog w 0 (fun _ => true) true fuel 22 (Value.slice a len cap).cells.toList = some x) :
    ∃ K N lv kv rs vs keep, OpsIn w a len K N lv kv rs vs keep := by
  have hc35 : Try.prog.cellsOf 35 = 4 := by kernel_rfl
  rcases Go.Deep.open_slice Try.underlying22 h with ⟨hcs, _⟩ | ⟨ad, l, c, m, n, D, Pl, hcs, hb, hl, hm, hmm, hx, hi⟩
  · simp [Value.cells] at hcs
    obtain ⟨rfl, rfl, rfl⟩ := hcs
    exact ⟨fun _ => 0, fun _ => 0, fun _ => .slice none 0 0, fun _ => .slice none 0 0, fun _ => [], fun _ _ => #[], fun _ => [], ⟨by omega, fun i hi => by omega, fun i hi => by omega, fun i hi => by omega, fun i hi => by omega, fun i hi => by omega⟩⟩
  · simp [Value.cells] at hcs
    obtain ⟨rfl, rfl, rfl⟩ := hcs
    simp at hmm
    subst hmm
    have key : ∀ i, ∃ t : Int × Int × Value × Value × List (Int × Nat) × (Nat → Array Value) × List Int, i < len → ad = ⟨ad.block, ad.off, none⟩ ∧ w.cell? ⟨ad.block, ad.off + i * 4, none⟩ = some (.int .i64 t.1) ∧ w.cell? ⟨ad.block, ad.off + i * 4 + 1, none⟩ = some (.int .i64 t.2.1) ∧ w.cell? ⟨ad.block, ad.off + i * 4 + 2, none⟩ = some t.2.2.1 ∧ w.cell? ⟨ad.block, ad.off + i * 4 + 3, none⟩ = some t.2.2.2.1 ∧
        (Lit.int .i64 t.1).wf = true ∧ (Lit.int .i64 t.2.1).wf = true ∧ PutsIn w t.2.2.1 t.2.2.2.2.1 t.2.2.2.2.2.1 ∧ (∀ j r, t.2.2.2.2.1[j]? = some r → r.2 = 64 → IsB (t.2.2.2.2.2.1 j)) ∧ ∀ F : List Nat, (∀ y ∈ F, w.heap.size ≤ y) → KeepAt w F t.2.2.2.1 t.2.2.2.2.2.2 := by
      intro i
      by_cases hil : i < len
      · have sp : ad = ⟨ad.block, ad.off, none⟩ := by
          obtain ⟨cs', hc, ht⟩ := hi 0 (by omega)
          rw [hc35, Nat.zero_mul] at hc
          exact spot_of (by omega) hc
        obtain ⟨cs', hc, ht⟩ := hi i (by omega)
        rw [hc35] at hc
        obtain ⟨_, hcl, hat⟩ := World.cells?_some hc
        obtain ⟨xs, n', _, hD, _, hxl, hf⟩ := DataW.trod_struct Try.underlying35 ht
        have cell : ∀ j, j < 4 → w.cell? ⟨ad.block, ad.off + i * 4 + j, none⟩ = cs'[j]? := fun j hj => by
          have := hat j hj
          rw [sp, Addr.add_mid, Addr.add_mid] at this
          exact this
        have hf0 := hf 0 _ rfl
        have hf1 := hf 1 _ rfl
        have hf2 := hf 2 _ rfl
        have hf3 := hf 3 _ rfl
        obtain ⟨y0, hy0⟩ : ∃ y, xs[0]? = some y := ⟨_, List.getElem?_eq_getElem (by rw [hxl]; decide)⟩
        obtain ⟨y1, hy1⟩ : ∃ y, xs[1]? = some y := ⟨_, List.getElem?_eq_getElem (by rw [hxl]; decide)⟩
        obtain ⟨y2, hy2⟩ : ∃ y, xs[2]? = some y := ⟨_, List.getElem?_eq_getElem (by rw [hxl]; decide)⟩
        obtain ⟨y3, hy3⟩ : ∃ y, xs[3]? = some y := ⟨_, List.getElem?_eq_getElem (by rw [hxl]; decide)⟩
        rw [hy0] at hf0
        rw [hy1] at hf1
        rw [hy2] at hf2
        rw [hy3] at hf3
        obtain ⟨n0, hn0, _, hw0⟩ := DataW.trod_int Try.underlying3 hf0
        obtain ⟨n1, hn1, _, hw1⟩ := DataW.trod_int Try.underlying3 hf1
        obtain ⟨lv, rs, vs, hlv, hpi, hbi⟩ := puts_openB hf2
        obtain ⟨kv, keep, hkv, hk⟩ := ints_open hf3
        have hc3 : Try.prog.cellsOf 3 = 1 := by kernel_rfl
        have hc32 : Try.prog.cellsOf 32 = 1 := by kernel_rfl
        have hc33 : Try.prog.cellsOf 33 = 1 := by kernel_rfl
        refine ⟨(n0, n1, lv, kv, rs, vs, keep), fun _ => ⟨sp, ?_, ?_, ?_, ?_, hw0, hw1, hpi, hbi, hk⟩⟩
        · have h2 := cell 0 (by omega)
          rw [Nat.add_zero] at h2
          rw [h2]
          have := congrArg (·[0]?) hn0
          simpa [hc3] using this
        · rw [cell 1 (by omega)]
          have := congrArg (·[0]?) hn1
          simpa [hc3] using this
        · rw [cell 2 (by omega)]
          have := congrArg (·[0]?) hlv
          simpa [hc32] using this
        · rw [cell 3 (by omega)]
          have := congrArg (·[0]?) hkv
          simpa [hc33] using this
      · exact ⟨(0, 0, .slice none 0 0, .slice none 0 0, [], fun _ => #[], []), fun h => absurd h hil⟩
    obtain ⟨f, hf⟩ := Classical.axiomOfChoice key
    have wf64 : ∀ z : Int, (Lit.int .i64 z).wf = true → -9223372036854775808 ≤ z ∧ z ≤ 9223372036854775807 := fun z hz => by
      simp [Lit.wf, IntKind.min, IntKind.max, IntKind.signed, IntKind.bits] at hz
      exact hz
    refine ⟨fun i => (f i).1, fun i => (f i).2.1, fun i => (f i).2.2.1, fun i => (f i).2.2.2.1, fun i => (f i).2.2.2.2.1, fun i => (f i).2.2.2.2.2.1, fun i => (f i).2.2.2.2.2.2, ⟨by unfold maxLen at hm; omega, fun i hil => ?_, fun i hil => ?_, fun i hil => ?_, fun i hil => ?_, fun i hil => ?_⟩⟩
    · obtain ⟨sp, g0, g1, g2, g3, _⟩ := hf i hil
      exact ⟨ad.block, ad.off, congrArg some sp, World.block_lt_of_cell? w ⟨ad.block, ad.off + i * 4, none⟩ g0, g0, g1, g2, g3⟩
    · obtain ⟨_, _, _, _, _, w0, _⟩ := hf i hil
      exact wf64 _ w0
    · obtain ⟨_, _, _, _, _, _, w1, _⟩ := hf i hil
      exact wf64 _ w1
    · obtain ⟨_, _, _, _, _, _, _, p1, p2, _⟩ := hf i hil
      exact ⟨p1, p2⟩
    · obtain ⟨_, _, _, _, _, _, _, _, _, k1⟩ := hf i hil
      exact k1
end
end Go.Proofs.Ytfkpehefofihmaa
