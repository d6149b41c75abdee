/- Arguments that are slices: of addresses, of texts, of numbers. -/
import Derived.Test.YtgdcdknmijeioaaDoorFr
import Derived.Test.YtgdcdknmijeioaaDoorL4
import Derived.Test.YtgdcdknmijeioaaDoorL6a
import Derived.Deep.Slices
import Derived.SliceStrings
set_option linter.unusedSimpArgs false
set_option linter.unusedVariables false
namespace Go.Proofs.YtgdcdknmijeioaaDoor
open Go.ChangeShapes Go.WideShapes Go.ChangeAt Go.RowKit

section
variable {H : Type} {enc : TypeId × Value → H} {w : World} {d : DataW H} {p : List MemPlace} {v : Value} {r : Reach} {b0 : Nat}
theorem add_off (b o j : Nat) : (⟨b, o, none⟩ : Addr).add j = ⟨b, o + j, none⟩ := by unfold Addr.add; split <;> simp_all
theorem spot_cell {x : Addr} {u : Value} (h : w.cell? x = some u) : x = ⟨x.block, x.off, none⟩ := by
  obtain ⟨b, o, s⟩ := x
  cases s with
  | none => rfl
  | some y =>
    exfalso
    unfold World.cell? at h
    split at h <;> simp at h
theorem block_lt {x : Addr} {u : Value} (h : w.cell? x = some u) : x.block < w.heap.size := World.block_lt_of_cell? w _ h
theorem addrs_open (hv : Value.okWide Tryd.prog w r b0 31 v) (h : DataW.Trod enc Tryd.prog w 0 (fun _ => true) true 31 v d p) :
    ∃ a n c, v = .slice a n c ∧ ∃ es : List (ByteArray × ByteArray × ByteArray), es.length = n ∧ n ≤ 9223372036854775807 ∧ ElsAt w a es := by
  obtain ⟨a, n, c, rfl⟩ := okWide_slice Tryd.underlying31 hv
  obtain ⟨fuel, hf⟩ := h
  refine ⟨a, n, c, rfl, ?_⟩
  rcases Go.Deep.open_slice Tryd.underlying31 hf with ⟨hcs, _⟩ | ⟨ad, l, c', m, k, D, Pl, hcs, hb, hl, hm, hmm, hx, hi⟩
  · simp [Value.cells] at hcs
    obtain ⟨rfl, rfl, rfl⟩ := hcs
    exact ⟨[], rfl, by omega, fun j e hj => by simp at hj⟩
  · simp [Value.cells] at hcs
    obtain ⟨rfl, rfl, rfl⟩ := hcs
    simp at hmm
    subst hmm
    have key : ∀ i, ∃ t : ByteArray × ByteArray × ByteArray, i < n → ∃ b off, some ad = some (⟨b, off, none⟩ : Addr) ∧ b < w.heap.size ∧ w.cell? ⟨b, off + i * 3, none⟩ = some (.string t.1) ∧ w.cell? ⟨b, off + i * 3 + 1, none⟩ = some (.string t.2.1) ∧ w.cell? ⟨b, off + i * 3 + 2, none⟩ = some (.string t.2.2) ∧ t.2.1.size ≤ 9223372036854775807 ∧ t.2.2.size ≤ 9223372036854775807 := by
      intro i
      by_cases hin : i < n
      · obtain ⟨cs', hc, ht⟩ := hi i (by omega)
        rw [cells23] at hc
        obtain ⟨_, hcl, hat⟩ := World.cells?_some hc
        obtain ⟨c0, c1, c2, rfl⟩ : ∃ c0 c1 c2, cs' = [c0, c1, c2] := by
          match cs', hcl with
          | [c0, c1, c2], _ => exact ⟨c0, c1, c2, rfl⟩
        obtain ⟨x0, x1, x2, rfl, rfl, rfl, s0, s1, s2⟩ := addr_cells ht
        have h0 := hat 0 (by omega)
        have h1 := hat 1 (by omega)
        have h2 := hat 2 (by omega)
        have hsp : ad = ⟨ad.block, ad.off, none⟩ := by
          obtain ⟨cz, hcz, _⟩ := hi 0 (by omega)
          rw [cells23] at hcz
          obtain ⟨_, hclz, hatz⟩ := World.cells?_some hcz
          have hz := hatz 0 (by omega)
          rw [List.getElem?_eq_getElem (by omega)] at hz
          have h1 : w.cell? ad = some cz[0] := by simpa [Addr.add] using hz
          exact spot_cell h1
        generalize ad.block = bb at hsp
        generalize ad.off = oo at hsp
        subst hsp
        rw [add_off, add_off, Nat.add_zero] at h0
        rw [add_off, add_off] at h1 h2
        unfold maxLen at s1 s2
        exact ⟨(x0, x1, x2), fun _ => ⟨bb, oo, rfl, block_lt h0, h0, h1, h2, by show x1.size ≤ _; omega, by show x2.size ≤ _; omega⟩⟩
      · exact ⟨(ByteArray.empty, ByteArray.empty, ByteArray.empty), fun h => absurd h hin⟩
    obtain ⟨f, hf⟩ := Classical.axiomOfChoice key
    refine ⟨(List.range n).map f, by simp, by unfold maxLen at hm; omega, fun j e hj => ?_⟩
    have hjn : j < n := by have := (List.getElem?_eq_some_iff.1 hj).1; simpa using this
    have he : e = f j := by
      rw [List.getElem?_map, List.getElem?_range hjn] at hj
      exact (Option.some.inj hj).symm
    rw [he]
    exact hf j hjn
theorem words_open (hv : Value.okWide Tryd.prog w r b0 36 v) (h : DataW.Trod enc Tryd.prog w 0 (fun _ => true) true 36 v d p) :
    ∃ a n c, v = .slice a n c ∧ ∃ es : List ByteArray, es.length = n ∧ n ≤ 9223372036854775807 ∧ WsAt w a es := by
  obtain ⟨a, n, c, rfl⟩ := okWide_slice Tryd.underlying36 hv
  obtain ⟨fuel, hf⟩ := h
  refine ⟨a, n, c, rfl, ?_⟩
  rcases open_strings Tryd.underlying36 Tryd.underlying9 cells9 hf with ⟨hcs, _⟩ | ⟨ad, l, c', ss, hcs, hb, hl, hm, hlen, hx, hcell, hsz⟩
  · simp [Value.cells] at hcs
    obtain ⟨rfl, rfl, rfl⟩ := hcs
    exact ⟨[], rfl, by omega, fun j e hj => by simp at hj⟩
  · simp [Value.cells] at hcs
    obtain ⟨rfl, rfl, rfl⟩ := hcs
    simp at hlen
    refine ⟨ss.take n, by simp; omega, by unfold maxLen at hm; omega, fun j e hj => ?_⟩
    have hjl := (List.getElem?_eq_some_iff.1 hj).1
    rw [List.length_take] at hjl
    have hja : j < n := by omega
    have hjb : j < ss.length := by omega
    have hj2 : ss[j]? = some e := by rw [List.getElem?_take_of_lt hja] at hj; exact hj
    have hc := hcell j hjb
    rw [List.getD_eq_getElem?_getD, hj2] at hc
    have hz := hsz e (List.mem_of_getElem? hj2)
    unfold maxLen at hz
    have hc0 := hcell 0 (by omega)
    have hsp : ad = ⟨ad.block, ad.off, none⟩ := by
      have e0 : ad.add 0 = ad := by simp [Addr.add]
      rw [e0] at hc0
      exact spot_cell hc0
    generalize ad.block = bb at hsp
    generalize ad.off = oo at hsp
    subst hsp
    rw [add_off] at hc
    exact ⟨bb, oo, rfl, block_lt hc, hc, by omega⟩
theorem nums_open (hv : Value.okWide Tryd.prog w r b0 37 v) (h : DataW.Trod enc Tryd.prog w 0 (fun _ => true) true 37 v d p) :
    ∃ a n c, v = .slice a n c ∧ ∃ es : List Int, es.length = n ∧ n ≤ 9223372036854775807 ∧ NsAt w a es := by
  obtain ⟨a, n, c, rfl⟩ := okWide_slice Tryd.underlying37 hv
  obtain ⟨fuel, hf⟩ := h
  refine ⟨a, n, c, rfl, ?_⟩
  rcases open_ints Tryd.underlying37 Tryd.underlying3 (by kernel_rfl) hf with ⟨hcs, _⟩ | ⟨ad, l, c', zs, hcs, hb, hl, hm, hlen, hx, hcell, hwz⟩
  · simp [Value.cells] at hcs
    obtain ⟨rfl, rfl, rfl⟩ := hcs
    exact ⟨[], rfl, by omega, fun j e hj => by simp at hj⟩
  · simp [Value.cells] at hcs
    obtain ⟨rfl, rfl, rfl⟩ := hcs
    simp at hlen
    refine ⟨zs.take n, by simp; omega, by unfold maxLen at hm; omega, fun j e hj => ?_⟩
    have hjl := (List.getElem?_eq_some_iff.1 hj).1
    rw [List.length_take] at hjl
    have hja : j < n := by omega
    have hjb : j < zs.length := by omega
    have hj2 : zs[j]? = some e := by rw [List.getElem?_take_of_lt hja] at hj; exact hj
    have hc := hcell j hjb
    rw [List.getD_eq_getElem?_getD, hj2] at hc
    have hc0 := hcell 0 (by omega)
    have hsp : ad = ⟨ad.block, ad.off, none⟩ := by
      have e0 : ad.add 0 = ad := by simp [Addr.add]
      rw [e0] at hc0
      exact spot_cell hc0
    generalize ad.block = bb at hsp
    generalize ad.off = oo at hsp
    subst hsp
    rw [add_off] at hc
    exact ⟨bb, oo, rfl, block_lt hc, hc⟩
end
theorem back_law' (s : ByteArray) (a0 : Option Addr) (n0 c0 : Nat) (w : World) (hs : s.size ≤ 9223372036854775807) (hr : ∃ es : List (ByteArray × ByteArray × ByteArray), es.length = n0 ∧ n0 ≤ 9223372036854775807 ∧ ElsAt w a0 es) (hM : Max w) :
    Calls Tryd.prog 4 #[.string s, .slice a0 n0 c0] w fun e w' => e = .returned (.bool true) ∧ Below w.heap.size w w' := by
  obtain ⟨es, h1, h2, h3⟩ := hr
  exact back_law s a0 n0 c0 es h1 h2 w hs h3 hM
end Go.Proofs.YtgdcdknmijeioaaDoor
