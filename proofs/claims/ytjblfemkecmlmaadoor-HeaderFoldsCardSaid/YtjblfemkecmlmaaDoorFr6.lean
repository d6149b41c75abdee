/- An argument that is a row of flags. -/
import Derived.Test.YtjblfemkecmlmaaDoorFr
import Derived.Test.YtjblfemkecmlmaaDoorL6
import Derived.Deep.Grids
set_option linter.unusedSimpArgs false
set_option linter.unusedVariables false
namespace Go.Proofs.YtjblfemkecmlmaaDoor
open Go.ChangeShapes Go.WideShapes Go.ChangeAt Go.RowKit

section
variable {H : Type} {enc : TypeId × Value → H} {w : World} {d : DataW H} {p : List MemPlace} {v : Value} {r : Reach} {b0 : Nat}
theorem cells4 : Tryd.prog.cellsOf 4 = 1 := by kernel_rfl
theorem bools_open (hv : Value.okWide Tryd.prog w r b0 39 v) (h : DataW.Trod enc Tryd.prog w 0 (fun _ => true) true 39 v d p) :
    ∃ a n c, v = .slice a n c ∧ ∃ es : List Bool, es.length = n ∧ n ≤ 9223372036854775807 ∧ BlAt w a es := by
  obtain ⟨a, n, c, rfl⟩ := okWide_slice Tryd.underlying39 hv
  obtain ⟨fuel, hf⟩ := h
  refine ⟨a, n, c, rfl, ?_⟩
  rcases Go.Deep.open_bools Tryd.underlying39 Tryd.underlying4 cells4 hf with ⟨hcs, _⟩ | ⟨ad, l, c', B, hcs, hb, hl, hm, hx, hcell⟩
  · simp [Value.cells] at hcs
    obtain ⟨rfl, rfl, rfl⟩ := hcs
    exact ⟨[], rfl, by omega, fun j e hj => by simp at hj⟩
  · simp [Value.cells] at hcs
    obtain ⟨rfl, rfl, rfl⟩ := hcs
    refine ⟨(List.range n).map B, by simp, by unfold maxLen at hm; omega, fun j e hj => ?_⟩
    have hjn : j < n := by have := (List.getElem?_eq_some_iff.1 hj).1; simpa using this
    have he : e = B j := by
      rw [List.getElem?_map, List.getElem?_range hjn] at hj
      exact (Option.some.inj hj).symm
    have hc := hcell j (by omega)
    have hc0 := hcell 0 (by omega)
    have hsp : ad = ⟨ad.block, ad.off, none⟩ := by
      have e0 : ad.add 0 = ad := by simp [Addr.add]
      rw [e0] at hc0
      exact spot_cell hc0
    generalize ad.block = bb at hsp
    generalize ad.off = oo at hsp
    subst hsp
    rw [add_off] at hc
    rw [he]
    exact ⟨bb, oo, rfl, block_lt hc, hc⟩
end
theorem folds_law' (s : ByteArray) (a : Option Addr) (n c : Nat) (w : World) (hs : s.size ≤ 9223372036854775807) (h : ∃ es : List Bool, es.length = n ∧ n ≤ 9223372036854775807 ∧ BlAt w a es) (hM : Max w) :
    Calls Tryd.prog 6 #[.string s, .slice a n c] w fun e w' => e = .returned (.bool true) ∧ Below w.heap.size w w' := by
  obtain ⟨es, h1, h2, h3⟩ := h
  exact folds_law s a n c es h1 h2 hs w h3 hM
end Go.Proofs.YtjblfemkecmlmaaDoor
