/- An argument of type Time. -/
import Derived.Test.YtjbojboiagbofaaDoorFr
import Derived.Lib.SmallJoins
set_option linter.unusedSimpArgs false
set_option linter.unusedVariables false
namespace Go.Proofs.YtjbojboiagbofaaDoor
open Go.ChangeShapes Go.WideShapes Go.ChangeAt Go.RowKit

theorem array7 {α : Type} {cs : Array α} (h : cs.size = 7) : ∃ c0 c1 c2 c3 c4 c5 c6, cs = #[c0, c1, c2, c3, c4, c5, c6] := by
  obtain ⟨l⟩ := cs
  match l, h with
  | [c0, c1, c2, c3, c4, c5, c6], _ => exact ⟨c0, c1, c2, c3, c4, c5, c6, rfl⟩
noncomputable def fieldsT : Array Field := match Tryd.prog.underlying 24 with | some (.struct fs) => fs | _ => #[]
theorem und24 : Tryd.prog.underlying 24 = some (.struct fieldsT) := by kernel_rfl
theorem fields_all : (fieldsT.map fun f => (f.type, f.offset)) = #[(3, 0), (3, 1), (3, 2), (3, 3), (3, 4), (3, 5), (3, 6)] := by kernel_rfl
theorem fields_size : fieldsT.size = 7 := by kernel_rfl
theorem fields_at (i : Nat) (hi : i < 7) : ∃ f, fieldsT[i]? = some f ∧ f.type = 3 ∧ f.offset = i := by
  have hz : i < fieldsT.size := by rw [fields_size]; exact hi
  have key := congrArg (fun a => a[i]?) fields_all
  simp only [Array.getElem?_map, Array.getElem?_eq_getElem hz, Option.map_some] at key
  have hk : ∀ k : Fin 7, (#[((3 : TypeId), (0 : Nat)), (3, 1), (3, 2), (3, 3), (3, 4), (3, 5), (3, 6)] : Array (TypeId × Nat))[k.val]? = some (3, k.val) := by decide
  rw [hk ⟨i, hi⟩] at key
  simp only [Option.some.injEq, Prod.mk.injEq] at key
  exact ⟨_, Array.getElem?_eq_getElem hz, key.1, key.2⟩
theorem cells24 : Tryd.prog.cellsOf 24 = 7 := by kernel_rfl
theorem cells3 : Tryd.prog.cellsOf 3 = 1 := by kernel_rfl
theorem open_time {H : Type} {enc : TypeId × Value → H} {w : World} {base : Nat} {sp : Nat → Bool} {held : Bool} {r : Reach} {b0 : Nat} {v : Value} {d : DataW H} {p : List MemPlace} (hv : Value.okWide Tryd.prog w r b0 24 v) (h : DataW.Trod enc Tryd.prog w base sp held 24 v d p) :
    ∃ y m dd hh mi se wd : Int, v = .agg #[.int .i64 y, .int .i64 m, .int .i64 dd, .int .i64 hh, .int .i64 mi, .int .i64 se, .int .i64 wd] := by
  obtain ⟨cs, rfl, hsz⟩ := okWide_struct und24 hv
  obtain ⟨c0, c1, c2, c3, c4, c5, c6, rfl⟩ := array7 (hsz.trans cells24)
  obtain ⟨fuel, hf⟩ := h
  obtain ⟨xs, n, _, _, hl, hlen, hx⟩ := DataW.trod_struct und24 hf
  have key : ∀ i, i < 7 → ∃ z : Int, ((Value.agg #[c0, c1, c2, c3, c4, c5, c6]).cells.toList.drop i).take 1 = [.int .i64 z] := by
    intro i hi
    obtain ⟨f, hfi, ht, ho⟩ := fields_at i hi
    have := hx i f hfi
    rw [ht, ho, cells3, List.getElem?_eq_getElem (by rw [hlen, fields_size]; exact hi)] at this
    obtain ⟨z, hz, _⟩ := DataW.trod_int Tryd.underlying3 this
    exact ⟨z, hz⟩
  have hc : (Value.agg #[c0, c1, c2, c3, c4, c5, c6]).cells = #[c0, c1, c2, c3, c4, c5, c6] := rfl
  simp only [hc] at key
  obtain ⟨y, h0⟩ := key 0 (by omega)
  obtain ⟨m, h1⟩ := key 1 (by omega)
  obtain ⟨dd, h2⟩ := key 2 (by omega)
  obtain ⟨hh, h3⟩ := key 3 (by omega)
  obtain ⟨mi, h4⟩ := key 4 (by omega)
  obtain ⟨se, h5⟩ := key 5 (by omega)
  obtain ⟨wd, h6⟩ := key 6 (by omega)
  simp at h0 h1 h2 h3 h4 h5 h6
  exact ⟨y, m, dd, hh, mi, se, wd, by rw [h0, h1, h2, h3, h4, h5, h6]⟩
end Go.Proofs.YtjbojboiagbofaaDoor
