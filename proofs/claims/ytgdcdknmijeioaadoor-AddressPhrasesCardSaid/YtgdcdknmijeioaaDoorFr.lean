/- From a walk to a row's claim: the frame; an argument of type Addr. -/
import Derived.Test.YtgdcdknmijeioaaDoorL5
import Derived.Test.YtgdcdknmijeioaaDoorRows
import Derived.Test.YtgdcdknmijeioaaDoorCards
import Derived.Test.YtgdcdknmijeioaaDoorTie
import Derived.ProofKit
import Derived.OpenShut
import Derived.LaidMore
import Derived.Lay
import Derived.LaidLaws
import Derived.SevenTiedAt
import Derived.Stop.Joined
import Derived.Stop.LaidErr
import Derived.Deep.DeepHandedRow
import Derived.Lib.LaidTab
import Derived.Lib.SmallJoins
import Derived.Shelf.Vars
set_option linter.unusedSimpArgs false
set_option linter.unusedVariables false
namespace Go.Proofs.YtgdcdknmijeioaaDoor
open Go.ChangeShapes Go.WideShapes Go.ChangeAt Go.RowKit

theorem ownK : ownKnob Tryd.prog.godebug = none := by kernel_rfl
theorem laidK : laidOutB Tryd.prog = true := by kernel_rfl
theorem max_of (W : World) (h : W.ShapedOpen Tryd.prog) : Max W :=
  Go.Proofs.cell_of_shapedOpen_int (zero := #[.int .i64 0]) (t := 3) h (of_decide_eq_true (by kernel_rfl)) (by kernel_rfl) rfl (by kernel_rfl) (by kernel_rfl) Tryd.underlying3
theorem array3 {α : Type} {cs : Array α} (h : cs.size = 3) : ∃ c0 c1 c2, cs = #[c0, c1, c2] := by
  obtain ⟨l⟩ := cs
  match l, h with
  | [c0, c1, c2], _ => exact ⟨c0, c1, c2, rfl⟩
noncomputable def fieldsA : Array Field := match Tryd.prog.underlying 23 with | some (.struct fs) => fs | _ => #[]
theorem und23 : Tryd.prog.underlying 23 = some (.struct fieldsA) := by kernel_rfl
theorem fields_all : (fieldsA.map fun f => (f.type, f.offset)) = #[(9, 0), (9, 1), (9, 2)] := by kernel_rfl
theorem fields_size : fieldsA.size = 3 := by kernel_rfl
theorem fields_at (i : Nat) (hi : i < 3) : ∃ f, fieldsA[i]? = some f ∧ f.type = 9 ∧ f.offset = i := by
  have hz : i < fieldsA.size := by rw [fields_size]; exact hi
  have key := congrArg (fun a => a[i]?) fields_all
  simp only [Array.getElem?_map, Array.getElem?_eq_getElem hz, Option.map_some] at key
  have hk : ∀ k : Fin 3, (#[((9 : TypeId), (0 : Nat)), (9, 1), (9, 2)] : Array (TypeId × Nat))[k.val]? = some (9, k.val) := by decide
  rw [hk ⟨i, hi⟩] at key
  simp only [Option.some.injEq, Prod.mk.injEq] at key
  exact ⟨_, Array.getElem?_eq_getElem hz, key.1, key.2⟩
theorem cells23 : Tryd.prog.cellsOf 23 = 3 := by kernel_rfl
theorem cells9 : Tryd.prog.cellsOf 9 = 1 := by kernel_rfl
/-- The cells of an address as data. -/
theorem addr_cells {H : Type} {enc : TypeId × Value → H} {w : World} {base : Nat} {sp : Nat → Bool} {held : Bool} {fuel : Nat} {c0 c1 c2 : Value} {x : DataW H × List MemPlace} (h : DataW.trod enc Tryd.prog w base sp held fuel 23 [c0, c1, c2] = some x) :
    ∃ n a d : ByteArray, c0 = .string n ∧ c1 = .string a ∧ c2 = .string d ∧ n.size ≤ maxLen ∧ a.size ≤ maxLen ∧ d.size ≤ maxLen := by
  obtain ⟨xs, n, _, _, hl, hlen, hx⟩ := DataW.trod_struct und23 h
  have key : ∀ i, i < 3 → ∃ z : ByteArray, ([c0, c1, c2].drop i).take 1 = [.string z] ∧ z.size ≤ maxLen := by
    intro i hi
    obtain ⟨f, hfi, ht, ho⟩ := fields_at i hi
    have := hx i f hfi
    rw [ht, ho, cells9, List.getElem?_eq_getElem (by rw [hlen, fields_size]; exact hi)] at this
    obtain ⟨z, hz, _, hs⟩ := DataW.trod_string Tryd.underlying9 this
    exact ⟨z, hz, hs⟩
  obtain ⟨n, h0, s0⟩ := key 0 (by omega)
  obtain ⟨a, h1, s1⟩ := key 1 (by omega)
  obtain ⟨d, h2, s2⟩ := key 2 (by omega)
  simp at h0 h1 h2
  exact ⟨n, a, d, h0, h1, h2, s0, s1, s2⟩
theorem open_addr {H : Type} {enc : TypeId × Value → H} {w : World} {base : Nat} {sp : Nat → Bool} {held : Bool} {r : Reach} {b0 : Nat} {v : Value} {d : DataW H} {p : List MemPlace} (hv : Value.okWide Tryd.prog w r b0 23 v) (h : DataW.Trod enc Tryd.prog w base sp held 23 v d p) :
    ∃ n a d : ByteArray, v = .agg #[.string n, .string a, .string d] ∧ a.size ≤ 9223372036854775807 ∧ d.size ≤ 9223372036854775807 := by
  obtain ⟨cs, rfl, hsz⟩ := okWide_struct und23 hv
  obtain ⟨c0, c1, c2, rfl⟩ := array3 (hsz.trans cells23)
  obtain ⟨fuel, hf⟩ := h
  obtain ⟨n, a, d, rfl, rfl, rfl, s0, s1, s2⟩ := addr_cells hf
  unfold maxLen at s1 s2
  exact ⟨n, a, d, rfl, by omega, by omega⟩
end Go.Proofs.YtgdcdknmijeioaaDoor
