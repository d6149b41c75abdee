/- What arguments of bounded bulk are: bytes, fields. -/
import Derived.Test.YtjblfemkecmlmaaDoorFr
import Derived.Test.YtjblfemkecmlmaaDoorL5
import Derived.Deep.Slices
set_option linter.unusedSimpArgs false
set_option linter.unusedVariables false
namespace Go.Proofs.YtjblfemkecmlmaaDoor
open Go.ChangeShapes Go.WideShapes Go.ChangeAt Go.RowKit

theorem bulk_one {H : Type} (d : DataW H) : 1 ≤ Rows.uptoBulk d := by
  cases d with
  | lit l => cases l <;> simp [Rows.uptoBulk]
  | _ => simp [Rows.uptoBulk]
theorem bulk_len {H : Type} (l : List (DataW H)) : l.length ≤ Rows.uptoBulkAll l := by
  induction l with
  | nil => simp
  | cons x r ih => have := bulk_one x; simp only [Rows.uptoBulkAll, List.length_cons]; omega
theorem bulk_part {H : Type} {d : DataW H} {l : List (DataW H)} (h : d ∈ l) : Rows.uptoBulk d ≤ Rows.uptoBulkAll l := by
  induction l with
  | nil => cases h
  | cons x r ih =>
    simp only [Rows.uptoBulkAll]
    rcases List.mem_cons.1 h with rfl | e
    · omega
    · have := ih e; omega
theorem bulk_bound {H : Type} {l : List (DataW H)} (hk : Rows.uptoSmall H l = true) : Rows.uptoBulkAll l ≤ 1048576 := of_decide_eq_true hk
/-- An argument of type []byte: its bytes. -/
theorem bytes_open {H : Type} {enc : TypeId × Value → H} {w : World} {fuel : Nat} {a : Option Addr} {len cap : Nat} {x : DataW H × List MemPlace} (h : DataW.trod enc Tryd.prog w 0 (fun _ => true) true fuel 22 (Value.slice a len cap).cells.toList = some x) (hx : Rows.uptoBulk x.1 ≤ 1048576) :
    ∃ l : List UInt8, l.length = len ∧ len ≤ cap ∧ cap ≤ maxLen ∧ len ≤ 1048576 ∧ Bs w a l := by
  rcases open_ints Tryd.underlying22 Tryd.underlying5 (by kernel_rfl) h with ⟨hcs, _⟩ | ⟨y, l, c, zs, hcs, _, hl, hm, hz, he, hcell, hwz⟩
  · simp [Value.cells] at hcs
    obtain ⟨rfl, rfl, rfl⟩ := hcs
    exact ⟨[], rfl, by omega, by unfold maxLen; omega, by omega, fun j c hj => by simp at hj⟩
  · simp [Value.cells] at hcs
    obtain ⟨rfl, rfl, rfl⟩ := hcs
    simp at hz
    have hlen : len ≤ 1048576 := by
      rw [he] at hx
      simp only [Rows.uptoBulk] at hx
      have := bulk_len (H := H) (lits .u8 (zs.take len))
      have h2 : (lits (H := H) .u8 (zs.take len)).length = len := by simp [lits]; omega
      omega
    refine ⟨(zs.take len).map (fun z => UInt8.ofNat z.toNat), by simp; omega, hl, hm, hlen, fun j c hj => ?_⟩
    have hjl : j < len := by have := (List.getElem?_eq_some_iff.1 hj).1; simp at this; omega
    have h0 := hcell 0 (by omega)
    rw [show y.add 0 = y by simp [Addr.add]] at h0
    have hy := spot_cell h0
    have hj' := hcell j (by omega)
    refine ⟨y.block, y.off, congrArg some hy, World.block_lt_of_cell? w y h0, ?_⟩
    rw [hy, add_off] at hj'
    rw [hj']
    have hzj : zs[j]? = some (zs.getD j 0) := by rw [List.getD_eq_getElem?_getD, List.getElem?_eq_getElem (by omega)]; rfl
    have hw := hwz (zs.getD j 0) (List.mem_of_getElem? hzj)
    rw [List.getElem?_map, List.getElem?_take, if_pos hjl, hzj] at hj
    have hc := Option.some.inj hj
    rw [← hc]
    generalize zs.getD j 0 = z at hw
    have hb : 0 ≤ z ∧ z < 256 := by
      have := of_decide_eq_true (p := _ ∧ _) (by simpa [Lit.wf] using hw)
      simp [IntKind.min, IntKind.max, IntKind.bits, IntKind.signed] at this
      omega
    have e : (UInt8.ofNat z.toNat).toNat = z.toNat % 256 := UInt8.toNat_ofNat'
    rw [e]
    congr 2
    omega
noncomputable def fieldsF : Array Field := match Tryd.prog.underlying 28 with | some (.struct fs) => fs | _ => #[]
theorem undF : Tryd.prog.underlying 28 = some (.struct fieldsF) := by kernel_rfl
theorem fields_all : (fieldsF.map fun f => (f.type, f.offset)) = #[(9, 0), (9, 1)] := by kernel_rfl
theorem fields_size : fieldsF.size = 2 := by kernel_rfl
theorem fields_at (i : Nat) (hi : i < 2) : ∃ f, fieldsF[i]? = some f ∧ f.type = 9 ∧ f.offset = i := by
  have hz : i < fieldsF.size := by rw [fields_size]; exact hi
  have key := congrArg (fun a => a[i]?) fields_all
  simp only [Array.getElem?_map, Array.getElem?_eq_getElem hz, Option.map_some] at key
  have hk : ∀ k : Fin 2, (#[((9 : TypeId), (0 : Nat)), (9, 1)] : Array (TypeId × Nat))[k.val]? = some (9, k.val) := by decide
  rw [hk ⟨i, hi⟩] at key
  simp only [Option.some.injEq, Prod.mk.injEq] at key
  exact ⟨_, Array.getElem?_eq_getElem hz, key.1, key.2⟩
theorem cellsF : Tryd.prog.cellsOf 28 = 2 := by kernel_rfl
theorem cellsS : Tryd.prog.cellsOf 9 = 1 := by kernel_rfl
/-- The cells of a field as data. -/
theorem field_cells {H : Type} {enc : TypeId × Value → H} {w : World} {base : Nat} {sp : Nat → Bool} {held : Bool} {fuel : Nat} {c0 c1 : Value} {x : DataW H × List MemPlace} (h : DataW.trod enc Tryd.prog w base sp held fuel 28 [c0, c1] = some x) :
    ∃ n a : ByteArray, c0 = .string n ∧ c1 = .string a ∧ n.size ≤ Rows.uptoBulk x.1 ∧ a.size ≤ Rows.uptoBulk x.1 := by
  obtain ⟨xs, n, _, rfl, hl, hlen, hx⟩ := DataW.trod_struct undF h
  have key : ∀ i, i < 2 → ∃ z : ByteArray, ([c0, c1].drop i).take 1 = [.string z] ∧ z.size ≤ Rows.uptoBulkAll (xs.map (·.1)) + 1 := by
    intro i hi
    obtain ⟨f, hfi, ht, ho⟩ := fields_at i hi
    have := hx i f hfi
    have hxl : i < xs.length := by rw [hlen, fields_size]; exact hi
    rw [ht, ho, cellsS, List.getElem?_eq_getElem hxl] at this
    obtain ⟨z, hz, he, hs⟩ := DataW.trod_string Tryd.underlying9 this
    refine ⟨z, hz, ?_⟩
    have hm : xs[i].1 ∈ xs.map (·.1) := List.mem_map_of_mem (List.getElem_mem hxl)
    have hb := bulk_part hm
    rw [he] at hb
    simp only [Rows.uptoBulk] at hb
    have e := Lib.size_eq z
    omega
  obtain ⟨n, h0, s0⟩ := key 0 (by omega)
  obtain ⟨a, h1, s1⟩ := key 1 (by omega)
  simp at h0 h1
  exact ⟨n, a, h0, h1, s0, s1⟩
set_option maxRecDepth 100000 in
/-- An argument of type []api.Field. -/
theorem fields_open {H : Type} {enc : TypeId × Value → H} {w : World} {fuel : Nat} {a : Option Addr} {n cap : Nat} {x : DataW H × List MemPlace} (h : DataW.trod enc Tryd.prog w 0 (fun _ => true) true fuel 24 (Value.slice a n cap).cells.toList = some x) (hx : Rows.uptoBulk x.1 ≤ 1048576) :
    ∃ F : List Fld, F.length = n ∧ n ≤ cap ∧ n ≤ 1048576 ∧ FLe 1048576 F ∧ FsIn w a F := by
  rcases Go.Deep.open_slice Tryd.underlying24 h with ⟨hcs, _⟩ | ⟨ad, l, c', m, k, D, Pl, hcs, hb, hl, hm, hmm, rfl, hi⟩
  · simp [Value.cells] at hcs
    obtain ⟨rfl, rfl, rfl⟩ := hcs
    exact ⟨[], rfl, by omega, by omega, fun f hf => by simp at hf, fun j f hj => by simp at hj⟩
  · simp [Value.cells] at hcs
    obtain ⟨rfl, rfl, rfl⟩ := hcs
    simp at hmm
    subst hmm
    simp only [Rows.uptoBulk] at hx
    have hlen : n ≤ 1048576 := by
      have := bulk_len (H := H) ((List.range n).map D)
      have h2 : ((List.range n).map D).length = n := by simp
      omega
    have key : ∀ i, ∃ f : Fld, i < n → f.1.length ≤ 1048576 ∧ f.2.length ≤ 1048576 ∧ ∃ b off, some ad = some (⟨b, off, none⟩ : Addr) ∧ b < w.heap.size ∧ w.cell? ⟨b, off + i * 2, none⟩ = some (.string ⟨f.1.toArray⟩) ∧ w.cell? ⟨b, off + i * 2 + 1, none⟩ = some (.string ⟨f.2.toArray⟩) := by
      intro i
      by_cases hin : i < n
      · obtain ⟨cs', hc, ht⟩ := hi i (by omega)
        have hbi : Rows.uptoBulk (D i) ≤ Rows.uptoBulkAll ((List.range n).map D) := bulk_part (List.mem_map.2 ⟨i, List.mem_range.2 hin, rfl⟩)
        rw [cellsF] at hc
        obtain ⟨_, hcl, hat⟩ := World.cells?_some hc
        obtain ⟨c0, c1, rfl⟩ : ∃ c0 c1, cs' = [c0, c1] := by
          match cs', hcl with
          | [c0, c1], _ => exact ⟨c0, c1, rfl⟩
        obtain ⟨x0, x1, rfl, rfl, s0, s1⟩ := field_cells ht
        have h0 := hat 0 (by omega)
        have h1 := hat 1 (by omega)
        have hsp : ad = ⟨ad.block, ad.off, none⟩ := by
          obtain ⟨cz, hcz, _⟩ := hi 0 (by omega)
          rw [cellsF] at hcz
          obtain ⟨_, hclz, hatz⟩ := World.cells?_some hcz
          have hz := hatz 0 (by omega)
          rw [List.getElem?_eq_getElem (by omega)] at hz
          have h1 : w.cell? ad = some cz[0] := by simpa [Addr.add] using hz
          exact spot_cell h1
        generalize ad.block = bb at hsp
        generalize ad.off = oo at hsp
        subst hsp
        rw [add_off, add_off, Nat.add_zero] at h0
        rw [add_off, add_off] at h1
        have e0 := Lib.size_eq x0
        have e1 := Lib.size_eq x1
        simp only at s0 s1
        exact ⟨(x0.data.toList, x1.data.toList), fun _ => ⟨by show x0.data.toList.length ≤ _; omega, by show x1.data.toList.length ≤ _; omega, bb, oo, rfl, block_lt h0, h0, h1⟩⟩
      · exact ⟨([], []), fun h => absurd h hin⟩
    obtain ⟨f, hf⟩ := Classical.axiomOfChoice key
    refine ⟨(List.range n).map f, by simp, by omega, hlen, fun g hg => ?_, fun j g hj => ?_⟩
    · obtain ⟨i, hi, rfl⟩ := List.mem_map.1 hg
      have := hf i (List.mem_range.1 hi)
      exact ⟨this.1, this.2.1⟩
    · have hjn : j < n := by have := (List.getElem?_eq_some_iff.1 hj).1; simpa using this
      have he : g = f j := by
        rw [List.getElem?_map, List.getElem?_range hjn] at hj
        exact (Option.some.inj hj).symm
      rw [he]
      exact (hf j hjn).2.2
end Go.Proofs.YtjblfemkecmlmaaDoor
