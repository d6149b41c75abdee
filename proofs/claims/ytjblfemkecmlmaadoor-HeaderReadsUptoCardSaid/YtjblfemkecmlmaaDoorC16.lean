/- Bytes laid behind the bytes of a text, and behind an empty row. -/
import Derived.Test.YtjblfemkecmlmaaDoorC14
import Derived.ArgAppend
import Derived.Laws.IdiomCopy
import Derived.Laws.OwnMore
set_option linter.unusedSimpArgs false
set_option linter.unusedVariables false
namespace Go.Proofs.YtjblfemkecmlmaaDoor
open Go.RowKit Go.Shelf

theorem RowB.bp' {w0 w : World} {g : Nat} {l : List UInt8} (h : RowB w0 w g l) : BP w g 0 l := ⟨h.lt, fun j c hj => by rw [Nat.zero_add]; exact h.cell j c hj⟩
/-- The bytes of a text as a row: all its places are there, and may be written. -/
structure RowC (w0 w : World) (g cap : Nat) (l : List UInt8) : Prop where
  row : RowB w0 w g l
  spare : ∀ j, j < cap → (w.cell? ⟨g, j, none⟩).isSome = true ∧ w.frozen? ⟨g, j, none⟩ = false
section
variable {ops : Array Oper} {rest : List Oper} {o : Oper} {act : Act} {Q : Exit → Act → World → Prop}
theorem wpL_tobytes2 {w0 w : World} {x : Operand} {s : ByteArray} (hgd : o.guard = none) (ho : o.op = .convert 9 22 x) (hx : act.eval x = .string s) (hb : Below w0.heap.size w0 w) (hs : s.size ≤ maxLen)
    (h : ∀ cap w', RowC w0 w' w.heap.size cap s.data.toList → s.size ≤ cap → cap ≤ maxLen → Below w.heap.size w w' → wpList Tryd.prog ops Q rest (act.put o.dst (.slice (some ⟨w.heap.size, 0, none⟩) s.size cap)) w') :
    wpList Tryd.prog ops Q (o :: rest) act w := by
  have hr := run_bytes_of_string (P := Tryd.prog) w 9 22 5 s Tryd.underlying9 Tryd.underlying22 Tryd.underlying5
  refine wpList_plain hgd fun K hK => ?_
  unfold Oper.wp execOp
  rw [ho]
  simp only [hx, Sem.run_bind, hr, Result.andThen_ok, Sem.run_pure]
  refine hK _ _ (h _ _ ⟨rowB_made w0 w hb s _, fun j hj => ?_⟩ (grownCap_ge _ _ _ _) (grownCap_le_maxLen _ _ _ _ hs) ((Below.refl _ _).drew.alloc (Nat.le_refl _) _))
  generalize grownCap w s.size 0 5 = cap at *
  have hge : s.size ≤ cap ∨ cap < s.size := by omega
  have hz := size_bytesRow s cap
  have hq := heap_alloc_new w.drew (.cells (bytesRow s cap) 5 ((bytesRow s cap).size, (bytesRow s cap).size + 1))
  have hq' : (w.drew.alloc (.cells (bytesRow s cap) 5 ((bytesRow s cap).size, (bytesRow s cap).size + 1))).heap[w.heap.size]? = _ := hq
  have hjz : j < (bytesRow s cap).size := by omega
  constructor
  · rw [World.cell?]
    simp only [hq']
    rw [Array.getElem?_eq_getElem hjz]
    rfl
  · unfold World.frozen?
    simp only [hq']
    simp
    omega
theorem bs_cells {w : World} {ad : Addr} {l2 : List UInt8} (hB : Bs w (some ad) l2) : ∀ j u, (Lib.byteCells l2)[j]? = some u → w.cell? (ad.add j) = some u := by
  intro j u hj
  have hj' : ∃ c, l2[j]? = some c ∧ u = .int .u8 c.toNat := by
    unfold Lib.byteCells at hj
    rw [List.getElem?_map] at hj
    cases hc : l2[j]? with
    | none => rw [hc] at hj; cases hj
    | some c => rw [hc] at hj; exact ⟨c, rfl, (Option.some.inj hj).symm⟩
  obtain ⟨c, hc, rfl⟩ := hj'
  obtain ⟨b, off, e, _, h3⟩ := hB j c hc
  cases e
  have hadd : (⟨b, off, none⟩ : Addr).add j = ⟨b, off + j, none⟩ := by unfold Addr.add; split <;> simp_all
  rw [hadd]; exact h3
theorem byte_one (l2 : List UInt8) : ∀ u ∈ Lib.byteCells l2, u.oneCell' = true := by
  intro u hu
  unfold Lib.byteCells at hu
  obtain ⟨c, _, rfl⟩ := List.mem_map.1 hu
  rfl
theorem own_bp {w : World} {B g : Nat} {cap : Nat} {l : List UInt8} (h : w.ownsRow B 5 1 (.slice (some ⟨g, 0, none⟩) l.length cap) l.length (Lib.byteCells l)) (hg : g < w.heap.size) : BP w g 0 l :=
  ⟨hg, fun j c hj => by
    have := h.cells (g := g) rfl j (.int .u8 c.toNat) (by simp [Lib.byteCells, hj])
    have hadd : (⟨g, 0, none⟩ : Addr).add j = ⟨g, 0 + j, none⟩ := by unfold Addr.add; split <;> simp_all
    rw [hadd] at this
    exact this⟩
theorem run_app_nil {w : World} {ty : TypeId} (b n cap c : Nat) (hnc : n ≤ cap) : (Builtin.append_ #[22, 22] ty #[.slice (some ⟨b, 0, none⟩) n cap, .slice none 0 c]).run Tryd.prog w = .ok (.slice (some ⟨b, 0, none⟩) n cap) w := by
  obtain ⟨i0, hi, hz0, hz1, hz2⟩ := infoB
  simp [Builtin.append_, run_underlying Tryd.underlying22, sizeOf, typeInfo, hi, Builtin.lenOf, Builtin.firstCells, hnc, storeCells]
theorem below_setCells (g : Nat) : ∀ (vs : List Value) (o : Nat) (w : World), Below g w (w.setCells g o vs)
  | [], _, w => Below.refl _ _
  | v :: r, o, w => by
    unfold World.setCells
    exact ((Below.refl g w).setCell (Nat.le_refl _) v (p := ⟨g, o, none⟩)).trans (below_setCells g r (o + 1) _)
/-- append([]byte(text), bytes...). -/
theorem wpL_appbytes {w0 w : World} {g cap : Nat} {l l2 : List UInt8} {s x : Operand} {src : Option Addr} {n m c : Nat} (hgd : o.guard = none) (ho : o.op = .call { callee := .builtin .append, args := #[s, x], argTypes := #[22, 22] })
    (hs : act.eval s = .slice (some ⟨g, 0, none⟩) n cap) (hR : RowC w0 w g cap l) (hn : l.length = n) (hcap : n ≤ cap) (hcm : cap ≤ maxLen) (hx : act.eval x = .slice src m c) (hm : l2.length = m) (hB : Bs w src l2) (hl : n + m ≤ 70368744177664)
    (h : ∀ b' cap' w', BP w' b' 0 (l ++ l2) → n + m ≤ cap' → cap' ≤ maxLen → Below w0.heap.size w0 w' → wpList Tryd.prog ops Q rest (act.put o.dst (.slice (some ⟨b', 0, none⟩) (n + m) cap')) w') :
    wpList Tryd.prog ops Q (o :: rest) act w := by
  obtain ⟨i0, hi, hz0, hz1, hz2⟩ := infoB
  subst hn
  subst hm
  cases src with
  | none =>
    have h0 : l2 = [] := by
      cases l2 with
      | nil => rfl
      | cons c t => obtain ⟨b, off, e, _⟩ := hB 0 c rfl; cases e
    subst h0
    refine wpList_plain hgd fun K hK => ?_
    unfold Oper.wp execOp
    have hr := run_app_nil (w := w) (ty := o.type) g l.length cap c hcap
    have h2 := h g cap w (by rw [List.append_nil]; exact hR.row.bp') hcap hcm hR.row.bel
    simp only [ho, resolve, invoke, builtin, Sem.run_bind, Sem.run_pure, Result.andThen_ok, List.map_toArray, List.map_cons, List.map_nil, hs, hx, List.length_nil, hr]
    exact hK _ _ h2
  | some ad =>
    have hnews := bs_cells hB
    refine wpList_append_arg w hgd s x 22 ho 5 i0 (.int .u8 0) 1 1 Tryd.underlying22 hi hz0 hz1 hz2 rfl (by decide) g 0 l.length cap (Lib.byteCells l) hs (by rw [Lib.byteCells_length]; omega) (fun j u hj => ?_) ad l2.length c (Lib.byteCells l2) hx (by rw [Lib.byteCells_length]; omega) hnews (byte_one l2) ?_ (by unfold maxLen; omega) (by omega) ?_ ?_
    · have := bs_cells (hR.row.bp'.bs) j u hj
      have hadd : (⟨g, 0, none⟩ : Addr).add j = ⟨g, 0 + j, none⟩ := by unfold Addr.add; split <;> simp_all
      rw [hadd] at this
      exact this
    · intro hroom j hj
      rw [Lib.byteCells_length] at hj
      have e : 0 + l.length * 1 + j = l.length + j := by omega
      rw [e]
      exact hR.spare _ (by omega)
    · intro hroom
      have e : 0 + l.length * 1 = l.length := by omega
      rw [e]
      refine h g cap _ ⟨?_, ?_⟩ hroom hcm ?_
      · exact Nat.lt_of_lt_of_le hR.row.lt (below_setCells g _ _ _).size
      · intro j c hj
        rw [Nat.zero_add]
        by_cases hjl : j < l.length
        · rw [List.getElem?_append_left hjl] at hj
          rw [World.cell?_setCells_out g (Lib.byteCells l2) l.length w ⟨g, j, none⟩ (fun _ _ => .inl hjl)]
          exact hR.row.cell j c hj
        · rw [List.getElem?_append_right (by omega)] at hj
          have hj2 := (List.getElem?_eq_some_iff.1 hj).1
          have h3 := World.cell?_setCells_in g (Lib.byteCells l2) l.length w (fun k hk => (hR.spare _ (by rw [Lib.byteCells_length] at hk; omega)).1) (j - l.length) (by rw [Lib.byteCells_length]; exact hj2)
          rw [show l.length + (j - l.length) = j by omega] at h3
          rw [h3]
          unfold Lib.byteCells
          have h4 : (l2.map fun b : UInt8 => Value.int .u8 b.toNat)[j - l.length]? = some (.int .u8 c.toNat) := by rw [List.getElem?_map, hj]; rfl
          rw [← List.getElem?_eq_getElem]
          exact h4
      · exact hR.row.bel.trans ((below_setCells g _ _ _).mono hR.row.ge)
    · intro hgrow v' w' hown hg
      rcases hown.2 with ⟨e1, e⟩ | ⟨g', cap', cur, e1, e2, e3, e4, e5, _⟩
      · omega
      · subst e1
        have hown' : w'.ownsRow w.heap.size 5 1 (.slice (some ⟨g', 0, none⟩) (l ++ l2).length cap') (l ++ l2).length (Lib.byteCells (l ++ l2)) := by
          rw [List.length_append, Lib.byteCells_append]; exact hown
        exact h g' cap' w' (own_bp hown' (Array.getElem?_eq_some_iff.1 e3).1) e4 e5 (hR.row.bel.grown hg hR.row.bel.size (fun k hk => by cases hk))
/-- append([]byte{}, bytes...). -/
theorem wpL_appempty {w0 w : World} {g : Nat} {l2 : List UInt8} {s x : Operand} {src : Option Addr} {m c : Nat} (hgd : o.guard = none) (ho : o.op = .call { callee := .builtin .append, args := #[s, x], argTypes := #[22, 22] })
    (hs : act.eval s = .slice (some ⟨g, 0, none⟩) 0 0) (hR : w.heap[g]? = some (.cells #[] 5)) (hg : w0.heap.size ≤ g) (hb : Below w0.heap.size w0 w) (hx : act.eval x = .slice src m c) (hm : l2.length = m) (hB : Bs w src l2) (hl : m ≤ 70368744177664)
    (h : ∀ b' cap' w', BP w' b' 0 l2 → w0.heap.size ≤ b' → m ≤ cap' → cap' ≤ maxLen → Below w0.heap.size w0 w' → wpList Tryd.prog ops Q rest (act.put o.dst (.slice (some ⟨b', 0, none⟩) m cap')) w') :
    wpList Tryd.prog ops Q (o :: rest) act w := by
  obtain ⟨i0, hi, hz0, hz1, hz2⟩ := infoB
  subst hm
  have hgl := (Array.getElem?_eq_some_iff.1 hR).1
  cases src with
  | none =>
    have h0 : l2 = [] := by
      cases l2 with
      | nil => rfl
      | cons c t => obtain ⟨b, off, e, _⟩ := hB 0 c rfl; cases e
    subst h0
    refine wpList_plain hgd fun K hK => ?_
    unfold Oper.wp execOp
    have hr := run_app_nil (w := w) (ty := o.type) g 0 0 c (Nat.le_refl _)
    have h2 := h g 0 w ⟨hgl, fun j c hj => by simp at hj⟩ hg (Nat.le_refl _) (by unfold maxLen; omega) hb
    simp only [ho, resolve, invoke, builtin, Sem.run_bind, Sem.run_pure, Result.andThen_ok, List.map_toArray, List.map_cons, List.map_nil, hs, hx, List.length_nil, hr]
    exact hK _ _ h2
  | some ad =>
    have hown : w.ownsRow w0.heap.size 5 1 (.slice (some ⟨g, 0, none⟩) 0 0) 0 [] := ⟨rfl, .inr ⟨g, 0, #[], rfl, hg, hR, Nat.le_refl _, by unfold maxLen; omega, rfl, rfl⟩⟩
    refine wpList_append_own _ hgd s x 22 ho w0.heap.size 5 i0 (.int .u8 0) 1 1 Tryd.underlying22 hi hz0 hz1 hz2 rfl (by decide) _ _ _ hs hown ad l2.length c (Lib.byteCells l2) hx (by rw [Lib.byteCells_length]; omega) (bs_cells hB) (byte_one l2) (by unfold maxLen; omega) (by omega) hb.size ?_
    intro v' w' hown2 hg2 hnil
    rw [Nat.zero_add, List.nil_append] at hown2
    rcases hown2.2 with ⟨e1, e⟩ | ⟨g', cap', cur, e1, e2, e3, e4, e5, _⟩
    · have := (hnil.1 e1).1
      cases this
    · subst e1
      exact h g' cap' w' (own_bp hown2 (Array.getElem?_eq_some_iff.1 e3).1) e2 e4 e5 (hb.grown hg2 hb.size (fun k hk => by cases hk; exact hg))
end
end Go.Proofs.YtjblfemkecmlmaaDoor
