/- A whole slice laid behind a row of the call's own. -/
import Derived.Test.YtdikgifgapbocaaDoorC17
import Derived.Laws.OwnMore
set_option linter.unusedSimpArgs false
set_option linter.unusedVariables false
namespace Go.Proofs.YtdikgifgapbocaaDoor
open Go.RowKit Go.Shelf

section
variable {ops : Array Oper} {rest : List Oper} {o : Oper} {act : Act} {Q : Exit → Act → World → Prop}
theorem run_app_none {w0 w : World} {a : Option Addr} {cap : Nat} {l : List UInt8} (hob : OB w0 w a cap l) (c : Nat) (ty : TypeId) : (Builtin.append_ #[22, 22] ty #[.slice a l.length cap, .slice none 0 c]).run Tryd.prog w = .ok (.slice a l.length cap) w := by
  obtain ⟨i0, hi, hz0, hz1, hz2⟩ := infoB
  rcases hob.own.2 with ⟨e, _⟩ | ⟨g, cap', cur, e, _, _, hnc, _⟩
  · rw [e]
    simp [Builtin.append_, run_underlying Tryd.underlying22, sizeOf, typeInfo, hi, Builtin.lenOf, Builtin.firstCells]
  · rw [e]
    simp [Builtin.append_, run_underlying Tryd.underlying22, sizeOf, typeInfo, hi, Builtin.lenOf, Builtin.firstCells, hnc, storeCells]
theorem wpL_obs {w0 w : World} {a : Option Addr} {cap : Nat} {l l2 : List UInt8} {s x : Operand} {src : Option Addr} {n m c : Nat} (hgd : o.guard = none) (ho : o.op = .call { callee := .builtin .append, args := #[s, x], argTypes := #[22, 22] })
    (hs : act.eval s = .slice a n cap) (hob : OB w0 w a cap l) (hn : l.length = n) (hx : act.eval x = .slice src m c) (hm : l2.length = m) (hB : Bs w src l2) (hl : l.length + m < 70368744177664)
    (h : ∀ a' cap' w', OB w0 w' a' cap' (l ++ l2) → wpList Tryd.prog ops Q rest (act.put o.dst (.slice a' (n + m) cap')) w') :
    wpList Tryd.prog ops Q (o :: rest) act w := by
  obtain ⟨i0, hi, hz0, hz1, hz2⟩ := infoB
  subst hn
  subst hm
  cases src with
  | none =>
    have h0 : l2 = [] := by
      cases l2 with
      | nil => rfl
      | cons c t => obtain ⟨b, off, e, _⟩ := hB 0 c rfl; cases e
    subst h0
    refine wpList_plain hgd fun K hK => ?_
    unfold Oper.wp execOp
    have hr := run_app_none hob c o.type
    have h2 := h a cap w (by rw [List.append_nil]; exact hob)
    simp only [ho, resolve, invoke, builtin, Sem.run_bind, Sem.run_pure, Result.andThen_ok, List.map_toArray, List.map_cons, List.map_nil, hs, hx, List.length_nil, hr]
    exact hK _ _ h2
  | some ad =>
    have hnews : ∀ j u, (Lib.byteCells l2)[j]? = some u → w.cell? (ad.add j) = some u := by
      intro j u hj
      have hj' : ∃ c, l2[j]? = some c ∧ u = .int .u8 c.toNat := by
        unfold Lib.byteCells at hj
        rw [List.getElem?_map] at hj
        cases hc : l2[j]? with
        | none => rw [hc] at hj; cases hj
        | some c => rw [hc] at hj; exact ⟨c, rfl, (Option.some.inj hj).symm⟩
      obtain ⟨c, hc, rfl⟩ := hj'
      obtain ⟨b, off, e, _, h3⟩ := hB j c hc
      cases e
      have hadd : (⟨b, off, none⟩ : Addr).add j = ⟨b, off + j, none⟩ := by unfold Addr.add; split <;> simp_all
      rw [hadd]; exact h3
    refine wpList_append_own _ hgd s x 22 ho w0.heap.size 5 i0 (.int .u8 0) 1 1 Tryd.underlying22 hi hz0 hz1 hz2 rfl (by decide) _ _ _ hs hob.own ad l2.length c (Lib.byteCells l2) hx (by rw [Lib.byteCells_length]; omega) hnews ?_ ?_ ?_ ?_ ?_
    · intro u hu
      unfold Lib.byteCells at hu
      obtain ⟨c, _, rfl⟩ := List.mem_map.1 hu
      rfl
    · unfold maxLen; omega
    · omega
    · exact hob.size
    · intro v' w' hown hg hnil
      have hlen : (l ++ l2).length = l.length + l2.length := by simp
      obtain ⟨a', cap', rfl⟩ : ∃ a' cap', v' = .slice a' (l.length + l2.length) cap' := by
        rcases hown.2 with ⟨e1, e⟩ | ⟨g, cap', cur, e1, _⟩
        · exact ⟨none, 0, by rw [e1, e]⟩
        · exact ⟨_, _, e1⟩
      refine h a' cap' w' ⟨?_, ?_⟩
      · rw [hlen, Lib.byteCells_append]
        exact hown
      · exact hob.bel.grown hg hob.size (fun k hk => (hob.own.lt k hk).1)
end
/-- An empty row of a call's own in w, said of an older w0. -/
theorem OB.made' {w0 w : World} (hb : Below w0.heap.size w0 w) : OB w0 (w.alloc (.cells #[] 5)) (some ⟨w.heap.size, 0, none⟩) 0 [] :=
  ⟨World.ownsRow_made w #[] 0 hb.size (by unfold maxLen; omega) rfl, hb.alloc hb.size _⟩
end Go.Proofs.YtdikgifgapbocaaDoor
