/- Rows of texts, and of addresses, of a call's own. -/
import Derived.Test.YtgdcdknmijeioaaDoorC13
set_option linter.unusedSimpArgs false
set_option linter.unusedVariables false
namespace Go.Proofs.YtgdcdknmijeioaaDoor
open Go.RowKit Go.Shelf

/-- A slice of a call's own: its cells. -/
structure OX (B : Nat) (e : TypeId) (sz : Nat) (w : World) (v : Value) (n : Nat) (xs : List Value) : Prop where
  own : w.ownsRow B e sz v n xs
  size : B ≤ w.heap.size
section
variable {B : Nat} {e : TypeId} {sz : Nat} {w w' : World} {v : Value} {n : Nat} {xs : List Value}
theorem OX.below (h : OX B e sz w v n xs) (hb : Below w.heap.size w w') : OX B e sz w' v n xs :=
  ⟨ownsRow_keep h.own (fun g _ hg => hb.block g hg), Nat.le_trans h.size hb.size⟩
theorem OX.chg {r : Nat} (h : OX B e sz w v n xs) (hc : Chg r w w') (hr : r < B) : OX B e sz w' v n xs :=
  ⟨ownsRow_keep h.own (fun g hB hg => hc.other g hg (by omega)), Nat.le_trans h.size hc.below.size⟩
theorem OX.alloc (h : OX B e sz w v n xs) (o : Obj) : OX B e sz (w.alloc o) v n xs := h.below ((Below.refl _ _).alloc (Nat.le_refl _) o)
theorem OX.cells (h : OX B e sz w v n xs) : ∃ a cap, v = .slice a n cap ∧ n ≤ cap ∧ ((a = none ∧ n = 0) ∨ ∃ g, a = some ⟨g, 0, none⟩ ∧ B ≤ g ∧ g < w.heap.size ∧ ∀ j u, xs[j]? = some u → w.cell? ⟨g, j, none⟩ = some u) := by
  rcases h.own.2 with ⟨e1, e2⟩ | ⟨g, cap', cur, e1, e2, e3, e4, e5, e6, e7⟩
  · exact ⟨none, 0, by rw [e1, e2], by omega, .inl ⟨rfl, e2⟩⟩
  · refine ⟨_, cap', e1, e4, .inr ⟨g, rfl, e2, (Array.getElem?_eq_some_iff.1 e3).1, fun j u hj => ?_⟩⟩
    subst e1
    have hg := h.own.cells (g := g) rfl j u hj
    have hadd : (⟨g, 0, none⟩ : Addr).add j = ⟨g, 0 + j, none⟩ := by unfold Addr.add; split <;> simp_all
    rw [hadd, Nat.zero_add] at hg
    exact hg
end
section
variable {ops : Array Oper} {rest : List Oper} {o : Oper} {act : Act} {Q : Exit → Act → World → Prop}
theorem wpL_ox {B : Nat} {w : World} {v : Value} {e : TypeId} {sz n : Nat} {xs news : List Value} {s x : Operand} {t : TypeId} {z : Value} {bytes : Nat} {cs : Array Value}
    (ht : Tryd.prog.underlying t = some (.slice e)) (hi : (Tryd.prog.info? e).map (fun i => (i.zero, i.size, i.bytes)) = some (some z, sz, bytes)) (hzs : z.cells.size = sz) (hsz : 0 < sz)
    (hgd : o.guard = none) (ho : o.op = .call { callee := .builtin .append, args := #[s, x], argTypes := #[t, t] })
    (hs : act.eval s = v) (hob : OX B e sz w v n xs) (hx : act.eval x = .slice (some ⟨w.heap.size, 0, none⟩) 1 1) (hc : cs.toList = news) (hnl : news.length = sz) (h1 : ∀ u ∈ news, u.oneCell' = true) (hn : n + 1 ≤ maxLen) (hb : (n + 1) * bytes ≤ 140737488355328)
    (h : ∀ v' w', OX B e sz w' v' (n + 1) (xs ++ news) → Below B w w' → wpList Tryd.prog ops Q rest (act.put o.dst v') w') :
    wpList Tryd.prog ops Q (o :: rest) act (w.alloc (.cells cs e)) := by
  obtain ⟨i0, hi0, hi1⟩ := Option.map_eq_some_iff.1 hi
  have hz0 : i0.zero = some z := congrArg (·.1) hi1
  have hz1 : i0.size = sz := congrArg (·.2.1) hi1
  have hz2 : i0.bytes = bytes := congrArg (·.2.2) hi1
  refine wpList_append_own _ hgd s x t ho B e i0 z sz bytes ht hi0 hz0 hz1 hz2 hzs hsz v n xs hs (hob.alloc _).own ⟨w.heap.size, 0, none⟩ 1 1 news hx (by rw [hnl, Nat.one_mul]) ?_ h1 hn hb ?_ ?_
  · intro j u hj
    have hadd : (⟨w.heap.size, 0, none⟩ : Addr).add j = ⟨w.heap.size, j, none⟩ := by unfold Addr.add; split <;> simp_all
    rw [hadd, cell_of_row _ _ _ _ _ _ (heap_alloc_new w _)]
    rw [← hc] at hj
    simpa using hj
  · have := hob.size; simp; omega
  · intro v' w' hown hg _
    have b1 : Below B w (w.alloc (.cells cs e)) := (Below.refl _ _).alloc hob.size _
    have b2 := b1.grown hg (hob.alloc (.cells cs e)).size (fun k hk => (hob.own.lt k hk).1)
    exact h v' w' ⟨hown, Nat.le_trans hob.size b2.size⟩ b2
end
theorem infoS : (Tryd.prog.info? 9).map (fun i => (i.zero, i.size, i.bytes)) = some (some (.string ByteArray.empty), 1, 16) := by kernel_rfl
theorem infoA : (Tryd.prog.info? 23).map (fun i => (i.zero, i.size, i.bytes)) = some (some (.agg #[.string ByteArray.empty, .string ByteArray.empty, .string ByteArray.empty]), 3, 48) := by kernel_rfl
def sV (l : List UInt8) : Value := .string ⟨l.toArray⟩
end Go.Proofs.YtgdcdknmijeioaaDoor
