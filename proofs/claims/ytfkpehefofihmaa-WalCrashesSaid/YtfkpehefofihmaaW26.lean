/- What with does. -/
import Derived.Test.YtfkpehefofihmaaW25
set_option linter.unusedSimpArgs false
set_option linter.unusedVariables false
set_option maxRecDepth 8000
namespace Go.Proofs.Ytfkpehefofihmaa
open Go.RowKit

theorem info5a : (Try.prog.info? 5).map (fun i => (i.zero, i.size, i.bytes)) = some (some (.int .u8 0), 1, 1) := by kernel_rfl
theorem buildSlice51_0 (w : World) : (Instr.buildSlice 51 0 #[]).run Try.prog w = .ok (.slice (some ⟨w.heap.size, 0, none⟩) 0 0) (w.alloc (.cells #[] 5)) := by kernel_rfl

theorem owns_empty (w : World) (e : TypeId) : (w.alloc (.cells #[] e)).ownsRow 0 e 1 (.slice (some ⟨w.heap.size, 0, none⟩) 0 0) 0 [] :=
  ⟨rfl, .inr ⟨w.heap.size, 0, #[], rfl, Nat.zero_le _, heap_alloc_last w _, Nat.le_refl _, by decide, rfl, rfl⟩⟩

/-- append([][]byte{}, has...): a row of its own, over the same bytes. -/
theorem has_qcopy {w0 w : World} {G : List Nat} {v : Value} {vs : List (Array Value)} {Rs : List Res} (h : Has w0 w (QRes G v vs :: Rs)) (hpos : 0 < vs.length) (hn : vs.length ≤ 100000) (ty : TypeId) :
    ∃ v' w', (Builtin.append_ #[29, 29] ty #[.slice (some ⟨w.heap.size, 0, none⟩) 0 0, v]).run Try.prog (w.alloc (.cells #[] 51)) = .ok v' w' ∧ ∃ G', Has w0 w' (QRes G' v' vs :: Rs) := by
  have hl := h.qat (by simp : QRes G v vs ∈ QRes G v vs :: Rs)
  have hGlt : ∀ y ∈ G, y < w.heap.size := fun y hy => ((h.each (QRes G v vs) (by simp)).2 y hy).2
  obtain ⟨gs, h1, h2, h3, h4⟩ := hl
  obtain ⟨i0, hi, hz0, hz1, hz2⟩ := info_parts info51a
  rcases h2.2 with ⟨_, hn0⟩ | ⟨g, cap, cur, rfl, _, hh, hc1, hc2, hcs, hcur⟩
  · omega
  have hgl := (Array.getElem?_eq_some_iff.1 hh).1
  have hh2 : (w.alloc (.cells #[] 51)).heap[g]? = some (.cells cur 51 (0, 0)) := by rw [Below.heap_alloc _ _ _ hgl]; exact hh
  obtain ⟨v', w', hrun, hown, hgrow, hnil, hloc⟩ := run_append_own_at (P := Try.prog) (w.alloc (.cells #[] 51)) 0 29 ty 51 i0 _ 1 24 Try.underlying29 hi hz0 hz1 hz2 rfl (by omega)
    _ 0 [] (owns_empty w 51) ⟨g, 0, none⟩ vs.length cap (gs.map (fun g => Value.slice (some ⟨g.1, 0, none⟩) 64 g.2)) (by simp [h1]) (fun j u hu => by
      rw [Addr.add_mid, Nat.zero_add, cell_of_row _ _ _ _ _ _ hh2, ← Array.getElem?_toList]
      have h5 : (cur.toList.take (vs.length * 1))[j]? = some u := by rw [hcur]; exact hu
      have hj : j < vs.length := by have := (List.getElem?_eq_some_iff.1 hu).1; simp at this; omega
      rw [List.getElem?_take_of_lt (by omega)] at h5
      exact h5) (fun u hu => by obtain ⟨q, _, rfl⟩ := List.mem_map.1 hu; rfl) (by unfold maxLen; omega) (by omega) (Nat.zero_le _)
  have hO : Only G w w' := (((Only.refl [] w).alloc (.cells #[] 51)).mono (by simp)).grown hgrow (fun y hy => .inr (by simp [Value.ownBlock] at hy; omega))
  have hO0 : Only [] w w' := ((Only.refl [] w).alloc (.cells #[] 51)).grown hgrow (fun y hy => .inr (by simp [Value.ownBlock] at hy; omega))
  have hsz := hgrow.size
  simp only [World.size_alloc] at hsz
  refine ⟨v', w', hrun, G ++ v'.ownBlock.toList, h.turn (r' := QRes (G ++ v'.ownBlock.toList) v' vs) hO ?_ ?_⟩
  · refine ⟨gs, h1, by simpa using hown, fun y hy => by simp [hy], fun i c q hc hq => ?_⟩
    obtain ⟨e1, e2, t, d, e3, e4, e5⟩ := h4 i c q hc hq
    exact ⟨by simp [e1], e2, t, d, e3, (hO0.block q.1 (hGlt q.1 e1) (by simp)).trans e4, e5⟩
  · intro y hy
    simp only [QRes, List.mem_append, Option.mem_toList] at hy
    rcases hy with hy | hy
    · exact ⟨.inl hy, by have := hGlt y hy; omega⟩
    · have hlt := (ownsRow_own hown hy).2.1
      refine ⟨.inr ?_, hlt⟩
      rcases hloc with e | e
      · rw [e] at hy; simp [Value.ownBlock] at hy; omega
      · rw [e] at hy; simp at hy; omega

/-- out[k] = append([]byte{}, bytes...). -/
theorem has_qset {w0 w : World} {G : List Nat} {v : Value} {vs : List (Array Value)} {Rs : List Res} (h : Has w0 w (QRes G v vs :: Rs)) {k : Nat} (hk : k < vs.length) {c : Array Value} {ad : Addr} {cap : Nat} (hc : SecOk c) (hsrc : ∀ j u, c.toList[j]? = some u → (w.alloc (.cells #[] 5)).cell? (ad.add j) = some u) (ty : TypeId) :
    ∃ go co v2 w2, v = .slice (some ⟨go, 0, none⟩) vs.length co ∧ (Builtin.append_ #[51, 51] ty #[.slice (some ⟨w.heap.size, 0, none⟩) 0 0, .slice (some ad) 64 cap]).run Try.prog (w.alloc (.cells #[] 5)) = .ok v2 w2 ∧
      (∃ u, w2.cell? ⟨go, k, none⟩ = some u) ∧ w2.frozen? ⟨go, k, none⟩ = false ∧ (∃ a b d, v2 = .slice a b d) ∧ Only [] w w2 ∧ ∃ G', Has w0 (w2.setCell ⟨go, k, none⟩ v2) (QRes G' v (vs.set k c) :: Rs) := by
  have hl := h.qat (by simp : QRes G v vs ∈ QRes G v vs :: Rs)
  have hGlt : ∀ y ∈ G, y < w.heap.size := fun y hy => ((h.each (QRes G v vs) (by simp)).2 y hy).2
  obtain ⟨gs, h1, h2, h3, h4⟩ := hl
  obtain ⟨i0, hi, hz0, hz1, hz2⟩ := info_parts info5a
  rcases h2.2 with ⟨_, hn0⟩ | ⟨go, co, cur, rfl, _, hh, hc1, hc2, hcs, hcur⟩
  · omega
  have hlen : c.toList.length = 64 := by simpa using hc.1
  obtain ⟨v2, w2, hrun, hown, hgrow, hnil, hloc⟩ := run_append_own_at (P := Try.prog) (w.alloc (.cells #[] 5)) 0 51 ty 5 i0 _ 1 1 Try.underlying51 hi hz0 hz1 hz2 rfl (by omega)
    _ 0 [] (owns_empty w 5) ad 64 cap c.toList (by rw [hlen]) hsrc (fun u hu => (Array.all_eq_true_iff_forall_mem.1 hc.2) u (by simpa using hu)) (by unfold maxLen; omega) (by omega) (Nat.zero_le _)
  have hO0 : Only [] w w2 := ((Only.refl [] w).alloc (.cells #[] 5)).grown hgrow (fun y hy => .inr (by simp [Value.ownBlock] at hy; omega))
  have hsz := hgrow.size
  simp only [World.size_alloc] at hsz
  rcases hown.2 with ⟨_, hn0⟩ | ⟨g2, cap2, cur2, rfl, _, hh2, _, _, hcs2, hcur2⟩
  · omega
  have hgoG : go ∈ G := h3 go rfl
  have hgol := hGlt go hgoG
  have hg2 : w.heap.size ≤ g2 := by
    rcases hloc with e | e
    · simp [Value.ownBlock] at e; omega
    · simp [Value.ownBlock] at e; omega
  have hgo2 : w2.heap[go]? = some (.cells cur 51 (0, 0)) := (hO0.block go hgol (by simp)).trans hh
  have hkc : k < cur.size := by omega
  have hset := heap_setCell_row hgo2 k (.slice (some ⟨g2, 0, none⟩) (0 + 64) cap2)
  have hne : go ≠ g2 := by omega
  refine ⟨go, co, _, w2, rfl, hrun, ⟨cur[k], by rw [cell_of_row _ _ _ _ _ _ hgo2]; exact Array.getElem?_eq_getElem hkc⟩, by simp [World.frozen?, hgo2], ⟨_, _, _, rfl⟩, hO0, G ++ [g2], h.turn (r' := QRes (G ++ [g2]) _ (vs.set k c)) ((hO0.mono (by simp)).setCell (.inl hgoG) _) ?_ ?_⟩
  · refine ⟨gs.set k (g2, cap2), by simp [h1], ⟨by simp [h1], .inr ⟨go, co, _, by simp, Nat.zero_le _, hset, by simpa using hc1, hc2, by simpa using hcs, ?_⟩⟩, fun y hy => by simp [Value.ownBlock] at hy; subst hy; simp [hgoG], fun i x q hx hq => ?_⟩
    · rw [Array.toList_setIfInBounds, List.length_set, List.take_set, hcur, List.map_set]
    · by_cases hik : i = k
      · subst hik
        rw [List.getElem?_set_self (by omega)] at hx hq
        cases hx
        cases hq
        refine ⟨by simp, hc, 5, cur2, by decide, ?_, by simpa using hcur2⟩
        rw [Below.heap_setCell _ _ _ _ hne.symm]
        exact hh2
      · rw [List.getElem?_set_ne (by omega)] at hx hq
        obtain ⟨e1, e2, t, d, e3, e4, e5⟩ := h4 i x q hx hq
        refine ⟨by simp [e1], e2, t, d, e3, ?_, e5⟩
        have hqo : q.1 ≠ go := fun e => by rw [e, hh] at e4; simp at e4; exact e3 e4.2.symm
        rw [Below.heap_setCell _ _ _ _ hqo]
        exact (hO0.block q.1 (hGlt q.1 e1) (by simp)).trans e4
  · intro y hy
    simp only [QRes, List.mem_append, List.mem_singleton] at hy
    have hz : (w2.setCell ⟨go, k, none⟩ (.slice (some ⟨g2, 0, none⟩) (0 + 64) cap2)).heap.size = w2.heap.size := by simp
    rw [hz]
    rcases hy with hy | hy
    · exact ⟨.inl hy, by have := hGlt y hy; omega⟩
    · subst hy
      exact ⟨.inr hg2, (Array.getElem?_eq_some_iff.1 hh2).1⟩

end Go.Proofs.Ytfkpehefofihmaa
