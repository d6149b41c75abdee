/- A slice of puts of a law's own, beside other things. -/
import Derived.Test.YtfkpehefofihmaaW18
set_option linter.unusedSimpArgs false
set_option linter.unusedVariables false
set_option maxRecDepth 8000
namespace Go.Proofs.Ytfkpehefofihmaa
open Go.RowKit

/-- The slice v holds the puts ps; it and their bytes lie in the blocks G. -/
def LAt (w : World) (G : List Nat) (v : Value) (ps : List (Int × Array Value)) : Prop :=
  ∃ gs : List Nat, gs.length = ps.length ∧ w.ownsRow 0 54 2 v ps.length ((ps.zip gs).flatMap (fun q => putCells (q.1.1, .slice (some ⟨q.2, 0, none⟩) 64 64))) ∧ (∀ g, v.ownBlock = some g → g ∈ G) ∧
    ∀ (i : Nat) (p : Int × Array Value) (g : Nat), ps[i]? = some p → gs[i]? = some g → g ∈ G ∧ SecOk p.2 ∧ w.heap[g]? = some (.cells p.2 5 (0, 0))

theorem LAt.congr {w w' : World} {G : List Nat} {v : Value} {ps : List (Int × Array Value)} (h : LAt w G v ps) (he : ∀ x ∈ G, w'.heap[x]? = w.heap[x]?) : LAt w' G v ps := by
  obtain ⟨gs, h1, h2, h3, h4⟩ := h
  refine ⟨gs, h1, ownsRow_congr' h2 (fun g hg => he g (h3 g hg)), h3, fun i p g hp hg => ?_⟩
  obtain ⟨e1, e2, e3⟩ := h4 i p g hp hg
  exact ⟨e1, e2, (he g e1).trans e3⟩

def LRes (G : List Nat) (v : Value) (ps : List (Int × Array Value)) : Res := ⟨G, fun w => LAt w G v ps, fun _ _ he h => h.congr he⟩

theorem LAt.slice {w : World} {G : List Nat} {v : Value} {ps : List (Int × Array Value)} (h : LAt w G v ps) : ∃ a cap, v = .slice a ps.length cap := by
  obtain ⟨gs, h1, h2, h3, h4⟩ := h
  rcases h2.2 with ⟨e, hn⟩ | ⟨g, cap, cur, e, _⟩
  · exact ⟨none, 0, by rw [e, hn]⟩
  · exact ⟨_, cap, e⟩

theorem zip_at {ps : List (Int × Array Value)} {gs : List Nat} {i : Nat} {p : Int × Array Value} {g : Nat} (hp : ps[i]? = some p) (hg : gs[i]? = some g) : (ps.zip gs)[i]? = some (p, g) := by
  rw [List.getElem?_zip_eq_some]; exact ⟨hp, hg⟩

/-- The cells of put i. -/
theorem LAt.cells {w : World} {G : List Nat} {v : Value} {ps : List (Int × Array Value)} (h : LAt w G v ps) {i : Nat} {p : Int × Array Value} (hp : ps[i]? = some p) :
    ∃ g cap gb, v = .slice (some ⟨g, 0, none⟩) ps.length cap ∧ g ∈ G ∧ g < w.heap.size ∧ gb ∈ G ∧ w.cell? ⟨g, 0 + i * 2, none⟩ = some (.int .i64 p.1) ∧ w.cell? ⟨g, 0 + i * 2 + 1, none⟩ = some (.slice (some ⟨gb, 0, none⟩) 64 64) ∧ SecOk p.2 ∧ w.heap[gb]? = some (.cells p.2 5 (0, 0)) := by
  obtain ⟨gs, h1, h2, h3, h4⟩ := h
  have hi := (List.getElem?_eq_some_iff.1 hp).1
  obtain ⟨gb, hgb⟩ : ∃ g, gs[i]? = some g := ⟨_, List.getElem?_eq_getElem (by omega)⟩
  rcases h2.2 with ⟨e, hn⟩ | ⟨g, cap, cur, e, _, hh, _, _, hcs, hcur⟩
  · omega
  · obtain ⟨e1, e2, e3⟩ := h4 i p gb hp hgb
    have hz := zip_at hp hgb
    let qs : List (Int × Value) := (ps.zip gs).map (fun q => (q.1.1, .slice (some ⟨q.2, 0, none⟩) 64 64))
    have hqs : (ps.zip gs).flatMap (fun q => putCells (q.1.1, .slice (some ⟨q.2, 0, none⟩) 64 64)) = qs.flatMap putCells := by simp only [qs, List.flatMap_map]
    have hq : qs[i]? = some (p.1, .slice (some ⟨gb, 0, none⟩) 64 64) := by simp only [qs, List.getElem?_map, hz, Option.map_some]
    obtain ⟨c0, c1⟩ := putCells_at qs i _ hq
    rw [hqs] at hcur
    refine ⟨g, cap, gb, e, h3 g (by rw [e]; rfl), (Array.getElem?_eq_some_iff.1 hh).1, e1, ?_, ?_, e2, e3⟩
    · rw [cell_of_row _ _ _ _ _ _ hh, Nat.zero_add, ← c0, ← hcur, List.getElem?_take_of_lt (by omega)]
      simp
    · rw [cell_of_row _ _ _ _ _ _ hh, Nat.zero_add, ← c1, ← hcur, List.getElem?_take_of_lt (by omega)]
      simp

theorem LAt.puts {w : World} {G F : List Nat} {v : Value} {ps : List (Int × Array Value)} (h : LAt w G v ps) (hGF : ∀ x ∈ F, x ∉ G) (hn : ps.length ≤ 1000000) : PutsAt w F v ps := by
  obtain ⟨a, cap, hv⟩ := h.slice
  refine ⟨a, cap, hv, hn, fun i p hp => ?_⟩
  obtain ⟨g, cap', gb, e, hg, hgs, hgb, c0, c1, ok, hb⟩ := h.cells hp
  rw [hv] at e
  cases e
  exact ⟨g, 0, _, rfl, hgs, fun hx => hGF g hx hg, c0, c1, bytes64_row hb (fun hx => hGF gb hx hgb) ok⟩

/-- The first m of them. -/
theorem LAt.puts_take {w : World} {G F : List Nat} {a : Option Addr} {n cap cap' m : Nat} {ps : List (Int × Array Value)} (h : LAt w G (.slice a n cap) ps) (hGF : ∀ x ∈ F, x ∉ G) (hn : ps.length ≤ 1000000) (hm : m ≤ ps.length) : PutsAt w F (.slice a m cap') (ps.take m) := by
  have hl : (ps.take m).length = m := by simp; omega
  refine ⟨a, cap', by rw [hl], by omega, fun i p hp => ?_⟩
  rw [List.getElem?_take] at hp
  split at hp
  · obtain ⟨g, cap', gb, e, hg, hgs, hgb, c0, c1, ok, hb⟩ := h.cells hp
    cases e
    exact ⟨g, 0, _, rfl, hgs, fun hx => hGF g hx hg, c0, c1, bytes64_row hb (fun hx => hGF gb hx hgb) ok⟩
  · cases hp

theorem Has.lat {w0 w : World} {G : List Nat} {v : Value} {ps : List (Int × Array Value)} {Rs : List Res} (h : Has w0 w Rs) (hm : LRes G v ps ∈ Rs) : LAt w G v ps := (h.each _ hm).1

theorem LAt.lt {w : World} {G : List Nat} {v : Value} {ps : List (Int × Array Value)} (h : LAt w G v ps) {g : Nat} (hg : v.ownBlock = some g) : g < w.heap.size := by
  obtain ⟨gs, h1, h2, h3, h4⟩ := h
  exact (ownsRow_own h2 hg).2.1

/-- An empty one. -/
theorem has_nil {w0 w : World} {Rs : List Res} (h : Has w0 w Rs) : Has w0 (w.alloc (.cells #[] 54)) (LRes [w.heap.size] (.slice (some ⟨w.heap.size, 0, none⟩) 0 0) [] :: Rs) :=
  h.more ((Only.refl [] w).alloc _) (LRes [w.heap.size] (.slice (some ⟨w.heap.size, 0, none⟩) 0 0) [])
    ⟨[], rfl, ⟨rfl, .inr ⟨w.heap.size, 0, #[], rfl, Nat.zero_le _, heap_alloc_last w _, Nat.le_refl _, by decide, rfl, rfl⟩⟩, fun g hg => by simp [Value.ownBlock] at hg; simp [hg], by simp⟩
    (fun x hx => by simp [LRes] at hx; subst hx; simp)

/-- One put more. -/
theorem has_append {w0 w : World} {G : List Nat} {v : Value} {ps : List (Int × Array Value)} {Rs : List Res} (h : Has w0 w (LRes G v ps :: Rs)) (i : Int) (x : Array Value) (hx : SecOk x) (hn : ps.length ≤ 100000) (ty : TypeId) :
    ∃ v' w', (Builtin.append_ #[32, 32] ty #[v, .slice (some ⟨w.heap.size + 1, 0, none⟩) 1 1]).run Try.prog ((w.alloc (.cells x 5)).alloc (.cells #[.int .i64 i, .slice (some ⟨w.heap.size, 0, none⟩) 64 64] 54)) = .ok v' w' ∧ ∃ G', Has w0 w' (LRes G' v' (ps ++ [(i, x)]) :: Rs) := by
  have hl := h.lat (by simp : LRes G v ps ∈ LRes G v ps :: Rs)
  have hGlt : ∀ y ∈ G, y < w.heap.size := fun y hy => ((h.each (LRes G v ps) (by simp)).2 y hy).2
  obtain ⟨gs, h1, h2, h3, h4⟩ := hl
  obtain ⟨i0, hi, hz0, hz1, hz2⟩ := info_parts info54a
  have hone : ∀ u ∈ putCells (i, .slice (some ⟨w.heap.size, 0, none⟩) 64 64), u.oneCell' = true := by
    intro u hu
    simp [putCells] at hu
    rcases hu with rfl | rfl <;> rfl
  have hblk := heap_alloc_last (w.alloc (.cells x 5)) (.cells #[.int .i64 i, .slice (some ⟨w.heap.size, 0, none⟩) 64 64] 54)
  rw [World.size_alloc] at hblk
  have hxb : ((w.alloc (.cells x 5)).alloc (.cells #[.int .i64 i, .slice (some ⟨w.heap.size, 0, none⟩) 64 64] 54)).heap[w.heap.size]? = some (.cells x 5 (0, 0)) := by
    rw [Below.heap_alloc _ _ _ (by simp)]; exact heap_alloc_last w _
  have o2 : Only [] w ((w.alloc (.cells x 5)).alloc (.cells #[.int .i64 i, .slice (some ⟨w.heap.size, 0, none⟩) 64 64] 54)) := ((Only.refl [] w).alloc _).alloc _
  have hs2 : ((w.alloc (.cells x 5)).alloc (.cells #[.int .i64 i, .slice (some ⟨w.heap.size, 0, none⟩) 64 64] 54)).heap.size = w.heap.size + 1 + 1 := by simp
  generalize (w.alloc (.cells x 5)).alloc (.cells #[.int .i64 i, .slice (some ⟨w.heap.size, 0, none⟩) 64 64] 54) = w2 at *
  have SRC2 : ∀ j u, (putCells (i, .slice (some ⟨w.heap.size, 0, none⟩) 64 64))[j]? = some u → w2.cell? ((⟨w.heap.size + 1, 0, none⟩ : Addr).add j) = some u := fun j u hu => by
    rw [Addr.add_mid, Nat.zero_add, cell_of_row _ _ _ _ _ _ hblk]
    simpa [putCells] using hu
  have h2' := ownsRow_congr' h2 (w' := w2) (fun g hg => o2.block g (ownsRow_own h2 hg).2.1 (by simp))
  obtain ⟨v', w', hrun, hown, hgrow, hnil, hloc⟩ := run_append_own_at (P := Try.prog) w2 0 32 ty 54 i0 _ 2 32 Try.underlying32 hi hz0 hz1 hz2 (by simp [Value.cells]) (by omega)
    v _ _ h2' ⟨w.heap.size + 1, 0, none⟩ 1 1 (putCells (i, .slice (some ⟨w.heap.size, 0, none⟩) 64 64)) rfl SRC2 hone (by unfold maxLen; omega) (by omega) (Nat.zero_le _)
  have hvG : ∀ y, v.ownBlock = some y → y ∈ G := h3
  have hO : Only G w w' := (o2.mono (by simp)).grown hgrow (fun y hy => .inl (hvG y hy))
  have hkeep : ∀ y, y < w2.heap.size → v.ownBlock ≠ some y → w'.heap[y]? = w2.heap[y]? := fun y hy hne => hgrow.block y hy (fun e => hne e.symm)
  have h5 : ∀ (y : Nat) (c : Array Value), w2.heap[y]? = some (.cells c 5 (0, 0)) → w'.heap[y]? = some (.cells c 5 (0, 0)) := fun y c hy => by
    rw [hkeep y (Array.getElem?_eq_some_iff.1 hy).1 (fun e => ?_)]
    · exact hy
    · obtain ⟨_, _, cur, hcur⟩ := ownsRow_own h2' e
      rw [hcur] at hy
      simp at hy
  have hgsz := hgrow.size
  refine ⟨v', w', hrun, G ++ v'.ownBlock.toList ++ [w.heap.size], h.turn (r' := LRes (G ++ v'.ownBlock.toList ++ [w.heap.size]) v' (ps ++ [(i, x)])) hO ?_ ?_⟩
  · refine ⟨gs ++ [w.heap.size], by simp [h1], ?_, fun g hg => by simp [hg], ?_⟩
    · have hz : (ps ++ [(i, x)]).zip (gs ++ [w.heap.size]) = ps.zip gs ++ [((i, x), w.heap.size)] := by rw [List.zip_append h1.symm]; rfl
      rw [hz, List.flatMap_append, List.length_append]
      simpa using hown
    · intro j p g hp hg
      by_cases hj : j < ps.length
      · rw [List.getElem?_append_left hj] at hp
        rw [List.getElem?_append_left (by omega)] at hg
        obtain ⟨e1, e2, e3⟩ := h4 j p g hp hg
        exact ⟨by simp [e1], e2, h5 g _ ((o2.block g (hGlt g e1) (by simp)).trans e3)⟩
      · rw [List.getElem?_append_right (by omega)] at hp hg
        have hj0 : j - ps.length = 0 := by
          have := (List.getElem?_eq_some_iff.1 hp).1
          simp at this; omega
        rw [hj0] at hp
        rw [h1, hj0] at hg
        simp at hp hg
        subst hp hg
        exact ⟨by simp, hx, h5 _ _ hxb⟩
  · intro y hy
    simp only [LRes, List.mem_append, Option.mem_toList, List.mem_singleton] at hy
    rcases hy with (hy | hy) | hy
    · exact ⟨.inl hy, by have := hGlt y hy; omega⟩
    · rcases hloc with e | e
      · rw [e] at hy
        have := hvG y hy
        exact ⟨.inl this, by have := hGlt y this; omega⟩
      · have hlt := (ownsRow_own hown hy).2.1
        rw [e] at hy
        simp at hy
        exact ⟨.inr (by omega), hlt⟩
    · subst hy
      exact ⟨.inr (Nat.le_refl _), by omega⟩

end Go.Proofs.Ytfkpehefofihmaa
