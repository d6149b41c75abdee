/- A slice of puts that is built by append. -/
import Derived.Test.YtoccnaebckcfmaaW9
import Derived.Deep.OwnRows
set_option linter.unusedSimpArgs false
set_option linter.unusedVariables false
set_option maxRecDepth 8000
namespace Go.Proofs.Ytoccnaebckcfmaa
open Go.RowKit

def putCells (q : Int × Value) : List Value := [.int .i64 q.1, q.2]
theorem putCells_len (qs : List (Int × Value)) : (qs.flatMap putCells).length = qs.length * 2 := by
  induction qs with
  | nil => rfl
  | cons q qs ih => rw [List.flatMap_cons, List.length_append, ih]; simp [putCells]; omega
theorem putCells_at : ∀ (qs : List (Int × Value)) (i : Nat) (q : Int × Value), qs[i]? = some q → (qs.flatMap putCells)[i * 2]? = some (.int .i64 q.1) ∧ (qs.flatMap putCells)[i * 2 + 1]? = some q.2
  | [], i, q, h => by simp at h
  | p :: qs, 0, q, h => by simp at h; subst h; simp [putCells]
  | p :: qs, i + 1, q, h => by
    have := putCells_at qs i q (by simpa using h)
    rw [List.flatMap_cons, List.getElem?_append_right (by simp [putCells]; omega), List.getElem?_append_right (by simp [putCells]; omega)]
    have hl : (putCells p).length = 2 := rfl
    rw [hl, show (i + 1) * 2 - 2 = i * 2 by omega, show (i + 1) * 2 + 1 - 2 = i * 2 + 1 by omega]
    exact this

/-- Bytes that stay where they are while a slice of puts is built. -/
def Src (w0 w : World) (F : List Nat) (av : Value) (v : Array Value) : Prop :=
  SecOk v ∧ ∃ g o cap, av = .slice (some ⟨g, o, none⟩) 64 cap ∧ g < w.heap.size ∧ g ∉ F ∧ w.rangeAt g o v.toList ∧ (g < w0.heap.size ∨ ∃ cs, w.heap[g]? = some (.cells cs 5 (0, 0)))
theorem Src.bytes {w0 w : World} {F : List Nat} {av : Value} {v : Array Value} (h : Src w0 w F av v) : Bytes64 w F av v := by
  obtain ⟨h1, g, o, cap, h2, h3, h4, h5, _⟩ := h
  exact ⟨h1, g, o, cap, h2, h3, h4, h5⟩
theorem Src.keep {w0 w w' : World} {F : List Nat} {av : Value} {v : Array Value} (h : Src w0 w F av v) (hs : w.heap.size ≤ w'.heap.size) (hk : ∀ x, x < w.heap.size → (x < w0.heap.size ∨ ∃ cs, w.heap[x]? = some (.cells cs 5 (0, 0))) → w'.heap[x]? = w.heap[x]?) : Src w0 w' F av v := by
  obtain ⟨h1, g, o, cap, h2, h3, h4, h5, h6⟩ := h
  have hg := hk g h3 h6
  refine ⟨h1, g, o, cap, h2, by omega, h4, fun j u hu => (World.cell?_of_block hg).trans (h5 j u hu), ?_⟩
  rcases h6 with h6 | ⟨cs, h6⟩
  · exact .inl h6
  · exact .inr ⟨cs, hg.trans h6⟩

/-- The slice v holds the puts ps; it is the law's own, and lies behind w0. -/
def Building (w0 w : World) (F : List Nat) (v : Value) (ps : List (Int × Array Value)) : Prop :=
  ∃ qs : List (Int × Value), qs.length = ps.length ∧ w.ownsRow w0.heap.size 112 2 v qs.length (qs.flatMap putCells) ∧ ∀ (i : Nat) (q : Int × Value) (p : Int × Array Value), qs[i]? = some q → ps[i]? = some p → q.1 = p.1 ∧ Src w0 w F q.2 p.2

theorem Building.nil (w0 w : World) (F : List Nat) : Building w0 w F (.slice none 0 0) [] := ⟨[], rfl, World.ownsRow_nil _ _ _ _, by simp⟩

theorem ownsRow_congr' {w w' : World} {e : TypeId} {base size n : Nat} {v : Value} {xs : List Value} (h : w.ownsRow base e size v n xs) (he : ∀ g, v.ownBlock = some g → w'.heap[g]? = w.heap[g]?) : w'.ownsRow base e size v n xs := by
  obtain ⟨h1, h2⟩ := h
  refine ⟨h1, ?_⟩
  rcases h2 with h2 | ⟨g, cap, cur, hv, hg, hh, r⟩
  · exact .inl h2
  · exact .inr ⟨g, cap, cur, hv, hg, (he g (by rw [hv]; rfl)).trans hh, r⟩
theorem ownsRow_own {w : World} {e : TypeId} {base size n g : Nat} {v : Value} {xs : List Value} (h : w.ownsRow base e size v n xs) (hg : v.ownBlock = some g) : base ≤ g ∧ g < w.heap.size ∧ ∃ cur, w.heap[g]? = some (.cells cur e (0, 0)) := by
  obtain ⟨h1, h2⟩ := h
  rcases h2 with ⟨h2, _⟩ | ⟨g', cap, cur, hv, hb, hh, _⟩
  · rw [h2] at hg; simp [Value.ownBlock] at hg
  · rw [hv] at hg
    simp [Value.ownBlock] at hg
    subst hg
    exact ⟨hb, (Array.getElem?_eq_some_iff.1 hh).1, cur, hh⟩

theorem Building.keep {w0 w w' : World} {F : List Nat} {v : Value} {ps : List (Int × Array Value)} (h : Building w0 w F v ps) (ho : Only [] w w') : Building w0 w' F v ps := by
  obtain ⟨qs, h1, h2, h3⟩ := h
  refine ⟨qs, h1, ownsRow_congr' h2 (fun g hg => ho.block g (ownsRow_own h2 hg).2.1 (by simp)), fun i q p hq hp => ⟨(h3 i q p hq hp).1, (h3 i q p hq hp).2.keep ho.size (fun x hx _ => ho.block x hx (by simp))⟩⟩

theorem Building.slice {w0 w : World} {F : List Nat} {v : Value} {ps : List (Int × Array Value)} (h : Building w0 w F v ps) : ∃ a cap, v = .slice a ps.length cap := by
  obtain ⟨qs, h1, h2, h3⟩ := h
  rcases h2.2 with ⟨e, hn⟩ | ⟨g, cap, cur, e, _⟩
  · exact ⟨none, 0, by rw [e, ← h1, hn]⟩
  · exact ⟨_, cap, by rw [e, h1]⟩

theorem info54a : (Try.prog.info? 112).map (fun i => (i.zero, i.size, i.bytes)) = some (some (.agg #[.int .i64 0, .slice none 0 0]), 2, 32) := by kernel_rfl

/-- One put more. -/
theorem Building.append {w0 w : World} {F : List Nat} {v : Value} {ps : List (Int × Array Value)} (h : Building w0 w F v ps) (ho : Only [] w0 w) {i : Int} {av : Value} {x : Array Value} (hx : Src w0 w F av x) (hn : ps.length ≤ 100000) (ty : TypeId) :
    ∃ v' w', (Builtin.append_ #[79, 79] ty #[v, .slice (some ⟨w.heap.size, 0, none⟩) 1 1]).run Try.prog (w.alloc (.cells #[.int .i64 i, av] 112)) = .ok v' w' ∧ Building w0 w' F v' (ps ++ [(i, x)]) ∧ Only [] w0 w' ∧
      (∀ y, y < w.heap.size → v.ownBlock ≠ some y → w'.heap[y]? = w.heap[y]?) ∧ w.heap.size ≤ w'.heap.size := by
  obtain ⟨qs, h1, h2, h3⟩ := h
  obtain ⟨i0, hi, hz0, hz1, hz2⟩ := info_parts info54a
  have hav : ∃ g o cap, av = .slice (some ⟨g, o, none⟩) 64 cap := by obtain ⟨_, g, o, cap, e, _⟩ := hx; exact ⟨g, o, cap, e⟩
  have hone : ∀ u ∈ putCells (i, av), u.oneCell' = true := by
    obtain ⟨g, o, cap, rfl⟩ := hav
    intro u hu
    simp [putCells] at hu
    rcases hu with rfl | rfl <;> rfl
  have hblk := heap_alloc_last w (.cells #[.int .i64 i, av] 112)
  have SRC2 : ∀ j u, (putCells (i, av))[j]? = some u → (w.alloc (.cells #[.int .i64 i, av] 112)).cell? ((⟨w.heap.size, 0, none⟩ : Addr).add j) = some u := fun j u hu => by
    rw [Addr.add_mid, Nat.zero_add, cell_of_row _ _ _ _ _ _ hblk]
    simpa [putCells] using hu
  obtain ⟨v', w', hrun, hown, hgrow, hnil, hloc⟩ := run_append_own_at (P := Try.prog) (w.alloc (.cells #[.int .i64 i, av] 112)) w0.heap.size 79 ty 112 i0 _ 2 32 Try.underlying79 hi hz0 hz1 hz2 (by simp [Value.cells]) (by omega)
    v _ _ (World.ownsRow.alloc (w := w) h2 _) ⟨w.heap.size, 0, none⟩ 1 1 (putCells (i, av)) rfl SRC2 hone (by unfold maxLen; omega) (by omega) (by simp; exact Nat.le_succ_of_le ho.size)
  have hkeep : ∀ y, y < w.heap.size → v.ownBlock ≠ some y → w'.heap[y]? = w.heap[y]? := fun y hy hne =>
    (hgrow.block y (by simp; omega) (fun e => hne e.symm)).trans (Below.heap_alloc _ _ _ hy)
  have hsz : w.heap.size ≤ w'.heap.size := by have := hgrow.size; simp at this; omega
  have hown0 : ∀ y, v.ownBlock = some y → w0.heap.size ≤ y := fun y hy => (ownsRow_own h2 hy).1
  have hsrc : ∀ {av : Value} {x : Array Value}, Src w0 w F av x → Src w0 w' F av x := fun hs => hs.keep hsz (fun y hy hc => hkeep y hy (fun e => by
    rcases hc with hc | ⟨cs, hc⟩
    · have := hown0 y e; omega
    · obtain ⟨_, _, cur, hcur⟩ := ownsRow_own h2 e
      rw [hcur] at hc
      simp at hc))
  refine ⟨v', w', hrun, ⟨qs ++ [(i, av)], by simp [h1], ?_, ?_⟩, ?_, hkeep, hsz⟩
  · rw [List.flatMap_append, List.length_append]
    simpa using hown
  · intro j q p hq hp
    by_cases hj : j < qs.length
    · rw [List.getElem?_append_left hj] at hq
      rw [List.getElem?_append_left (by omega)] at hp
      obtain ⟨e1, e2⟩ := h3 j q p hq hp
      exact ⟨e1, hsrc e2⟩
    · rw [List.getElem?_append_right (by omega)] at hq
      rw [List.getElem?_append_right (by omega)] at hp
      have hj0 : j - qs.length = 0 := by
        have := (List.getElem?_eq_some_iff.1 hq).1
        simp at this; omega
      rw [hj0] at hq
      rw [← h1, hj0] at hp
      simp at hq hp
      subst hq hp
      exact ⟨rfl, hsrc hx⟩
  · exact (ho.alloc _).grown hgrow (fun k hk => .inr (hown0 k hk))

theorem Building.puts {w0 w : World} {F : List Nat} {v : Value} {ps : List (Int × Array Value)} (h : Building w0 w F v ps) (hF : ∀ x ∈ F, x < w0.heap.size) (hn : ps.length ≤ 1000000) : PutsAt w F v ps := by
  obtain ⟨qs, h1, h2, h3⟩ := h
  rcases h2.2 with ⟨e, hn0⟩ | ⟨g, cap, cur, e, hg, hh, _, _, hcs, hcur⟩
  · refine ⟨none, 0, by rw [e, ← h1, hn0], hn, fun i p hp => ?_⟩
    have := (List.getElem?_eq_some_iff.1 hp).1
    omega
  · refine ⟨_, cap, by rw [e, h1], hn, fun i p hp => ?_⟩
    have hi := (List.getElem?_eq_some_iff.1 hp).1
    obtain ⟨q, hq⟩ : ∃ q, qs[i]? = some q := ⟨_, List.getElem?_eq_getElem (by omega)⟩
    obtain ⟨e1, e2⟩ := h3 i q p hq hp
    obtain ⟨c0, c1⟩ := putCells_at qs i q hq
    refine ⟨g, 0, q.2, rfl, (Array.getElem?_eq_some_iff.1 hh).1, fun hx => by have := hF g hx; omega, ?_, ?_, e2.bytes⟩
    · rw [cell_of_row _ _ _ _ _ _ hh, ← e1, ← c0, ← hcur, List.getElem?_take_of_lt (by omega)]
      simp
    · rw [cell_of_row _ _ _ _ _ _ hh, ← c1, ← hcur, List.getElem?_take_of_lt (by omega)]
      simp

end Go.Proofs.Ytoccnaebckcfmaa
