/- The document's Stuff. -/
import Derived.Test.YtdikgifgapbocaaDoorC21
set_option linter.unusedSimpArgs false
set_option linter.unusedVariables false
namespace Go.Proofs.YtdikgifgapbocaaDoor
open Go.RowKit Go.Shelf

/-- The state of the scan ahead of byte j. -/
def St (L : List UInt8) (j q : Nat) : Prop := (q = 2 ↔ (j = 0 ∨ ∃ k, j = k + 2 ∧ L[k]? = some 13 ∧ L[k + 1]? = some 10)) ∧ (q = 1 ↔ ∃ k, j = k + 1 ∧ L[k]? = some 13)
theorem St.zero (L : List UInt8) : St L 0 2 := ⟨by simp, by simp⟩
theorem St.step {L : List UInt8} {j q : Nat} {c : UInt8} (h : St L j q) (hc : L[j]? = some c) : St L (j + 1) (nxt q c) := by
  unfold nxt
  refine ⟨⟨fun e => .inr ?_, ?_⟩, ⟨fun e => ⟨j, rfl, ?_⟩, ?_⟩⟩
  · by_cases h1 : c = 13
    · rw [if_pos h1] at e; omega
    · rw [if_neg h1] at e
      by_cases h2 : c = 10 ∧ q = 1
      · obtain ⟨k, rfl, hk⟩ := h.2.1 h2.2
        exact ⟨k, rfl, hk, by rw [hc, h2.1]⟩
      · rw [if_neg h2] at e; omega
  · rintro (e | ⟨k, e, h1, h2⟩)
    · omega
    · obtain rfl : j = k + 1 := by omega
      rw [hc] at h2
      obtain rfl := Option.some.inj h2
      rw [if_neg (by decide), if_pos ⟨rfl, h.2.2 ⟨k, rfl, h1⟩⟩]
  · by_cases h1 : c = 13
    · rw [hc, h1]
    · rw [if_neg h1] at e
      split at e <;> omega
  · rintro ⟨k, e, h1⟩
    obtain rfl : j = k := by omega
    rw [hc] at h1
    rw [if_pos (Option.some.inj h1)]
/-- What a round finds of byte j of L, and what it writes. -/
theorem dot_cases {L : List UInt8} {j q : Nat} {c : UInt8} (h : St L j q) (hc : L[j]? = some c) :
    (((c.toNat : Int) == 46) = false ∧ stm q (c :: L.drop (j + 1)) = [c] ++ stm (nxt q c) (L.drop (j + 1))) ∨
    (((c.toNat : Int) == 46) = true ∧ j = 0 ∧ stm q (c :: L.drop (j + 1)) = [46, c] ++ stm (nxt q c) (L.drop (j + 1))) ∨
    (((c.toNat : Int) == 46) = true ∧ j = 1 ∧ stm q (c :: L.drop (j + 1)) = [c] ++ stm (nxt q c) (L.drop (j + 1))) ∨
    (((c.toNat : Int) == 46) = true ∧ ∃ k d e, j = k + 2 ∧ L[k]? = some d ∧ L[k + 1]? = some e ∧ ((d.toNat : Int) == 13) = false ∧ stm q (c :: L.drop (j + 1)) = [c] ++ stm (nxt q c) (L.drop (j + 1))) ∨
    (((c.toNat : Int) == 46) = true ∧ ∃ k d e, j = k + 2 ∧ L[k]? = some d ∧ L[k + 1]? = some e ∧ ((d.toNat : Int) == 13) = true ∧ ((e.toNat : Int) == 10) = false ∧ stm q (c :: L.drop (j + 1)) = [c] ++ stm (nxt q c) (L.drop (j + 1))) ∨
    (((c.toNat : Int) == 46) = true ∧ ∃ k d e, j = k + 2 ∧ L[k]? = some d ∧ L[k + 1]? = some e ∧ ((d.toNat : Int) == 13) = true ∧ ((e.toNat : Int) == 10) = true ∧ stm q (c :: L.drop (j + 1)) = [46, c] ++ stm (nxt q c) (L.drop (j + 1))) := by
  have hb : ∀ (x : UInt8) (k : Nat), k < 256 → (((x.toNat : Int) == k) = true ↔ x = UInt8.ofNat k) := fun x k hk => by
    rw [beq_iff_eq]
    exact ⟨fun h => UInt8.toNat_inj.1 (by simp; omega), fun h => by subst h; simp; omega⟩
  have hf : ∀ (x : UInt8) (k : Nat), k < 256 → x ≠ UInt8.ofNat k → ((x.toNat : Int) == k) = false := fun x k hk h => by
    rw [← Bool.not_eq_true, hb x k hk]; exact h
  rw [stm]
  by_cases h46 : c = 46
  · have t := (hb c 46 (by omega)).2 h46
    have hj := (List.getElem?_eq_some_iff.1 hc).1
    match j, h, hc, hj with
    | 0, h, hc, hj =>
      rw [if_pos ⟨h.1.2 (.inl rfl), h46⟩]
      exact .inr (.inl ⟨t, rfl, rfl⟩)
    | 1, h, hc, hj =>
      rw [if_neg]
      · exact .inr (.inr (.inl ⟨t, rfl, rfl⟩))
      · rintro ⟨h2, _⟩
        rcases h.1.1 h2 with e | ⟨k, e, _⟩ <;> omega
    | k + 2, h, hc, hj =>
      obtain ⟨d, hd⟩ : ∃ d, L[k]? = some d := ⟨_, List.getElem?_eq_getElem (by omega)⟩
      obtain ⟨e, he⟩ : ∃ e, L[k + 1]? = some e := ⟨_, List.getElem?_eq_getElem (by omega)⟩
      by_cases h13 : d = 13
      · by_cases h10 : e = 10
        · subst h13 h10
          rw [if_pos ⟨h.1.2 (.inr ⟨k, rfl, hd, he⟩), h46⟩]
          exact .inr (.inr (.inr (.inr (.inr ⟨t, k, _, _, rfl, hd, he, rfl, rfl, rfl⟩))))
        · rw [if_neg]
          · exact .inr (.inr (.inr (.inr (.inl ⟨t, k, d, e, rfl, hd, he, (hb d 13 (by omega)).2 h13, hf e 10 (by omega) h10, rfl⟩))))
          · rintro ⟨h2, _⟩
            rcases h.1.1 h2 with e' | ⟨k', e', _, h'⟩
            · omega
            · obtain rfl : k' = k := by omega
              rw [he] at h'
              exact h10 (Option.some.inj h')
      · rw [if_neg]
        · exact .inr (.inr (.inr (.inl ⟨t, k, d, e, rfl, hd, he, hf d 13 (by omega) h13, rfl⟩)))
        · rintro ⟨h2, _⟩
          rcases h.1.1 h2 with e' | ⟨k', e', h', _⟩
          · omega
          · obtain rfl : k' = k := by omega
            rw [hd] at h'
            exact h13 (Option.some.inj h')
  · rw [if_neg (fun h => h46 h.2)]
    exact .inl ⟨hf c 46 (by omega) h46, rfl⟩
/-- What the head of Stuff finds. -/
theorem end_cases (l : List UInt8) :
    (l = [] ∧ ended l = l) ∨ (∃ c, l = [c] ∧ ended l = l ++ [13, 10]) ∨
    (∃ k d e, l.length = k + 2 ∧ l[k]? = some d ∧ l[k + 1]? = some e ∧ ((d.toNat : Int) == 13) = false ∧ ended l = l ++ [13, 10]) ∨
    (∃ k d e, l.length = k + 2 ∧ l[k]? = some d ∧ l[k + 1]? = some e ∧ ((d.toNat : Int) == 13) = true ∧ ((e.toNat : Int) == 10) = false ∧ ended l = l ++ [13, 10]) ∨
    (∃ k d e, l.length = k + 2 ∧ l[k]? = some d ∧ l[k + 1]? = some e ∧ ((d.toNat : Int) == 13) = true ∧ ((e.toNat : Int) == 10) = true ∧ ended l = l) := by
  have hb : ∀ (x : UInt8) (k : Nat), k < 256 → (((x.toNat : Int) == k) = true ↔ x = UInt8.ofNat k) := fun x k hk => by
    rw [beq_iff_eq]
    exact ⟨fun h => UInt8.toNat_inj.1 (by simp; omega), fun h => by subst h; simp; omega⟩
  have hf : ∀ (x : UInt8) (k : Nat), k < 256 → x ≠ UInt8.ofNat k → ((x.toNat : Int) == k) = false := fun x k hk h => by
    rw [← Bool.not_eq_true, hb x k hk]; exact h
  unfold ended
  by_cases h0 : l = []
  · exact .inl ⟨h0, if_pos (.inl h0)⟩
  · obtain ⟨t, e, rfl⟩ : ∃ t e, l = t ++ [e] := ⟨l.dropLast, l.getLast h0, (List.dropLast_concat_getLast h0).symm⟩
    by_cases h1 : t = []
    · subst h1
      exact .inr (.inl ⟨e, rfl, if_neg (by rintro (h | h); exact h0 h; simp [List.isSuffixOf, List.isPrefixOf] at h)⟩)
    · obtain ⟨u, d, rfl⟩ : ∃ u d, t = u ++ [d] := ⟨t.dropLast, t.getLast h1, (List.dropLast_concat_getLast h1).symm⟩
      have hl : (u ++ [d] ++ [e]).length = u.length + 2 := by simp
      have hd : (u ++ [d] ++ [e])[u.length]? = some d := by simp
      have he : (u ++ [d] ++ [e])[u.length + 1]? = some e := by simp [List.getElem?_append]
      have hs : ([13, 10] : List UInt8).isSuffixOf (u ++ [d] ++ [e]) = true ↔ d = 13 ∧ e = 10 := by
        simp [List.isSuffixOf, List.isPrefixOf]
        exact ⟨fun ⟨a, b⟩ => ⟨b.symm, a.symm⟩, fun ⟨a, b⟩ => ⟨b.symm, a.symm⟩⟩
      by_cases h13 : d = 13
      · by_cases h10 : e = 10
        · exact .inr (.inr (.inr (.inr ⟨_, d, e, hl, hd, he, (hb d 13 (by omega)).2 h13, (hb e 10 (by omega)).2 h10, if_pos (.inr (hs.2 ⟨h13, h10⟩))⟩)))
        · exact .inr (.inr (.inr (.inl ⟨_, d, e, hl, hd, he, (hb d 13 (by omega)).2 h13, hf e 10 (by omega) h10, if_neg (by rintro (h | h); exact h0 h; exact h10 (hs.1 h).2)⟩)))
      · exact .inr (.inr (.inl ⟨_, d, e, hl, hd, he, hf d 13 (by omega) h13, if_neg (by rintro (h | h); exact h0 h; exact h13 (hs.1 h).1)⟩))
theorem Bs.open' {w : World} {a : Option Addr} {l : List UInt8} (h : Bs w a l) (h0 : 0 < l.length) : ∃ b off, a = some ⟨b, off, none⟩ ∧ b < w.heap.size ∧ ∀ j x, l[j]? = some x → w.cell? ⟨b, off + j, none⟩ = some (.int .u8 x.toNat) := by
  cases l with
  | nil => simp at h0
  | cons c t => exact h.open
theorem Bs.two (w : World) : Bs (w.alloc (.cells #[.int .u8 13, .int .u8 10] 5)) (some ⟨w.heap.size, 0, none⟩) [13, 10] := by
  intro j c hj
  refine ⟨w.heap.size, 0, rfl, by simp, ?_⟩
  rw [Lib.cell_of_heap (heap_alloc_new w _)]
  match j, hj with
  | 0, hj => cases hj; rfl
  | 1, hj => cases hj; rfl
theorem Bs.three (w : World) : Bs (w.alloc (.cells #[.int .u8 46, .int .u8 13, .int .u8 10] 5)) (some ⟨w.heap.size, 0, none⟩) [46, 13, 10] := by
  intro j c hj
  refine ⟨w.heap.size, 0, rfl, by simp, ?_⟩
  rw [Lib.cell_of_heap (heap_alloc_new w _)]
  match j, hj with
  | 0, hj => cases hj; rfl
  | 1, hj => cases hj; rfl
  | 2, hj => cases hj; rfl
theorem end_cases' (l : List UInt8) :
    (l.length = 0 ∧ ended l = l) ∨ (l.length = 1 ∧ ended l = l ++ [13, 10]) ∨
    (∃ d e, 2 ≤ l.length ∧ l[l.length - 2]? = some d ∧ l[l.length - 1]? = some e ∧ ((d.toNat : Int) == 13) = false ∧ ended l = l ++ [13, 10]) ∨
    (∃ d e, 2 ≤ l.length ∧ l[l.length - 2]? = some d ∧ l[l.length - 1]? = some e ∧ ((d.toNat : Int) == 13) = true ∧ ((e.toNat : Int) == 10) = false ∧ ended l = l ++ [13, 10]) ∨
    (∃ d e, 2 ≤ l.length ∧ l[l.length - 2]? = some d ∧ l[l.length - 1]? = some e ∧ ((d.toNat : Int) == 13) = true ∧ ((e.toNat : Int) == 10) = true ∧ ended l = l) := by
  rcases end_cases l with ⟨rfl, he⟩ | ⟨c, rfl, he⟩ | ⟨k, d, e, h0, hd, hee, g1, he⟩ | ⟨k, d, e, h0, hd, hee, g1, g2, he⟩ | ⟨k, d, e, h0, hd, hee, g1, g2, he⟩
  · exact .inl ⟨rfl, he⟩
  · exact .inr (.inl ⟨rfl, he⟩)
  all_goals
    have e1 : l.length - 2 = k := by omega
    have e2 : l.length - 1 = k + 1 := by omega
    rw [e1, e2]
  · exact .inr (.inr (.inl ⟨d, e, by omega, hd, hee, g1, he⟩))
  · exact .inr (.inr (.inr (.inl ⟨d, e, by omega, hd, hee, g1, g2, he⟩)))
  · exact .inr (.inr (.inr (.inr ⟨d, e, by omega, hd, hee, g1, g2, he⟩)))
theorem dot_cases' {L : List UInt8} {j q : Nat} {c : UInt8} (h : St L j q) (hc : L[j]? = some c) : ∃ v, stm q (c :: L.drop (j + 1)) = v ++ stm (nxt q c) (L.drop (j + 1)) ∧ (
    (((c.toNat : Int) == 46) = false ∧ v = [c]) ∨
    (((c.toNat : Int) == 46) = true ∧ j = 0 ∧ v = [46, c]) ∨
    (((c.toNat : Int) == 46) = true ∧ j = 1 ∧ v = [c]) ∨
    (∃ d e, ((c.toNat : Int) == 46) = true ∧ 2 ≤ j ∧ L[j - 2]? = some d ∧ L[j - 1]? = some e ∧ ((d.toNat : Int) == 13) = false ∧ v = [c]) ∨
    (∃ d e, ((c.toNat : Int) == 46) = true ∧ 2 ≤ j ∧ L[j - 2]? = some d ∧ L[j - 1]? = some e ∧ ((d.toNat : Int) == 13) = true ∧ ((e.toNat : Int) == 10) = false ∧ v = [c]) ∨
    (∃ d e, ((c.toNat : Int) == 46) = true ∧ 2 ≤ j ∧ L[j - 2]? = some d ∧ L[j - 1]? = some e ∧ ((d.toNat : Int) == 13) = true ∧ ((e.toNat : Int) == 10) = true ∧ v = [46, c])) := by
  rcases dot_cases h hc with ⟨g, e⟩ | ⟨g, hj, e⟩ | ⟨g, hj, e⟩ | ⟨g, k, d, f, hj, hd, hf, g1, e⟩ | ⟨g, k, d, f, hj, hd, hf, g1, g2, e⟩ | ⟨g, k, d, f, hj, hd, hf, g1, g2, e⟩
  · exact ⟨_, e, .inl ⟨g, rfl⟩⟩
  · exact ⟨_, e, .inr (.inl ⟨g, hj, rfl⟩)⟩
  · exact ⟨_, e, .inr (.inr (.inl ⟨g, hj, rfl⟩))⟩
  all_goals
    refine ⟨_, e, .inr (.inr (.inr ?_))⟩
    have e1 : j - 2 = k := by omega
    have e2 : j - 1 = k + 1 := by omega
    rw [e1, e2]
  · exact .inl ⟨d, f, g, by omega, hd, hf, g1, rfl⟩
  · exact .inr (.inl ⟨d, f, g, by omega, hd, hf, g1, g2, rfl⟩)
  · exact .inr (.inr ⟨d, f, g, by omega, hd, hf, g1, g2, rfl⟩)
def RStuff (w : World) (l : List UInt8) (e : Ending) (w' : World) : Prop := ∃ a cap, e = .returned (.slice a (stuff l).length cap) ∧ Bs w' a (stuff l) ∧ (stuff l).length ≤ cap ∧ cap ≤ maxLen ∧ Below w.heap.size w w'
set_option maxHeartbeats 4000000 in
set_option maxRecDepth 1000000 in
theorem rstuff_any (a : Option Addr) (cap : Nat) (l : List UInt8) (w : World) (hc : l.length ≤ cap) (hm : cap ≤ maxLen) (hl : l.length ≤ 8388608) (hB : Bs w a l) :
    Calls Tryd.prog 18 #[.slice a l.length cap] w (RStuff w l) := by
  unfold maxLen at hm
  have hstuff : stuff l = stm 2 (ended l) ++ [46, 13, 10] := rfl
  rcases end_cases' l with ⟨h0, he⟩ | ⟨h0, he⟩ | ⟨d, e, h0, hd, hee, g1, he⟩ | ⟨d, e, h0, hd, hee, g1, g2, he⟩ | ⟨d, e, h0, hd, hee, g1, g2, he⟩
  all_goals
    rw [he] at hstuff
    have HS := Lib.hid hstuff
    have hl0 : (l.length : Int) = 0 ∨ (l.length : Int) = 1 ∨ (2 : Int) ≤ l.length := by omega
    clear he hstuff
  case inl =>
    have hl0 : ¬ 0 < l.length := by omega
    have hz := Lib.hid h0
    clear h0
    go_enter Tryd.func18, Tryd.ntmps18
    go_wp2_with (at_builtin; refine wpL_obs rfl rfl rfl (OB.made' (Below.refl _ _)) rfl rfl rfl (hB.below ((Below.refl _ _).alloc (Nat.le_refl _) _)) (by simp; omega) ?_; rw [List.nil_append, Nat.zero_add]; intro a2 c2 w2 o2)
    have hL : (l).length = l.length := by simp
    go_loopw [5, 6] (fun o i wr => ∃ (j q : Nat) (a : Option Addr) (cap : Nat) (acc : List UInt8), j ≤ l.length ∧ o = .slice a acc.length cap ∧ i = .int .i64 j ∧ OB w2 wr a cap acc ∧ Hid (acc ++ stm q ((l).drop j) = stm 2 (l)) ∧ Hid (St (l) j q) ∧ acc.length ≤ 2 * j) (fun o i wr => l.length - (intOf i).toNat)
    case atStart => exact ⟨0, 2, _, 0, [], by omega, rfl, rfl, OB.made w2 #[] 0 (by unfold maxLen; omega) rfl, Lib.hid rfl, St.zero _, by simp⟩
    case round =>
      obtain ⟨j, q, a', cap', acc, hj, rfl, rfl, hob, he, hst, hal⟩ := hrel
      by_cases hlt : j < l.length
      · omega
      · rw [List.drop_eq_nil_of_le (by omega)] at he
        have HE : Hid (acc = stm 2 (l)) := Lib.hid (by rw [← he.out]; simp [stm])
        clear he hst hL
        go_wp2_with (at_builtin; refine wpL_obs rfl rfl rfl (hob.alloc _) rfl rfl rfl (Bs.three _) (by omega) ?_; intro a5 cap5 w5 hob5)
        go_ret
        have h5 := hob5.cap
        have h6 := hob5.cells
        refine ⟨a5, cap5, ?_, ?_, ?_, h5.2, below_trans o2.bel hob5.bel⟩
        · rw [HS.out, ← HE.out]; simp
        · rw [HS.out, ← HE.out]; exact h6
        · rw [HS.out, ← HE.out]; exact h5.1
  case inr.inl =>
    have hl0 : (l.length : Int) < 2 := by omega
    have hl1 : 0 < l.length := by omega
    clear h0
    go_enter Tryd.func18, Tryd.ntmps18
    go_wp2_with (at_builtin; first | (refine wpL_obs rfl rfl rfl (OB.made' (Below.refl _ _)) rfl rfl rfl (hB.below ((Below.refl _ _).alloc (Nat.le_refl _) _)) (by simp; omega) ?_; rw [List.nil_append, Nat.zero_add]; intro a2 c2 w2 o2) | (refine wpL_obs rfl rfl rfl (o2.alloc _) rfl rfl rfl (Bs.two _) (by omega) ?_; intro a3 c3 w3 o3; obtain ⟨b3, off3, rfl, hb3, hc3⟩ := Bs.open' o3.cells (by simp)))
    have hL : (l ++ [13, 10]).length = (l.length + 2) := by simp
    go_loopw [5, 6] (fun o i wr => ∃ (j q : Nat) (a : Option Addr) (cap : Nat) (acc : List UInt8), j ≤ (l.length + 2) ∧ o = .slice a acc.length cap ∧ i = .int .i64 j ∧ OB w3 wr a cap acc ∧ Hid (acc ++ stm q ((l ++ [13, 10]).drop j) = stm 2 (l ++ [13, 10])) ∧ Hid (St (l ++ [13, 10]) j q) ∧ acc.length ≤ 2 * j) (fun o i wr => (l.length + 2) - (intOf i).toNat)
    case atStart => exact ⟨0, 2, _, 0, [], by omega, rfl, rfl, OB.made w3 #[] 0 (by unfold maxLen; omega) rfl, Lib.hid rfl, St.zero _, by simp⟩
    case round =>
      obtain ⟨j, q, a', cap', acc, hj, rfl, rfl, hob, he, hst, hal⟩ := hrel
      by_cases hlt : j < (l.length + 2)
      · obtain ⟨x, hx⟩ : ∃ x, (l ++ [13, 10])[j]? = some x := ⟨_, List.getElem?_eq_getElem (by omega)⟩
        have hrow : ∀ (i : Nat) (y : UInt8), (l ++ [13, 10])[i]? = some y → wr.cell? ⟨b3, off3 + i, none⟩ = some (.int .u8 y.toNat) := fun i y hy => by rw [hob.bel.cell (p := ⟨b3, off3 + i, none⟩) hb3]; exact hc3 i y hy
        have hcw := hrow j x hx
        have hcell := hc3 j x hx
        have hx8 := x.toNat_lt
        obtain ⟨v, hv, hcase⟩ := dot_cases' hst.out hx
        have hdr : (l ++ [13, 10]).drop j = x :: (l ++ [13, 10]).drop (j + 1) := by rw [List.drop_eq_getElem_cons (by omega)]; congr 1; exact Option.some.inj ((List.getElem?_eq_getElem (by omega)).symm.trans hx)
        have he' : Hid (acc ++ v ++ stm (nxt q x) ((l ++ [13, 10]).drop (j + 1)) = stm 2 (l ++ [13, 10])) := Lib.hid (by rw [← he.out, hdr, hv, List.append_assoc])
        have hst' : Hid (St (l ++ [13, 10]) (j + 1) (nxt q x)) := Lib.hid (hst.out.step hx)
        clear hv hdr he hst hL
        rcases hcase with ⟨g, rfl⟩ | ⟨g, hj2, rfl⟩ | ⟨g, hj2, rfl⟩ | ⟨d', e', g, hj2, hd', he2, g3, rfl⟩ | ⟨d', e', g, hj2, hd', he2, g3, g4, rfl⟩ | ⟨d', e', g, hj2, hd', he2, g3, g4, rfl⟩
        all_goals
          first
            | have r1 := hrow _ _ hd'
              have r2 := hrow _ _ he2
              have k1 : ((j : Int) == 0) = false := by rw [beq_eq_false_iff_ne]; omega
              have k2 : (2 : Int) ≤ j := by omega
            | (have k1 : ((j : Int) == 0) = false := by rw [beq_eq_false_iff_ne]; omega); (have k2 : ¬ (2 : Int) ≤ j := by omega); clear hj2
            | (have k1 : ((j : Int) == 0) = true := by rw [beq_iff_eq]; omega); clear hj2
            | skip
          clear hx hrow
          go_wp2_with (at_builtin; first | (refine wpL_obz 46 rfl rfl rfl rfl (by assumption) (by first | rfl | simp) rfl (by first | omega | (simp; omega)) ?_; intro a5 cap5 w5 hob5; have hcw5 : w5.cell? ⟨b3, off3 + j, none⟩ = some (.int .u8 x.toNat) := by rw [hob5.bel.cell (p := ⟨b3, off3 + j, none⟩) hb3]; exact hcell) | (refine wpL_ob rfl rfl rfl (by assumption) (by first | rfl | simp) rfl (by first | omega | (simp; omega)) ?_; intro a5 cap5 w5 hob5))
          exact ⟨⟨j + 1, nxt q x, a5, cap5, _, by omega, slice_eq (by simp), by go_num, hob5, Lib.hid (by first | exact he'.out | (rw [← he'.out]; simp)), hst', by simp; omega⟩, by simp [intOf]; omega⟩
      · rw [List.drop_eq_nil_of_le (by omega)] at he
        have HE : Hid (acc = stm 2 (l ++ [13, 10])) := Lib.hid (by rw [← he.out]; simp [stm])
        clear he hst hL
        go_wp2_with (at_builtin; refine wpL_obs rfl rfl rfl (hob.alloc _) rfl rfl rfl (Bs.three _) (by omega) ?_; intro a5 cap5 w5 hob5)
        go_ret
        have h5 := hob5.cap
        have h6 := hob5.cells
        refine ⟨a5, cap5, ?_, ?_, ?_, h5.2, below_trans o3.bel hob5.bel⟩
        · rw [HS.out, ← HE.out]; simp
        · rw [HS.out, ← HE.out]; exact h6
        · rw [HS.out, ← HE.out]; exact h5.1
  case inr.inr.inl =>
    have hl0 : ¬ (l.length : Int) < 2 := by omega
    have g1' : ¬ (d.toNat : Int) = 13 := by simpa using g1
    clear g1
    go_enter Tryd.func18, Tryd.ntmps18
    go_wp2_with (at_builtin; first | (refine wpL_obs rfl rfl rfl (OB.made' (Below.refl _ _)) rfl rfl rfl (hB.below ((Below.refl _ _).alloc (Nat.le_refl _) _)) (by simp; omega) ?_; rw [List.nil_append, Nat.zero_add]; intro a2 c2 w2 o2; obtain ⟨b2, off2, rfl, hb2, hc2⟩ := Bs.open' o2.cells (by omega); have q1 := hc2 _ _ hd; have q2 := hc2 _ _ hee) | (refine wpL_obs rfl rfl rfl (o2.alloc _) rfl rfl rfl (Bs.two _) (by omega) ?_; intro a3 c3 w3 o3; obtain ⟨b3, off3, rfl, hb3, hc3⟩ := Bs.open' o3.cells (by simp)))
    have hL : (l ++ [13, 10]).length = (l.length + 2) := by simp
    go_loopw [5, 6] (fun o i wr => ∃ (j q : Nat) (a : Option Addr) (cap : Nat) (acc : List UInt8), j ≤ (l.length + 2) ∧ o = .slice a acc.length cap ∧ i = .int .i64 j ∧ OB w3 wr a cap acc ∧ Hid (acc ++ stm q ((l ++ [13, 10]).drop j) = stm 2 (l ++ [13, 10])) ∧ Hid (St (l ++ [13, 10]) j q) ∧ acc.length ≤ 2 * j) (fun o i wr => (l.length + 2) - (intOf i).toNat)
    case atStart => exact ⟨0, 2, _, 0, [], by omega, rfl, rfl, OB.made w3 #[] 0 (by unfold maxLen; omega) rfl, Lib.hid rfl, St.zero _, by simp⟩
    case round =>
      obtain ⟨j, q, a', cap', acc, hj, rfl, rfl, hob, he, hst, hal⟩ := hrel
      by_cases hlt : j < (l.length + 2)
      · obtain ⟨x, hx⟩ : ∃ x, (l ++ [13, 10])[j]? = some x := ⟨_, List.getElem?_eq_getElem (by omega)⟩
        have hrow : ∀ (i : Nat) (y : UInt8), (l ++ [13, 10])[i]? = some y → wr.cell? ⟨b3, off3 + i, none⟩ = some (.int .u8 y.toNat) := fun i y hy => by rw [hob.bel.cell (p := ⟨b3, off3 + i, none⟩) hb3]; exact hc3 i y hy
        have hcw := hrow j x hx
        have hcell := hc3 j x hx
        have hx8 := x.toNat_lt
        obtain ⟨v, hv, hcase⟩ := dot_cases' hst.out hx
        have hdr : (l ++ [13, 10]).drop j = x :: (l ++ [13, 10]).drop (j + 1) := by rw [List.drop_eq_getElem_cons (by omega)]; congr 1; exact Option.some.inj ((List.getElem?_eq_getElem (by omega)).symm.trans hx)
        have he' : Hid (acc ++ v ++ stm (nxt q x) ((l ++ [13, 10]).drop (j + 1)) = stm 2 (l ++ [13, 10])) := Lib.hid (by rw [← he.out, hdr, hv, List.append_assoc])
        have hst' : Hid (St (l ++ [13, 10]) (j + 1) (nxt q x)) := Lib.hid (hst.out.step hx)
        clear hv hdr he hst hL
        rcases hcase with ⟨g, rfl⟩ | ⟨g, hj2, rfl⟩ | ⟨g, hj2, rfl⟩ | ⟨d', e', g, hj2, hd', he2, g3, rfl⟩ | ⟨d', e', g, hj2, hd', he2, g3, g4, rfl⟩ | ⟨d', e', g, hj2, hd', he2, g3, g4, rfl⟩
        all_goals
          first
            | have r1 := hrow _ _ hd'
              have r2 := hrow _ _ he2
              have k1 : ((j : Int) == 0) = false := by rw [beq_eq_false_iff_ne]; omega
              have k2 : (2 : Int) ≤ j := by omega
            | (have k1 : ((j : Int) == 0) = false := by rw [beq_eq_false_iff_ne]; omega); (have k2 : ¬ (2 : Int) ≤ j := by omega); clear hj2
            | (have k1 : ((j : Int) == 0) = true := by rw [beq_iff_eq]; omega); clear hj2
            | skip
          clear hx hrow
          go_wp2_with (at_builtin; first | (refine wpL_obz 46 rfl rfl rfl rfl (by assumption) (by first | rfl | simp) rfl (by first | omega | (simp; omega)) ?_; intro a5 cap5 w5 hob5; have hcw5 : w5.cell? ⟨b3, off3 + j, none⟩ = some (.int .u8 x.toNat) := by rw [hob5.bel.cell (p := ⟨b3, off3 + j, none⟩) hb3]; exact hcell) | (refine wpL_ob rfl rfl rfl (by assumption) (by first | rfl | simp) rfl (by first | omega | (simp; omega)) ?_; intro a5 cap5 w5 hob5))
          exact ⟨⟨j + 1, nxt q x, a5, cap5, _, by omega, slice_eq (by simp), by go_num, hob5, Lib.hid (by first | exact he'.out | (rw [← he'.out]; simp)), hst', by simp; omega⟩, by simp [intOf]; omega⟩
      · rw [List.drop_eq_nil_of_le (by omega)] at he
        have HE : Hid (acc = stm 2 (l ++ [13, 10])) := Lib.hid (by rw [← he.out]; simp [stm])
        clear he hst hL
        go_wp2_with (at_builtin; refine wpL_obs rfl rfl rfl (hob.alloc _) rfl rfl rfl (Bs.three _) (by omega) ?_; intro a5 cap5 w5 hob5)
        go_ret
        have h5 := hob5.cap
        have h6 := hob5.cells
        refine ⟨a5, cap5, ?_, ?_, ?_, h5.2, below_trans o3.bel hob5.bel⟩
        · rw [HS.out, ← HE.out]; simp
        · rw [HS.out, ← HE.out]; exact h6
        · rw [HS.out, ← HE.out]; exact h5.1
  case inr.inr.inr.inl =>
    have hl0 : ¬ (l.length : Int) < 2 := by omega
    have g1' : (d.toNat : Int) = 13 := by simpa using g1
    have g2' : ¬ (e.toNat : Int) = 10 := by simpa using g2
    clear g1 g2
    go_enter Tryd.func18, Tryd.ntmps18
    go_wp2_with (at_builtin; first | (refine wpL_obs rfl rfl rfl (OB.made' (Below.refl _ _)) rfl rfl rfl (hB.below ((Below.refl _ _).alloc (Nat.le_refl _) _)) (by simp; omega) ?_; rw [List.nil_append, Nat.zero_add]; intro a2 c2 w2 o2; obtain ⟨b2, off2, rfl, hb2, hc2⟩ := Bs.open' o2.cells (by omega); have q1 := hc2 _ _ hd; have q2 := hc2 _ _ hee) | (refine wpL_obs rfl rfl rfl (o2.alloc _) rfl rfl rfl (Bs.two _) (by omega) ?_; intro a3 c3 w3 o3; obtain ⟨b3, off3, rfl, hb3, hc3⟩ := Bs.open' o3.cells (by simp)))
    have hL : (l ++ [13, 10]).length = (l.length + 2) := by simp
    go_loopw [5, 6] (fun o i wr => ∃ (j q : Nat) (a : Option Addr) (cap : Nat) (acc : List UInt8), j ≤ (l.length + 2) ∧ o = .slice a acc.length cap ∧ i = .int .i64 j ∧ OB w3 wr a cap acc ∧ Hid (acc ++ stm q ((l ++ [13, 10]).drop j) = stm 2 (l ++ [13, 10])) ∧ Hid (St (l ++ [13, 10]) j q) ∧ acc.length ≤ 2 * j) (fun o i wr => (l.length + 2) - (intOf i).toNat)
    case atStart => exact ⟨0, 2, _, 0, [], by omega, rfl, rfl, OB.made w3 #[] 0 (by unfold maxLen; omega) rfl, Lib.hid rfl, St.zero _, by simp⟩
    case round =>
      obtain ⟨j, q, a', cap', acc, hj, rfl, rfl, hob, he, hst, hal⟩ := hrel
      by_cases hlt : j < (l.length + 2)
      · obtain ⟨x, hx⟩ : ∃ x, (l ++ [13, 10])[j]? = some x := ⟨_, List.getElem?_eq_getElem (by omega)⟩
        have hrow : ∀ (i : Nat) (y : UInt8), (l ++ [13, 10])[i]? = some y → wr.cell? ⟨b3, off3 + i, none⟩ = some (.int .u8 y.toNat) := fun i y hy => by rw [hob.bel.cell (p := ⟨b3, off3 + i, none⟩) hb3]; exact hc3 i y hy
        have hcw := hrow j x hx
        have hcell := hc3 j x hx
        have hx8 := x.toNat_lt
        obtain ⟨v, hv, hcase⟩ := dot_cases' hst.out hx
        have hdr : (l ++ [13, 10]).drop j = x :: (l ++ [13, 10]).drop (j + 1) := by rw [List.drop_eq_getElem_cons (by omega)]; congr 1; exact Option.some.inj ((List.getElem?_eq_getElem (by omega)).symm.trans hx)
        have he' : Hid (acc ++ v ++ stm (nxt q x) ((l ++ [13, 10]).drop (j + 1)) = stm 2 (l ++ [13, 10])) := Lib.hid (by rw [← he.out, hdr, hv, List.append_assoc])
        have hst' : Hid (St (l ++ [13, 10]) (j + 1) (nxt q x)) := Lib.hid (hst.out.step hx)
        clear hv hdr he hst hL
        rcases hcase with ⟨g, rfl⟩ | ⟨g, hj2, rfl⟩ | ⟨g, hj2, rfl⟩ | ⟨d', e', g, hj2, hd', he2, g3, rfl⟩ | ⟨d', e', g, hj2, hd', he2, g3, g4, rfl⟩ | ⟨d', e', g, hj2, hd', he2, g3, g4, rfl⟩
        all_goals
          first
            | have r1 := hrow _ _ hd'
              have r2 := hrow _ _ he2
              have k1 : ((j : Int) == 0) = false := by rw [beq_eq_false_iff_ne]; omega
              have k2 : (2 : Int) ≤ j := by omega
            | (have k1 : ((j : Int) == 0) = false := by rw [beq_eq_false_iff_ne]; omega); (have k2 : ¬ (2 : Int) ≤ j := by omega); clear hj2
            | (have k1 : ((j : Int) == 0) = true := by rw [beq_iff_eq]; omega); clear hj2
            | skip
          clear hx hrow
          go_wp2_with (at_builtin; first | (refine wpL_obz 46 rfl rfl rfl rfl (by assumption) (by first | rfl | simp) rfl (by first | omega | (simp; omega)) ?_; intro a5 cap5 w5 hob5; have hcw5 : w5.cell? ⟨b3, off3 + j, none⟩ = some (.int .u8 x.toNat) := by rw [hob5.bel.cell (p := ⟨b3, off3 + j, none⟩) hb3]; exact hcell) | (refine wpL_ob rfl rfl rfl (by assumption) (by first | rfl | simp) rfl (by first | omega | (simp; omega)) ?_; intro a5 cap5 w5 hob5))
          exact ⟨⟨j + 1, nxt q x, a5, cap5, _, by omega, slice_eq (by simp), by go_num, hob5, Lib.hid (by first | exact he'.out | (rw [← he'.out]; simp)), hst', by simp; omega⟩, by simp [intOf]; omega⟩
      · rw [List.drop_eq_nil_of_le (by omega)] at he
        have HE : Hid (acc = stm 2 (l ++ [13, 10])) := Lib.hid (by rw [← he.out]; simp [stm])
        clear he hst hL
        go_wp2_with (at_builtin; refine wpL_obs rfl rfl rfl (hob.alloc _) rfl rfl rfl (Bs.three _) (by omega) ?_; intro a5 cap5 w5 hob5)
        go_ret
        have h5 := hob5.cap
        have h6 := hob5.cells
        refine ⟨a5, cap5, ?_, ?_, ?_, h5.2, below_trans o3.bel hob5.bel⟩
        · rw [HS.out, ← HE.out]; simp
        · rw [HS.out, ← HE.out]; exact h6
        · rw [HS.out, ← HE.out]; exact h5.1
  case inr.inr.inr.inr =>
    have hl0 : ¬ (l.length : Int) < 2 := by omega
    have g1' : (d.toNat : Int) = 13 := by simpa using g1
    have g2' : (e.toNat : Int) = 10 := by simpa using g2
    clear g1 g2
    go_enter Tryd.func18, Tryd.ntmps18
    go_wp2_with (at_builtin; refine wpL_obs rfl rfl rfl (OB.made' (Below.refl _ _)) rfl rfl rfl (hB.below ((Below.refl _ _).alloc (Nat.le_refl _) _)) (by simp; omega) ?_; rw [List.nil_append, Nat.zero_add]; intro a2 c2 w2 o2; obtain ⟨b2, off2, rfl, hb2, hc2⟩ := Bs.open' o2.cells (by omega); have q1 := hc2 _ _ hd; have q2 := hc2 _ _ hee)
    have hL : (l).length = l.length := by simp
    go_loopw [5, 6] (fun o i wr => ∃ (j q : Nat) (a : Option Addr) (cap : Nat) (acc : List UInt8), j ≤ l.length ∧ o = .slice a acc.length cap ∧ i = .int .i64 j ∧ OB w2 wr a cap acc ∧ Hid (acc ++ stm q ((l).drop j) = stm 2 (l)) ∧ Hid (St (l) j q) ∧ acc.length ≤ 2 * j) (fun o i wr => l.length - (intOf i).toNat)
    case atStart => exact ⟨0, 2, _, 0, [], by omega, rfl, rfl, OB.made w2 #[] 0 (by unfold maxLen; omega) rfl, Lib.hid rfl, St.zero _, by simp⟩
    case round =>
      obtain ⟨j, q, a', cap', acc, hj, rfl, rfl, hob, he, hst, hal⟩ := hrel
      by_cases hlt : j < l.length
      · obtain ⟨x, hx⟩ : ∃ x, (l)[j]? = some x := ⟨_, List.getElem?_eq_getElem (by omega)⟩
        have hrow : ∀ (i : Nat) (y : UInt8), (l)[i]? = some y → wr.cell? ⟨b2, off2 + i, none⟩ = some (.int .u8 y.toNat) := fun i y hy => by rw [hob.bel.cell (p := ⟨b2, off2 + i, none⟩) hb2]; exact hc2 i y hy
        have hcw := hrow j x hx
        have hcell := hc2 j x hx
        have hx8 := x.toNat_lt
        obtain ⟨v, hv, hcase⟩ := dot_cases' hst.out hx
        have hdr : (l).drop j = x :: (l).drop (j + 1) := by rw [List.drop_eq_getElem_cons (by omega)]; congr 1; exact Option.some.inj ((List.getElem?_eq_getElem (by omega)).symm.trans hx)
        have he' : Hid (acc ++ v ++ stm (nxt q x) ((l).drop (j + 1)) = stm 2 (l)) := Lib.hid (by rw [← he.out, hdr, hv, List.append_assoc])
        have hst' : Hid (St (l) (j + 1) (nxt q x)) := Lib.hid (hst.out.step hx)
        clear hv hdr he hst hL
        rcases hcase with ⟨g, rfl⟩ | ⟨g, hj2, rfl⟩ | ⟨g, hj2, rfl⟩ | ⟨d', e', g, hj2, hd', he2, g3, rfl⟩ | ⟨d', e', g, hj2, hd', he2, g3, g4, rfl⟩ | ⟨d', e', g, hj2, hd', he2, g3, g4, rfl⟩
        all_goals
          first
            | have r1 := hrow _ _ hd'
              have r2 := hrow _ _ he2
              have k1 : ((j : Int) == 0) = false := by rw [beq_eq_false_iff_ne]; omega
              have k2 : (2 : Int) ≤ j := by omega
            | (have k1 : ((j : Int) == 0) = false := by rw [beq_eq_false_iff_ne]; omega); (have k2 : ¬ (2 : Int) ≤ j := by omega); clear hj2
            | (have k1 : ((j : Int) == 0) = true := by rw [beq_iff_eq]; omega); clear hj2
            | skip
          clear hx hrow
          go_wp2_with (at_builtin; first | (refine wpL_obz 46 rfl rfl rfl rfl (by assumption) (by first | rfl | simp) rfl (by first | omega | (simp; omega)) ?_; intro a5 cap5 w5 hob5; have hcw5 : w5.cell? ⟨b2, off2 + j, none⟩ = some (.int .u8 x.toNat) := by rw [hob5.bel.cell (p := ⟨b2, off2 + j, none⟩) hb2]; exact hcell) | (refine wpL_ob rfl rfl rfl (by assumption) (by first | rfl | simp) rfl (by first | omega | (simp; omega)) ?_; intro a5 cap5 w5 hob5))
          exact ⟨⟨j + 1, nxt q x, a5, cap5, _, by omega, slice_eq (by simp), by go_num, hob5, Lib.hid (by first | exact he'.out | (rw [← he'.out]; simp)), hst', by simp; omega⟩, by simp [intOf]; omega⟩
      · rw [List.drop_eq_nil_of_le (by omega)] at he
        have HE : Hid (acc = stm 2 (l)) := Lib.hid (by rw [← he.out]; simp [stm])
        clear he hst hL
        go_wp2_with (at_builtin; refine wpL_obs rfl rfl rfl (hob.alloc _) rfl rfl rfl (Bs.three _) (by omega) ?_; intro a5 cap5 w5 hob5)
        go_ret
        have h5 := hob5.cap
        have h6 := hob5.cells
        refine ⟨a5, cap5, ?_, ?_, ?_, h5.2, below_trans o2.bel hob5.bel⟩
        · rw [HS.out, ← HE.out]; simp
        · rw [HS.out, ← HE.out]; exact h6
        · rw [HS.out, ← HE.out]; exact h5.1
end Go.Proofs.YtdikgifgapbocaaDoor
