/- Pure part of layer 9: a phrase of words ahead of an address. -/
import Derived.Test.YtgdcdknmijeioaaDoorQ2
set_option linter.unusedSimpArgs false
set_option linter.unusedVariables false
namespace Go.Proofs.YtgdcdknmijeioaaDoor
open Go.RowKit Go.Shelf

/-- A word, and how many tabs stand behind it. -/
def wItem (p : List UInt8 × Nat) : List UInt8 := p.1 ++ List.replicate p.2 9
def wGood (p : List UInt8 × Nat) : Prop := p.1 ≠ [] ∧ (∀ c ∈ p.1, wbB c = true) ∧ p.1.length ≤ 20 ∧ p.2 ≤ 5
def wTail (ws : List (List UInt8 × Nat)) : List UInt8 := Lib.joinTail [32] (ws.map wItem) ++ [32, 60, 120, 64, 121, 46, 122, 62]
def aTail : List UInt8 := [60, 120, 64, 121, 46, 122, 62]
theorem wb_q {c : UInt8} (h : wbB c = true) : ¬ c = 34 := by
  rintro rfl
  revert h
  decide +kernel
theorem tabs_bl (n : Nat) : ∀ c ∈ List.replicate n (9 : UInt8), blB c = true := by
  intro c hc
  obtain ⟨_, rfl⟩ := List.mem_replicate.1 hc
  decide +kernel
theorem wTail_head (ws : List (List UInt8 × Nat)) : ∃ r, wTail ws = 32 :: r := by
  cases ws with
  | nil => exact ⟨_, rfl⟩
  | cons p t => exact ⟨_, by simp [wTail, Lib.joinTail]; rfl⟩
theorem wTail_cons (p : List UInt8 × Nat) (t : List (List UInt8 × Nat)) : wTail (p :: t) = 32 :: (p.1 ++ (List.replicate p.2 9 ++ wTail t)) := by simp [wTail, Lib.joinTail, wItem]
theorem good_head {p : List UInt8 × Nat} (h : wGood p) : ∃ c r, p.1 = c :: r ∧ wbB c = true := by
  obtain ⟨h1, h2, _⟩ := h
  cases hp : p.1 with
  | nil => exact absurd hp h1
  | cons c r => exact ⟨c, r, rfl, h2 c (by rw [hp]; exact List.mem_cons_self ..)⟩
theorem phr_word {p : List UInt8 × Nat} (h : wGood p) (t : List (List UInt8 × Nat)) (ht : ∀ q ∈ t, wGood q) : (p.1 ++ (List.replicate p.2 9 ++ wTail t)).takeWhile wbB = p.1 ∧ ((p.1 ++ (List.replicate p.2 9 ++ wTail t)).dropWhile wbB).dropWhile blB = (match t with | [] => aTail | q :: r => q.1 ++ (List.replicate q.2 9 ++ wTail r)) := by
  have h1 := tw_stop (p := wbB) p.1 h.2.1 (List.replicate p.2 9 ++ wTail t) (.inr (by
    obtain ⟨r, hr⟩ := wTail_head t
    cases hn : p.2 with
    | zero => exact ⟨32, r, by simp [hr], by decide +kernel⟩
    | succ n => exact ⟨9, List.replicate n 9 ++ wTail t, by simp [List.replicate_succ], by decide +kernel⟩))
  refine ⟨h1.1, ?_⟩
  rw [h1.2]
  cases t with
  | nil =>
    have h2 := tw_stop (p := blB) (List.replicate p.2 9 ++ [32]) (by
      intro c hc
      rcases List.mem_append.1 hc with hc | hc
      · exact tabs_bl _ c hc
      · simp at hc; subst hc; decide +kernel) aTail (.inr ⟨60, [120, 64, 121, 46, 122, 62], rfl, by decide +kernel⟩)
    have e : List.replicate p.2 9 ++ wTail [] = (List.replicate p.2 9 ++ [32]) ++ aTail := by simp [wTail, Lib.joinTail, aTail]
    rw [e, h2.2]
  | cons q r =>
    obtain ⟨c, r', hc, hw⟩ := good_head (ht q (List.mem_cons_self ..))
    have h2 := tw_stop (p := blB) (List.replicate p.2 9 ++ [32]) (by
      intro c hc
      rcases List.mem_append.1 hc with hc | hc
      · exact tabs_bl _ c hc
      · simp at hc; subst hc; decide +kernel) (q.1 ++ (List.replicate q.2 9 ++ wTail r)) (.inr ⟨c, r' ++ (List.replicate q.2 9 ++ wTail r), by rw [hc]; rfl, wb_bl hw⟩)
    have e : List.replicate p.2 9 ++ wTail (q :: r) = (List.replicate p.2 9 ++ [32]) ++ (q.1 ++ (List.replicate q.2 9 ++ wTail r)) := by rw [wTail_cons]; simp
    rw [e, h2.2]
theorem phr_words : ∀ (ws : List (List UInt8 × Nat)) (k : Nat) (acc : List (List UInt8)) (p : List UInt8 × Nat), wGood p → (∀ q ∈ ws, wGood q) → ws.length + 2 ≤ k →
    phr k acc (p.1 ++ (List.replicate p.2 9 ++ wTail ws)) false = (acc ++ p.1 :: ws.map Prod.fst, aTail, false)
  | ws, 0, acc, p, _, _, hk => by omega
  | ws, k + 1, acc, p, hp, hw, hk => by
    obtain ⟨c, r, hc, hwb⟩ := good_head hp
    obtain ⟨e1, e2⟩ := phr_word hp ws hw
    have hcons : p.1 ++ (List.replicate p.2 9 ++ wTail ws) = c :: (r ++ (List.replicate p.2 9 ++ wTail ws)) := by rw [hc]; rfl
    rw [hcons] at e1 e2 ⊢
    rw [phr, if_neg (wb_q hwb), if_pos hwb, e1, e2]
    cases ws with
    | nil =>
      cases k with
      | zero => omega
      | succ k =>
        unfold aTail
        rw [phr, if_neg (by decide), if_neg (by decide +kernel)]
        simp
    | cons q t =>
      dsimp only
      rw [phr_words t k (acc ++ [p.1]) q (hw q (List.mem_cons_self ..)) (fun x hx => hw x (List.mem_cons_of_mem _ hx)) (by simp at hk; omega)]
      simp
theorem list_words (ws : List (List UInt8 × Nat)) (h0 : ws ≠ []) (hg : ∀ p ∈ ws, wGood p) : listR (Lib.join (ws.map wItem) [32] ++ [32, 60, 120, 64, 121, 46, 122, 62]) = ([⟨Lib.join (ws.map Prod.fst) [32], [120], [121, 46, 122]⟩], 0) := by
  cases ws with
  | nil => exact absurd rfl h0
  | cons p t =>
    have e : Lib.join ((p :: t).map wItem) [32] ++ [32, 60, 120, 64, 121, 46, 122, 62] = p.1 ++ (List.replicate p.2 9 ++ wTail t) := by
      rw [List.map_cons, Lib.join_cons]
      simp [wTail, wItem]
    rw [e]
    have hp := hg p (List.mem_cons_self ..)
    have ht : ∀ q ∈ t, wGood q := fun q hq => hg q (List.mem_cons_of_mem _ hq)
    obtain ⟨c, r, hc, hwb⟩ := good_head hp
    have hcons : p.1 ++ (List.replicate p.2 9 ++ wTail t) = c :: (r ++ (List.replicate p.2 9 ++ wTail t)) := by rw [hc]; rfl
    have hd : (p.1 ++ (List.replicate p.2 9 ++ wTail t)).dropWhile blB = p.1 ++ (List.replicate p.2 9 ++ wTail t) := by
      rw [hcons, List.dropWhile_cons, if_neg (by rw [wb_bl hwb]; decide)]
    have hb : bareR (p.1 ++ (List.replicate p.2 9 ++ wTail t)) = false := by
      have h1 := tw_stop (p := wbB) p.1 hp.2.1 (List.replicate p.2 9 ++ wTail t) (.inr (by
        obtain ⟨r, hr⟩ := wTail_head t
        cases hn : p.2 with
        | zero => exact ⟨32, r, by simp [hr], by decide +kernel⟩
        | succ n => exact ⟨9, List.replicate n 9 ++ wTail t, by simp [List.replicate_succ], by decide +kernel⟩))
      unfold bareR
      rw [h1.2]
      obtain ⟨r, hr⟩ := wTail_head t
      cases hn : p.2 with
      | zero => simp [hr, List.isPrefixOf]
      | succ n => simp [List.replicate_succ, List.isPrefixOf]
    have hlen : t.length + 2 ≤ (p.1 ++ (List.replicate p.2 9 ++ wTail t)).length + 1 := by
      have : t.length + 8 ≤ (wTail t).length := by
        unfold wTail
        rw [List.length_append, Lib.joinTail_length]
        simp
      simp
      omega
    have hph : phraseR (p.1 ++ (List.replicate p.2 9 ++ wTail t)) false = (Lib.join ((p :: t).map Prod.fst) [32], aTail, false) := by
      unfold phraseR
      rw [phr_words t _ [] p hp ht hlen]
      simp
    have hn : namedR (p.1 ++ (List.replicate p.2 9 ++ wTail t)) false = (⟨Lib.join ((p :: t).map Prod.fst) [32], [120], [121, 46, 122]⟩, [], false) := by
      unfold namedR
      dsimp only
      rw [hph]
      dsimp only
      have e1 : tkm 60 aTail = (true, [120, 64, 121, 46, 122, 62]) := by decide +kernel
      have e2 : addrR [120, 64, 121, 46, 122, 62] false = (⟨[], [120], [121, 46, 122]⟩, [62], false) := by decide +kernel
      have e3 : tkm 62 [62] = (true, []) := by decide +kernel
      rw [e1]
      simp only [Bool.not_true, Bool.or_false]
      rw [e2]
      dsimp only
      rw [e3]
      simp
    unfold listR elemR
    dsimp only
    rw [hd, hb]
    simp only [Bool.false_eq_true, if_false]
    rw [hn]
    dsimp only
    have e4 : ∀ k : Nat, lstR (k + 1) [(⟨Lib.join ((p :: t).map Prod.fst) [32], [120], [121, 46, 122]⟩ : Ad)] (List.dropWhile blB []) false = ([⟨Lib.join ((p :: t).map Prod.fst) [32], [120], [121, 46, 122]⟩], [], false) := fun k => rfl
    rw [e4]
    simp
end Go.Proofs.YtgdcdknmijeioaaDoor
