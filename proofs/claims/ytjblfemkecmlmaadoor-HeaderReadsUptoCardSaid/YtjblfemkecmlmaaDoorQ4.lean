/- Lines, as the code takes them, pure. -/
import Derived.Test.YtjblfemkecmlmaaDoorQ3
import Derived.Lib.Index
set_option linter.unusedSimpArgs false
set_option linter.unusedVariables false
namespace Go.Proofs.YtjblfemkecmlmaaDoor
open Go.Lib

theorem pre_crlf (c : UInt8) (t : List UInt8) : List.isPrefixOf [13, 10] (c :: t) = decide (c = 13 ∧ t.head? = some 10) := by
  cases t with
  | nil => simp [List.isPrefixOf]
  | cons d u =>
    simp only [List.isPrefixOf, List.head?_cons, Bool.and_true]
    by_cases h1 : c = 13
    · by_cases h2 : d = 10
      · simp [h1, h2]
      · have h2' : ¬ 10 = d := fun e => h2 e.symm
        simp [h1, h2, h2']
    · have h1' : ¬ 13 = c := fun e => h1 e.symm
      simp [h1, h1']
theorem index_lb (l : List UInt8) : Lib.index l [13, 10] = if (lb l).2 then ((lb l).1.length : Int) else -1 := by
  induction l with
  | nil => rfl
  | cons c t ih =>
    rw [lb_cons]
    unfold Lib.index
    rw [pre_crlf]
    by_cases h : c = 13 ∧ t.head? = some 10
    · rw [if_pos (by simpa using h), if_pos h]
      rfl
    · rw [if_neg (by simpa using h), if_neg h, ih]
      cases (lb t).2
      · rfl
      · simp only [if_true, List.length_cons]
        rw [if_neg]
        · omega
        · intro e; have := beq_iff_eq.1 e; omega
theorem lb_whole {l : List UInt8} (h : (lb l).2 = false) : (lb l).1 = l := by
  have := lnL_prefix l
  unfold lnL at this
  rw [h] at this
  simp only [Bool.false_eq_true, if_false, List.append_nil] at this
  have h2 := congrArg List.length this
  rw [List.length_append, List.length_drop] at h2
  induction l with
  | nil => rfl
  | cons c t ih =>
    rw [lb_cons] at h ⊢
    split at h
    · simp at h
    · rename_i hc
      rw [if_neg hc]
      simp only at h ⊢
      have e := lnL_prefix t
      unfold lnL at e
      rw [h] at e
      simp only [Bool.false_eq_true, if_false, List.append_nil] at e
      have e2 := congrArg List.length e
      rw [List.length_append, List.length_drop] at e2
      rw [ih h e e2]
theorem ln_whole {l : List UInt8} (h : (lb l).2 = false) : lnL l = l := by
  unfold lnL
  rw [h, lb_whole h]
  simp
theorem ln_take {l : List UInt8} (h : (lb l).2 = true) : l.take ((lb l).1.length + 2) = lnL l ∧ (lb l).1.length + 2 ≤ l.length := by
  have e := lnL_prefix l
  have hl : (lnL l).length = (lb l).1.length + 2 := by unfold lnL; rw [h]; simp [crlfL]
  constructor
  · rw [← hl]
    have e2 : (lnL l ++ l.drop (lnL l).length).take (lnL l).length = lnL l := List.take_left' rfl
    rw [e] at e2
    exact e2
  · have := lnL_le l
    omega
theorem nm_cr : nmB 13 = false := by decide
theorem tw_app (x : List UInt8) : (x ++ [13, 10]).takeWhile nmB = x.takeWhile nmB := by
  induction x with
  | nil => rfl
  | cons c t ih =>
    rw [List.cons_append, List.takeWhile_cons, List.takeWhile_cons, ih]
theorem nsz_line (l : List UInt8) : nsz (lnL l) = nsz (lb l).1 := by
  unfold lnL
  cases hb : (lb l).2
  · simp
  · simp only [if_true]
    unfold nsz crlfL
    rw [tw_app]
    have hle : ((lb l).1.takeWhile nmB).length ≤ (lb l).1.length := (List.takeWhile_sublist _).length_le
    by_cases h : ((lb l).1.takeWhile nmB).length < (lb l).1.length
    · rw [List.getElem?_append_left h]
    · have he : ((lb l).1.takeWhile nmB).length = (lb l).1.length := by omega
      rw [he, List.getElem?_append_right (Nat.le_refl _)]
      simp
theorem nsz_lt {x : List UInt8} (h : nsz x ≠ 0) : nsz x < x.length ∧ x[nsz x]? = some 58 := by
  unfold nsz at h ⊢
  split at h
  · rename_i h2
    rw [if_pos h2]
    exact ⟨(List.getElem?_eq_some_iff.1 h2).1, h2⟩
  · exact absurd rfl h
theorem lb_le (l : List UInt8) : (lb l).1.length ≤ (lnL l).length := by unfold lnL; rw [List.length_append]; omega
theorem ln_drop (l : List UInt8) (k : Nat) (hk : k ≤ (lb l).1.length) : (lnL l).drop k = (lb l).1.drop k ++ (if (lb l).2 then crlfL else []) := by
  unfold lnL
  rw [List.drop_append_of_le_length hk]
theorem ln_taken (l : List UInt8) (k : Nat) (hk : k ≤ (lb l).1.length) : (lnL l).take k = (lb l).1.take k := by
  unfold lnL
  rw [List.take_append_of_le_length hk]
theorem trimSuf_line (l : List UInt8) (k : Nat) (hk : k ≤ (lb l).1.length) : Lib.trimSuffix ((lnL l).drop k) [13, 10] = (lb l).1.drop k := by
  rw [ln_drop l k hk]
  unfold Lib.trimSuffix
  cases hb : (lb l).2
  · simp only [Bool.false_eq_true, if_false, List.append_nil]
    rw [if_neg]
    intro h
    unfold Lib.hasSuffix at h
    rw [List.isSuffixOf_iff_suffix] at h
    obtain ⟨t, ht⟩ := h
    have hno := lb_no l (k + t.length)
    have g1 : (lb l).1[k + t.length]? = some 13 := by rw [← List.getElem?_drop, ← ht]; simp
    have g2 : (lb l).1[k + t.length + 1]? = some 10 := by rw [Nat.add_assoc, ← List.getElem?_drop, ← ht]; simp
    exact hno g1 g2
  · simp only [if_true]
    rw [if_pos]
    · unfold crlfL
      rw [List.length_append]
      simp
    · unfold Lib.hasSuffix crlfL
      rw [List.isSuffixOf_iff_suffix]
      exact ⟨_, rfl⟩
/-- Does the line begin with a blank? -/
def bgB (l : List UInt8) : Bool := (lnL l).head?.map blB == some true
theorem bgB_eq (l : List UInt8) : bgB l = true ↔ ((lb l).1.head?.map blB) = some true := by
  unfold bgB lnL
  cases hx : (lb l).1 with
  | nil =>
    cases (lb l).2 <;> simp [crlfL, blB]
  | cons c t => simp
theorem crlf_eq (l : List UInt8) : (lnL l == [13, 10]) = true ↔ ((lb l).1 = [] ∧ (lb l).2 = true) := by
  unfold lnL crlfL
  cases hx : (lb l).1 with
  | nil => cases (lb l).2 <;> simp
  | cons c t =>
    simp only [List.cons_append, beq_iff_eq]
    constructor
    · intro e
      have hno := lb_no l
      rw [hx] at hno
      exfalso
      cases hb : (lb l).2
      · rw [hb] at e
        simp at e
        obtain ⟨rfl, rfl⟩ := e
        exact hno 0 rfl rfl
      · rw [hb] at e
        have := congrArg List.length e
        simp at this
    · intro e; simp at e
/-- What one line does, as the code asks for it. -/
theorem step_cases (l : List UInt8) (F : List Fld) :
    ((lnL l == [13, 10]) = true ∧ stepR l F = .inl 2) ∨
    ((lnL l == [13, 10]) = false ∧ bgB l = true ∧ F ≠ [] ∧ stepR l F = .inr (addl F (lb l).1)) ∨
    ((lnL l == [13, 10]) = false ∧ (bgB l = false ∨ F = []) ∧ nsz (lnL l) = 0 ∧ stepR l F = .inl 0) ∨
    ((lnL l == [13, 10]) = false ∧ (bgB l = false ∨ F = []) ∧ nsz (lnL l) ≠ 0 ∧ nsz (lnL l) < (lb l).1.length ∧ stepR l F = .inr (F ++ [((lnL l).take (nsz (lnL l)), (lb l).1.drop (nsz (lnL l) + 1))])) := by
  unfold stepR
  dsimp only
  by_cases h1 : (lb l).1 = [] ∧ (lb l).2 = true
  · exact .inl ⟨(crlf_eq l).2 h1, by rw [if_pos h1]⟩
  · have h1' : (lnL l == [13, 10]) = false := by
      cases h : lnL l == [13, 10]
      · rfl
      · exact absurd ((crlf_eq l).1 h) h1
    rw [if_neg h1, h1']
    by_cases h2 : ((lb l).1.head?.map blB) = some true ∧ F ≠ []
    · exact .inr (.inl ⟨rfl, (bgB_eq l).2 h2.1, h2.2, by rw [if_pos h2]⟩)
    · have h2' : bgB l = false ∨ F = [] := by
        cases hb : bgB l
        · exact .inl rfl
        · refine .inr (Classical.byContradiction fun hF => h2 ⟨(bgB_eq l).1 hb, hF⟩)
      rw [if_neg h2, nsz_line]
      by_cases h3 : nsz (lb l).1 = 0
      · exact .inr (.inr (.inl ⟨rfl, h2', h3, by rw [if_pos h3]⟩))
      · have := nsz_lt h3
        exact .inr (.inr (.inr ⟨rfl, h2', h3, this.1, by rw [if_neg h3, ln_taken _ _ (by omega)]⟩))
end Go.Proofs.YtjblfemkecmlmaaDoor
