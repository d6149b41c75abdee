/- Kinds of messages: bounds, pure. -/
import Derived.Test.YtjblfemkecmlmaaDoorQ2
set_option linter.unusedSimpArgs false
set_option linter.unusedVariables false
namespace Go.Proofs.YtjblfemkecmlmaaDoor
open Go.Lib

def nbq (s : Rd) : Nat := s.1.length + (if s.2 then 0 else 1)
theorem par_nb (s : Rd) (h : s.2 = false) : nbq (parR s).2 < nbq s := by
  have h1 := par_len s
  have h2 := par_less s
  unfold nbq
  cases hb : (parR s).2.2
  · have := h2 hb; simp [h]; omega
  · simp [h]; omega
theorem pars_fuel (k : Nat) : ∀ (k2 : Nat) (s : Rd) (acc : List Fld), nbq s ≤ k → k ≤ k2 → parsR k s acc = parsR k2 s acc := by
  induction k with
  | zero =>
    intro k2 s acc h _
    have hb : s.2 = true := by
      unfold nbq at h
      cases hb : s.2
      · rw [hb] at h; simp at h
      · rfl
    rw [pars_bad _ _ _ hb, pars_bad _ _ _ hb]
  | succ k ih =>
    intro k2 s acc h hk
    obtain ⟨k2, rfl⟩ : ∃ j, k2 = j + 1 := ⟨k2 - 1, by omega⟩
    unfold parsR
    by_cases hc : (s.2 || s.1.isEmpty) = true
    · rw [if_pos hc, if_pos hc]
    · rw [if_neg hc, if_neg hc]
      have hb : s.2 = false := by simp at hc; exact hc.1
      have := par_nb s hb
      exact ih k2 _ _ (by omega) (by omega)
theorem tk_val (s : Rd) : (tkR s).1.length ≤ s.1.length := by
  unfold tkR
  exact (List.takeWhile_sublist _).length_le
theorem vl_val (s : Rd) : (vlR s).1.length ≤ s.1.length := by
  unfold vlR
  split
  · rename_i t h
    split
    · rename_i v u h2
      have := (qt_len _ _ _ _ h2).2
      simp at this
      simp [h]; omega
    · simp
  · exact tk_val s
theorem par_val (s : Rd) : (parR s).1.1.length ≤ s.1.length ∧ (parR s).1.2.length ≤ s.1.length := by
  unfold parR
  exact ⟨Nat.le_trans (tk_val _) (mk_len _ _), Nat.le_trans (vl_val _) (Nat.le_trans (mk_len _ _) (Nat.le_trans (tk_len _) (mk_len _ _)))⟩
theorem pars_val (k : Nat) : ∀ (s : Rd) (acc : List Fld) (L : Nat), s.1.length ≤ L → (∀ f ∈ acc, f.1.length ≤ L ∧ f.2.length ≤ L) → ∀ f ∈ (parsR k s acc).1, f.1.length ≤ L ∧ f.2.length ≤ L := by
  induction k with
  | zero => intro s acc L _ h; exact h
  | succ k ih =>
    intro s acc L hs h
    unfold parsR
    split
    · exact h
    · refine ih _ _ L (Nat.le_trans (par_len s) hs) ?_
      intro f hf
      rcases List.mem_append.1 hf with hf | hf
      · exact h f hf
      · simp at hf
        subst hf
        have := par_val s
        omega
theorem pars_count (k : Nat) : ∀ (s : Rd) (acc : List Fld), (parsR k s acc).1.length ≤ acc.length + nbq s := by
  induction k with
  | zero => intro s acc; unfold parsR; simp
  | succ k ih =>
    intro s acc
    unfold parsR
    split
    · simp
    · rename_i hc
      have hb : s.2 = false := by simp at hc; exact hc.1
      have h1 := par_nb s hb
      have h2 := ih (parR s).2 (acc ++ [(parR s).1])
      simp at h2
      omega
theorem gtS_len (l : List UInt8) : (gtS l).length = l.length := by unfold gtS; simp
theorem smS_len (l : List UInt8) : (smS l).length = l.length := by unfold smS; simp
theorem getR_mem {F : List Fld} {n v : List UInt8} (h : getR F n = some v) : ∃ f ∈ F, f.2 = v := by
  unfold getR at h
  obtain ⟨f, h1, h2⟩ := Option.map_eq_some_iff.1 h
  exact ⟨f, List.mem_of_find?_eq_some h1, h2⟩
theorem getR_len {F : List Fld} {n : List UInt8} {L : Nat} (h : ∀ f ∈ F, f.1.length ≤ L ∧ f.2.length ≤ L) : ((getR F n).getD []).length ≤ L := by
  cases hg : getR F n with
  | none => simp
  | some v =>
    obtain ⟨f, hf, rfl⟩ := getR_mem hg
    exact (h f hf).2
theorem suffix_last (l : List UInt8) (c : UInt8) : Lib.hasSuffix l [c] = (l.getLast? == some c) := by
  unfold Lib.hasSuffix
  rw [Bool.eq_iff_iff, List.isSuffixOf_iff_suffix]
  constructor
  · rintro ⟨t, rfl⟩; simp
  · intro h
    have h' : l.getLast? = some c := by simpa using h
    cases hl : l with
    | nil => rw [hl] at h'; simp at h'
    | cons x t =>
      have hne : l ≠ [] := by rw [hl]; simp
      refine ⟨l.dropLast, ?_⟩
      rw [← hl]
      have := List.dropLast_concat_getLast hne
      rw [List.getLast?_eq_some_getLast hne] at h'
      injection h' with h'
      rw [← h']
      exact this
end Go.Proofs.YtjblfemkecmlmaaDoor
