/- Lines, as the document goes through them, pure. -/
import Derived.Test.YtjblfemkecmlmaaDoorQ5
set_option linter.unusedSimpArgs false
set_option linter.unusedVariables false
namespace Go.Proofs.YtjblfemkecmlmaaDoor
open Go.Lib

/-- From i on the line is as it is from at on. -/
def LnI (s : List UInt8) (at_ i : Nat) : Prop := (lb (s.drop at_)).1.length = i - at_ + (lb (s.drop i)).1.length ∧ (lb (s.drop at_)).2 = (lb (s.drop i)).2
theorem LnI.start (s : List UInt8) (at_ : Nat) : LnI s at_ at_ := ⟨by omega, rfl⟩
theorem drop2 {s : List UInt8} {i : Nat} (h : i < s.length) : s.drop i = s[i] :: s.drop (i + 1) := by rw [List.drop_eq_getElem_cons h]
theorem LnI.next {s : List UInt8} {at_ i : Nat} (hI : LnI s at_ i) (hi : at_ ≤ i) (h : i < s.length) (hc : ¬ (s[i] = 13 ∧ s[i + 1]? = some 10)) : LnI s at_ (i + 1) := by
  unfold LnI at hI ⊢
  rw [drop2 h, lb_cons, if_neg (by rw [List.head?_drop]; exact hc)] at hI
  simp only [List.length_cons] at hI
  exact ⟨by omega, hI.2⟩
theorem ln_len (s : List UInt8) : (lnL s).length = (lb s).1.length + if (lb s).2 then 2 else 0 := by
  unfold lnL
  rw [List.length_append]
  cases (lb s).2 <;> simp [crlfL]
theorem LnI.found {s : List UInt8} {at_ i : Nat} (hI : LnI s at_ i) (hi : at_ ≤ i) (h : i < s.length) (hc : s[i] = 13 ∧ s[i + 1]? = some 10) : i = at_ + (lb (s.drop at_)).1.length ∧ i + 2 = at_ + (lnL (s.drop at_)).length := by
  unfold LnI at hI
  rw [drop2 h, lb_cons, if_pos (by rw [List.head?_drop]; exact hc)] at hI
  rw [ln_len, hI.2]
  simp only [List.length_nil] at hI
  simp only [if_true]
  omega
theorem LnI.over {s : List UInt8} {at_ i : Nat} (hI : LnI s at_ i) (hi : at_ ≤ i) (h : s.length ≤ i + 1) (hn : i ≤ s.length) : s.length = at_ + (lb (s.drop at_)).1.length ∧ s.length = at_ + (lnL (s.drop at_)).length := by
  unfold LnI at hI
  by_cases he : i < s.length
  · rw [drop2 he, lb_cons, if_neg (by rw [List.head?_drop, List.getElem?_eq_none (by omega)]; simp), show s.drop (i + 1) = [] from List.drop_eq_nil_of_le h] at hI
    rw [ln_len, hI.2]
    simp only [lb, List.length_cons, List.length_nil] at hI
    simp only [lb, Bool.false_eq_true, if_false]
    omega
  · rw [show s.drop i = [] from List.drop_eq_nil_of_le (by omega)] at hI
    rw [ln_len, hI.2]
    simp only [lb, List.length_nil] at hI
    simp only [lb, Bool.false_eq_true, if_false]
    omega
/-- The fields that are kept. -/
theorem take_more (F : List Fld) (f : Fld) : (F ++ [f]).take 64 = if F.length < 64 then F.take 64 ++ [f] else F.take 64 := by
  split
  · rename_i h
    rw [List.take_of_length_le (by simp; omega), List.take_of_length_le (by omega)]
  · rename_i h
    rw [List.take_append_of_le_length (by omega)]
theorem take_addl (F : List Fld) (v : List UInt8) : (addl F v).take 64 = if F.length ≤ 64 then addl (F.take 64) v else F.take 64 := by
  by_cases h : F.length ≤ 64
  · rw [if_pos h, List.take_of_length_le (by rw [addl_len]; exact h), List.take_of_length_le h]
  · rw [if_neg h]
    have hne : F ≠ [] := by intro e; subst e; simp at h
    obtain ⟨A, f, rfl⟩ : ∃ A f, F = A ++ [f] := ⟨F.dropLast, F.getLast hne, (List.dropLast_concat_getLast hne).symm⟩
    rw [addl_snoc]
    simp at h
    rw [List.take_append_of_le_length (by omega), List.take_append_of_le_length (by omega)]
end Go.Proofs.YtjblfemkecmlmaaDoor
