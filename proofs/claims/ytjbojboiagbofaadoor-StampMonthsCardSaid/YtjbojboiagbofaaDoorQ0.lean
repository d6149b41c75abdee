/- Pure part of layer 8: years, months, days. -/
import Derived.Lib.Bytealg
import Derived.Lib.Hide
set_option linter.unusedSimpArgs false
set_option linter.unusedVariables false
set_option maxRecDepth 8000
namespace Go.Proofs.YtjbojboiagbofaaDoor

/-- A year by its place behind 1999 is a leap year. -/
def leap (k : Nat) : Bool := ((1999 + k) % 4 == 0) && (((1999 + k) % 100 != 0) || ((1999 + k) % 400 == 0))
def diy (k : Nat) : Nat := if leap k then 366 else 365
/-- The days of a month by its place in the year, from 0 on. -/
def dim (k j : Nat) : Nat := if j = 1 then (if leap k then 29 else 28) else if j = 3 ∨ j = 5 ∨ j = 8 ∨ j = 10 then 30 else 31
def yd : Nat → Nat
  | 0 => 0
  | k + 1 => yd k + diy k
def md (k : Nat) : Nat → Nat
  | 0 => 0
  | j + 1 => md k j + dim k j
theorem diy_ge (k : Nat) : 365 ≤ diy k := by unfold diy; split <;> omega
theorem diy_le (k : Nat) : diy k ≤ 366 := by unfold diy; split <;> omega
theorem dim_ge (k j : Nat) : 28 ≤ dim k j := by unfold dim; (repeat' split) <;> omega
theorem dim_le (k j : Nat) : dim k j ≤ 31 := by unfold dim; (repeat' split) <;> omega
theorem md_12 (k : Nat) : md k 12 = diy k := by
  unfold diy
  simp only [md, dim]
  cases leap k <;> simp
theorem md_mono (k : Nat) {i j : Nat} (h : i ≤ j) : md k i ≤ md k j := by
  induction h with
  | refl => exact Nat.le_refl _
  | step h ih => rename_i m; show _ ≤ md k m + dim k m; omega
theorem yd_mono {i j : Nat} (h : i ≤ j) : yd i ≤ yd j := by
  induction h with
  | refl => exact Nat.le_refl _
  | step h ih => rename_i m; show _ ≤ yd m + diy m; omega
theorem yd_ge (k : Nat) : 365 * k ≤ yd k := by
  induction k with
  | zero => exact Nat.le_refl _
  | succ k ih => have := diy_ge k; show _ ≤ yd k + diy k; omega
theorem yd_le (k : Nat) : yd k ≤ 366 * k := by
  induction k with
  | zero => exact Nat.le_refl _
  | succ k ih => have := diy_le k; show yd k + diy k ≤ _; omega

/-- So many days behind the first of 1999: year, month and day, each from 0 on. -/
structure IsDate (n k j d : Nat) : Prop where
  sum : n = yd k + md k j + d
  mon : j < 12
  day : d < dim k j
theorem IsDate.year {n k j d : Nat} (h : IsDate n k j d) : yd k ≤ n ∧ n < yd (k + 1) := by
  have h1 := h.sum
  have h2 := h.day
  have h3 := md_mono k (i := j + 1) (j := 12) h.mon
  rw [md_12] at h3
  have h4 : md k (j + 1) = md k j + dim k j := rfl
  refine ⟨by omega, ?_⟩
  show n < yd k + diy k
  omega
theorem IsDate.of_year {n k j d k' : Nat} (h : IsDate n k j d) (h1 : yd k' ≤ n) (h2 : n < yd (k' + 1)) : k' = k := by
  have hy := h.year
  rcases Nat.lt_trichotomy k k' with q | q | q
  · have := yd_mono (i := k + 1) (j := k') q; omega
  · exact q.symm
  · have := yd_mono (i := k' + 1) (j := k) q; omega
theorem IsDate.of_month {n k j d j' : Nat} (h : IsDate n k j d) (h1 : yd k + md k j' ≤ n) (h2 : n < yd k + md k (j' + 1)) : j' = j := by
  have hs := h.sum
  have hd := h.day
  rcases Nat.lt_trichotomy j j' with q | q | q
  · have := md_mono k (i := j + 1) (j := j') q
    have h4 : md k (j + 1) = md k j + dim k j := rfl
    omega
  · exact q.symm
  · have := md_mono k (i := j' + 1) (j := j) q; omega
theorem IsDate.unique {n k j d k' j' d' : Nat} (h : IsDate n k j d) (h' : IsDate n k' j' d') : k' = k ∧ j' = j ∧ d' = d := by
  have hy := h'.year
  obtain rfl := h.of_year hy.1 hy.2
  have hs := h.sum
  have hs' := h'.sum
  have hd' := h'.day
  have h4 : md k' (j' + 1) = md k' j' + dim k' j' := rfl
  obtain rfl := h.of_month (j' := j') (by omega) (by omega)
  exact ⟨rfl, rfl, by omega⟩
theorem IsDate.next {n k j d : Nat} (h : IsDate n k j d) : (d + 1 < dim k j ∧ IsDate (n + 1) k j (d + 1)) ∨ (d + 1 = dim k j ∧ j + 1 < 12 ∧ IsDate (n + 1) k (j + 1) 0) ∨ (d + 1 = dim k j ∧ j = 11 ∧ IsDate (n + 1) (k + 1) 0 0) := by
  have hs := h.sum
  have hd := h.day
  have hm := h.mon
  by_cases h1 : d + 1 < dim k j
  · exact .inl ⟨h1, by omega, hm, h1⟩
  · have h4 : md k (j + 1) = md k j + dim k j := rfl
    by_cases h2 : j + 1 < 12
    · exact .inr (.inl ⟨by omega, h2, by omega, h2, by have := dim_ge k (j + 1); omega⟩)
    · obtain rfl : j = 11 := by omega
      refine .inr (.inr ⟨by omega, rfl, ?_, by omega, by have := dim_ge (k + 1) 0; omega⟩)
      have h5 : md k (11 + 1) = diy k := md_12 k
      show n + 1 = yd k + diy k + 0 + 0
      omega
theorem date_ex (n : Nat) : ∃ k j d, IsDate n k j d := by
  induction n with
  | zero => exact ⟨0, 0, 0, rfl, by omega, by decide⟩
  | succ n ih =>
    obtain ⟨k, j, d, h⟩ := ih
    rcases h.next with ⟨_, h⟩ | ⟨_, _, h⟩ | ⟨_, _, h⟩ <;> exact ⟨_, _, _, h⟩
/-- The greater day has the greater date. -/
theorem IsDate.order {n k j d n' k' j' d' : Nat} (h : IsDate n k j d) (h' : IsDate n' k' j' d') (hn : n < n') : k < k' ∨ (k = k' ∧ (j < j' ∨ (j = j' ∧ d < d'))) := by
  have hy := h.year
  have hy' := h'.year
  rcases Nat.lt_trichotomy k k' with q | q | q
  · exact .inl q
  · subst q
    refine .inr ⟨rfl, ?_⟩
    have hs := h.sum
    have hs' := h'.sum
    have hd := h.day
    have hd' := h'.day
    rcases Nat.lt_trichotomy j j' with q | q | q
    · exact .inl q
    · subst q; exact .inr ⟨rfl, by omega⟩
    · have := md_mono k (i := j' + 1) (j := j) q
      have h4 : md k (j' + 1) = md k j' + dim k j' := rfl
      omega
  · have := yd_mono (i := k' + 1) (j := k) q; omega
/-- The moments' days: the years are 2000 to 2136. -/
theorem IsDate.small {n k j d : Nat} (h : IsDate (n + 365) k j d) (hn : n < 49711) : 1 ≤ k ∧ k ≤ 137 := by
  have hy := h.year
  refine ⟨?_, ?_⟩
  · rcases Nat.eq_zero_or_pos k with q | q
    · subst q
      have : yd (0 + 1) = 365 := by decide
      omega
    · exact q
  · rcases Nat.lt_or_ge 137 k with q | q
    · have h1 := yd_mono (i := 138) (j := k) q
      have : yd 138 = 50404 := by decide +kernel
      omega
    · exact q
end Go.Proofs.YtjbojboiagbofaaDoor
