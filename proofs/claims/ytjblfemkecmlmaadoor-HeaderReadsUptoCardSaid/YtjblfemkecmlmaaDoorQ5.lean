/- The fields so far, pure. -/
import Derived.Test.YtjblfemkecmlmaaDoorQ4
set_option linter.unusedSimpArgs false
set_option linter.unusedVariables false
namespace Go.Proofs.YtjblfemkecmlmaaDoor
open Go.Lib

def curN (F : List Fld) : List UInt8 := (F.getLast?.map (·.1)).getD []
def curV (F : List Fld) : List UInt8 := (F.getLast?.map (·.2)).getD []
def NmOk (F : List Fld) : Prop := ∀ f ∈ F, f.1 ≠ []
theorem snoc_of {F : List Fld} (h : F ≠ []) : ∃ D f, F = D ++ [f] := ⟨F.dropLast, F.getLast h, (List.dropLast_concat_getLast h).symm⟩
theorem cur_snoc (D : List Fld) (f : Fld) : (D ++ [f]).dropLast = D ∧ curN (D ++ [f]) = f.1 ∧ curV (D ++ [f]) = f.2 := by
  unfold curN curV
  simp
theorem cur_addl {F : List Fld} (h : F ≠ []) (v : List UInt8) : (addl F v).dropLast = F.dropLast ∧ curN (addl F v) = curN F ∧ curV (addl F v) = curV F ++ v ∧ addl F v ≠ [] := by
  obtain ⟨D, f, rfl⟩ := snoc_of h
  rw [addl_snoc]
  obtain ⟨a1, a2, a3⟩ := cur_snoc D f
  obtain ⟨b1, b2, b3⟩ := cur_snoc D (f.1, f.2 ++ v)
  rw [a1, a2, a3, b1, b2, b3]
  exact ⟨rfl, rfl, rfl, by simp⟩
theorem nm_addl {F : List Fld} (h : NmOk F) (v : List UInt8) : NmOk (addl F v) := by
  cases hF : F with
  | nil => intro f hf; simp [addl] at hf
  | cons a t =>
    have hne : F ≠ [] := by rw [hF]; simp
    rw [← hF]
    obtain ⟨D, f, rfl⟩ := snoc_of hne
    rw [addl_snoc]
    intro g hg
    rcases List.mem_append.1 hg with hg | hg
    · exact h g (List.mem_append_left _ hg)
    · simp at hg
      subst hg
      exact h f (by simp)
theorem nm_cur {F : List Fld} (h : NmOk F) : curN F = [] ↔ F = [] := by
  constructor
  · intro e
    apply Classical.byContradiction
    intro hne
    obtain ⟨D, f, rfl⟩ := snoc_of hne
    rw [(cur_snoc D f).2.1] at e
    exact h f (by simp) e
  · rintro rfl; rfl
theorem at_bound {s : List UInt8} {a : Nat} (h : a ≤ s.length) : a + (lnL (s.drop a)).length ≤ s.length := by
  have := lnL_le (s.drop a)
  rw [List.length_drop] at this
  omega
theorem ln_bound (s : List UInt8) (a : Nat) : (lnL (s.drop a)).length ≤ s.length := by
  have := lnL_le (s.drop a)
  rw [List.length_drop] at this
  omega
theorem fin_len (F : List Fld) : (fin F).length ≤ 64 ∧ ((fin F).length < 64 ↔ F.length < 64) := by
  unfold fin
  rw [List.length_map, List.length_take]
  omega
/-- What the closure keeps. -/
def kpR (A : List Fld) (nm vl : List UInt8) : List Fld := if nm ≠ [] ∧ A.length < 64 then A ++ [(nm, trm vl)] else A
theorem kp_fin {F : List Fld} (h : NmOk F) : kpR (fin F.dropLast) (curN F) (curV F) = fin F := by
  unfold kpR
  by_cases hF : F = []
  · subst hF; rfl
  · obtain ⟨D, f, rfl⟩ := snoc_of hF
    obtain ⟨a1, a2, a3⟩ := cur_snoc D f
    rw [a1, a2, a3]
    have hf : f.1 ≠ [] := h f (by simp)
    by_cases hl : D.length < 64
    · rw [if_pos ⟨hf, (fin_len D).2.2 hl⟩]
      unfold fin
      rw [List.take_of_length_le (by omega), List.take_of_length_le (by simp; omega)]
      simp
    · rw [if_neg (fun e => hl ((fin_len D).2.1 e.2))]
      unfold fin
      rw [List.take_append_of_le_length (by omega)]
theorem hd_inl {k : Nat} {l : List UInt8} {at' m : Nat} {F : List Fld} {res : List Fld × Nat} (hk : l.length < k) (h : hd k l at' F = res) (hs : stepR l F = .inl m) : res = (F, at' + m) := by
  cases k with
  | zero => omega
  | succ k => rw [hd, hs] at h; exact h.symm
theorem hd_inr {k : Nat} {l : List UInt8} {at' : Nat} {F F' : List Fld} {res : List Fld × Nat} (hk : l.length < k) (h : hd k l at' F = res) (hs : stepR l F = .inr F') :
    l ≠ [] ∧ ∃ k', (l.drop (lnL l).length).length < k' ∧ hd k' (l.drop (lnL l).length) (at' + (lnL l).length) F' = res := by
  have hne : l ≠ [] := by
    rintro rfl
    rw [step_nil] at hs
    cases hs
  refine ⟨hne, ?_⟩
  have hp := lnL_pos l hne
  have hp2 := List.length_pos_iff.2 hne
  cases k with
  | zero => omega
  | succ k =>
    rw [hd, hs] at h
    exact ⟨k, by rw [List.length_drop]; omega, h⟩
end Go.Proofs.YtjblfemkecmlmaaDoor
