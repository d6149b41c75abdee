/- One line, as the document asks, pure. -/
import Derived.Test.YtjblfemkecmlmaaDoorQ8
set_option linter.unusedSimpArgs false
set_option linter.unusedVariables false
namespace Go.Proofs.YtjblfemkecmlmaaDoor
open Go.Lib

theorem lb_take (l : List UInt8) : l.take (lb l).1.length = (lb l).1 := by
  have e := lnL_prefix l
  unfold lnL at e
  have e2 : (((lb l).1 ++ (if (lb l).2 then crlfL else [])) ++ l.drop ((lb l).1 ++ (if (lb l).2 then crlfL else [])).length).take (lb l).1.length = (lb l).1 := by
    rw [List.append_assoc]
    exact List.take_left' rfl
  rw [e] at e2
  exact e2
theorem lb_at (l : List UInt8) (j : Nat) (h : j < (lb l).1.length) : l[j]? = (lb l).1[j]? := by
  conv => rhs; rw [← lb_take l]
  rw [List.getElem?_take_of_lt h]
def nmLen (x : List UInt8) : Nat := (x.takeWhile nmB).length
theorem bl_nm {c : UInt8} (h : blB c = true) : nmB c = false ∧ c ≠ 58 := by
  unfold blB at h
  simp at h
  rcases h with rfl | rfl <;> exact ⟨by decide, by decide⟩
theorem dstep (l : List UInt8) (F : List Fld) (hl : l ≠ []) :
    ((lb l).1 = [] ∧ (lb l).2 = true ∧ stepR l F = .inl 2) ∨
    (∃ c, (lb l).1 ≠ [] ∧ l[0]? = some c ∧
      ((blB c = true ∧ F = [] ∧ stepR l F = .inl 0) ∨ (blB c = true ∧ F ≠ [] ∧ stepR l F = .inr (addl F (lb l).1)) ∨
       (blB c = false ∧ ((nmLen (lb l).1 = 0 ∨ nmLen (lb l).1 = (lb l).1.length ∨ (∃ d, (lb l).1[nmLen (lb l).1]? = some d ∧ d ≠ 58)) → stepR l F = .inl 0) ∧
        (nmLen (lb l).1 ≠ 0 → (lb l).1[nmLen (lb l).1]? = some 58 → stepR l F = .inr (F ++ [((lb l).1.take (nmLen (lb l).1), (lb l).1.drop (nmLen (lb l).1 + 1))]))))) := by
  unfold stepR nmLen
  dsimp only
  by_cases h1 : (lb l).1 = []
  · refine .inl ⟨h1, ?_⟩
    cases h2 : (lb l).2
    · exact absurd (lb_nil h1 h2) hl
    · exact ⟨rfl, by rw [if_pos ⟨h1, rfl⟩]⟩
  · refine .inr ?_
    obtain ⟨c, t, hx⟩ : ∃ c t, (lb l).1 = c :: t := by
      cases h : (lb l).1 with
      | nil => exact absurd h h1
      | cons c t => exact ⟨c, t, rfl⟩
    refine ⟨c, h1, by rw [lb_at l 0 (by rw [hx]; simp), hx]; rfl, ?_⟩
    rw [if_neg (fun e => h1 e.1)]
    have hh : ((lb l).1.head?.map blB) = some (blB c) := by rw [hx]; rfl
    generalize (lb l).1 = x at *
    rcases Bool.eq_false_or_eq_true (blB c) with hb | hb
    · rw [hb] at hh
      by_cases hF : F = []
      · refine .inl ⟨hb, hF, ?_⟩
        rw [if_neg (fun e => e.2 hF), if_pos]
        unfold nsz
        obtain ⟨h2, h3⟩ := bl_nm hb
        rw [hx, List.takeWhile_cons, h2]
        simp [h3]
      · exact .inr (.inl ⟨hb, hF, by rw [if_pos ⟨hh, hF⟩]⟩)
    · rw [hb] at hh
      have hn : ¬ (Option.map blB x.head? = some true ∧ F ≠ []) := by rw [hh]; simp
      refine .inr (.inr ⟨hb, fun h => ?_, fun h h2 => ?_⟩)
      · rw [if_neg hn, if_pos]
        unfold nsz
        rcases h with h | h | ⟨d, h, hd⟩
        · rw [h]; split <;> rfl
        · rw [h, List.getElem?_eq_none (Nat.le_refl _)]; simp
        · rw [h, if_neg (by simpa using hd)]
      · have e : nsz x = (x.takeWhile nmB).length := by unfold nsz; rw [if_pos h2]
        rw [if_neg hn, e, if_neg h]
/-- Values are no longer than what has been read. -/
def VLe (n : Nat) (F : List Fld) : Prop := ∀ f ∈ F, f.2.length ≤ n
theorem VLe.take {n k : Nat} {F : List Fld} (h : VLe n F) : VLe n (F.take k) := fun f hf => h f (List.mem_of_mem_take hf)
theorem VLe.more {n m : Nat} {F : List Fld} (h : VLe n F) (f : Fld) (hf : f.2.length ≤ m) (hm : n ≤ m) : VLe m (F ++ [f]) := fun g hg => by
  rcases List.mem_append.1 hg with hg | hg
  · exact Nat.le_trans (h g hg) hm
  · simp at hg; subst hg; exact hf
theorem VLe.addl {n m : Nat} {F : List Fld} (h : VLe n F) (v : List UInt8) (hm : n + v.length ≤ m) : VLe m (addl F v) := by
  rcases (show F = [] ∨ ∃ A f, F = A ++ [f] from by
    by_cases e : F = []
    · exact .inl e
    · exact .inr ⟨F.dropLast, F.getLast e, (List.dropLast_concat_getLast e).symm⟩) with rfl | ⟨A, f, rfl⟩
  · intro g hg; simp [Go.Proofs.YtjblfemkecmlmaaDoor.addl] at hg
  · rw [addl_snoc]
    intro g hg
    rcases List.mem_append.1 hg with hg | hg
    · have := h g (by simp [hg]); omega
    · simp at hg; subst hg
      have := h f (by simp)
      rw [List.length_append]; omega
/-- The way so far. -/
def HdI (s : List UInt8) (at_ : Nat) (F : List Fld) : Prop := at_ ≤ s.length ∧ F.length ≤ at_ ∧ VLe at_ F ∧ ∃ k, s.length - at_ < k ∧ hd (s.length + 1) s 0 [] = hd k (s.drop at_) at_ F
theorem HdI.start (s : List UInt8) : HdI s 0 [] := ⟨Nat.zero_le _, by simp, fun f hf => by simp at hf, s.length + 1, by omega, rfl⟩
theorem HdI.over {s : List UInt8} {F : List Fld} {at_ : Nat} (h : HdI s at_ F) (ha : s.length ≤ at_) : hd (s.length + 1) s 0 [] = (F, at_) := by
  obtain ⟨_, _, _, k, hk, e⟩ := h
  obtain ⟨k', rfl⟩ : ∃ k', k = k' + 1 := ⟨k - 1, by omega⟩
  rw [e, show s.drop at_ = [] from List.drop_eq_nil_of_le ha, hd, step_nil]
  rfl
theorem HdI.stop {s : List UInt8} {F : List Fld} {at_ n : Nat} (h : HdI s at_ F) (hs : stepR (s.drop at_) F = .inl n) : hd (s.length + 1) s 0 [] = (F, at_ + n) := by
  obtain ⟨_, _, _, k, hk, e⟩ := h
  obtain ⟨k', rfl⟩ : ∃ k', k = k' + 1 := ⟨k - 1, by omega⟩
  rw [e, hd, hs]
theorem HdI.go {s : List UInt8} {F F' : List Fld} {at_ : Nat} (h : HdI s at_ F) (ha : at_ < s.length) (hs : stepR (s.drop at_) F = .inr F') (hl : F'.length ≤ F.length + 1) (hv : VLe (at_ + (lb (s.drop at_)).1.length) F') : HdI s (at_ + (lnL (s.drop at_)).length) F' := by
  obtain ⟨h1, h2, h3, k, hk, e⟩ := h
  obtain ⟨k', rfl⟩ : ∃ k', k = k' + 1 := ⟨k - 1, by omega⟩
  have hp := lnL_pos (s.drop at_) (by intro e; have := congrArg List.length e; simp at this; omega)
  have hle := lnL_le (s.drop at_)
  rw [List.length_drop] at hle
  refine ⟨by omega, by omega, fun f hf => Nat.le_trans (hv f hf) (by have := lb_le (s.drop at_); omega), k', by omega, ?_⟩
  rw [e, hd, hs]
  simp only [List.drop_drop]
end Go.Proofs.YtjblfemkecmlmaaDoor
