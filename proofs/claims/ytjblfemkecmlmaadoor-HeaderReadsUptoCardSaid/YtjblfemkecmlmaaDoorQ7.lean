/- Fields that are written are read as they were, pure. -/
import Derived.Test.YtjblfemkecmlmaaDoorQ6
set_option linter.unusedSimpArgs false
set_option linter.unusedVariables false
namespace Go.Proofs.YtjblfemkecmlmaaDoor
open Go.Lib

/-- A field that may be written in one line. -/
structure GoodF (f : Fld) : Prop where
  name : f.1.all nmB = true
  ne : f.1 ≠ []
  cr : ∀ c ∈ f.2, c ≠ 13
  head : ∀ c, f.2.head? = some c → blB c = false
  last : ∀ c, f.2.getLast? = some c → blB c = false
def lineF (f : Fld) : List UInt8 := f.1 ++ [58, 32] ++ f.2 ++ [13, 10]
def textF (G : List Fld) : List UInt8 := G.flatMap lineF
def rawF (G : List Fld) : List Fld := G.map fun f => (f.1, 32 :: f.2)
theorem textF_snoc (G : List Fld) (f : Fld) : textF (G ++ [f]) = textF G ++ lineF f := by simp [textF]
theorem nm_no (c : UInt8) (h : nmB c = true) : c ≠ 13 ∧ blB c = false := by
  constructor
  · rintro rfl; exact absurd h (by decide)
  · unfold nmB grB at h
    unfold blB
    simp at h ⊢
    have := h.1.1
    exact ⟨fun e => by subst e; simp at this, fun e => by subst e; simp at this⟩
theorem tw_app_all (x y : List UInt8) (h : x.all nmB = true) : (x ++ 58 :: y).takeWhile nmB = x := by
  induction x with
  | nil => rw [List.nil_append, List.takeWhile_cons, if_neg (by decide)]
  | cons c t ih =>
    simp at h
    rw [List.cons_append, List.takeWhile_cons, if_pos h.1, ih (by simpa using h.2)]
theorem step_good (f : Fld) (hf : GoodF f) (r : List UInt8) (F : List Fld) : stepR (lineF f ++ r) F = .inr (F ++ [(f.1, 32 :: f.2)]) ∧ (lineF f ++ r).drop (lnL (lineF f ++ r)).length = r ∧ (lnL (lineF f ++ r)).length = (lineF f).length := by
  have e : lineF f ++ r = (f.1 ++ 58 :: 32 :: f.2) ++ 13 :: 10 :: r := by simp [lineF]
  have hcr : ∀ c ∈ f.1 ++ 58 :: 32 :: f.2, c ≠ 13 := by
    intro c hc
    rcases List.mem_append.1 hc with hc | hc
    · exact (nm_no c (List.all_eq_true.1 hf.name c hc)).1
    · rcases List.mem_cons.1 hc with rfl | hc
      · decide
      · rcases List.mem_cons.1 hc with rfl | hc
        · decide
        · exact hf.cr c hc
  have hl := lb_plain (f.1 ++ 58 :: 32 :: f.2) r hcr
  obtain ⟨g1, g2⟩ := ln_plain (f.1 ++ 58 :: 32 :: f.2) r hcr
  rw [← e] at hl g1 g2
  refine ⟨?_, g2, by rw [g1]; simp [lineF]⟩
  obtain ⟨c, t, hc⟩ : ∃ c t, f.1 = c :: t := by
    cases h : f.1 with
    | nil => exact absurd h hf.ne
    | cons c t => exact ⟨c, t, rfl⟩
  have hcn : nmB c = true := List.all_eq_true.1 hf.name c (by rw [hc]; simp)
  have hn : nsz (f.1 ++ 58 :: 32 :: f.2) = f.1.length := by
    unfold nsz
    rw [tw_app_all _ _ hf.name]
    simp
  unfold stepR
  rw [hl]
  dsimp only
  rw [if_neg (by simp [hc]), if_neg (by rw [hc]; simp [(nm_no c hcn).2]), hn, if_neg (by rw [hc]; simp)]
  congr 2
  simp
theorem hd_good (body : List UInt8) : ∀ (G : List Fld) (k at' : Nat) (F : List Fld), (∀ f ∈ G, GoodF f) → (textF G ++ 13 :: 10 :: body).length < k →
    hd k (textF G ++ 13 :: 10 :: body) at' F = (F ++ rawF G, at' + (textF G).length + 2) := by
  intro G
  induction G with
  | nil =>
    intro k at' F _ hk
    cases k with
    | zero => simp at hk
    | succ k =>
      rw [hd]
      have : stepR (textF [] ++ 13 :: 10 :: body) F = .inl 2 := rfl
      rw [this]
      simp [textF, rawF]
  | cons f t ih =>
    intro k at' F h hk
    have e : textF (f :: t) ++ 13 :: 10 :: body = lineF f ++ (textF t ++ 13 :: 10 :: body) := by simp [textF]
    rw [e] at hk ⊢
    cases k with
    | zero => simp at hk
    | succ k =>
      rw [hd]
      obtain ⟨g1, g2, g3⟩ := step_good f (h f (by simp)) (textF t ++ 13 :: 10 :: body) F
      rw [g1]
      simp only
      have hl : 0 < (lineF f).length := by simp [lineF]; omega
      rw [g2, ih k _ _ (fun f hf => h f (List.mem_cons_of_mem _ hf)) (by simp at hk ⊢; omega), g3]
      simp [textF, rawF]
      omega
theorem trm_good (f : Fld) (hf : GoodF f) : trm (32 :: f.2) = f.2 := by
  unfold trm
  have e : tL (32 :: f.2) = f.2 := by
    unfold tL
    rw [List.dropWhile_cons, if_pos (by decide)]
    cases h : f.2 with
    | nil => rfl
    | cons c t =>
      rw [List.dropWhile_cons, if_neg]
      have := hf.head c (by rw [h]; rfl)
      simp [this]
  rw [e]
  unfold tR
  cases h : f.2.reverse with
  | nil => have := congrArg List.reverse h; simpa using this.symm
  | cons c t =>
    have hc : blB c = false := hf.last c (by
      have h2 := congrArg List.reverse h
      rw [List.reverse_reverse] at h2
      rw [h2]; simp)
    rw [List.dropWhile_cons, if_neg (by simp [hc]), ← h, List.reverse_reverse]
/-- The fields, and where the body begins. -/
theorem parse_good (G : List Fld) (h : ∀ f ∈ G, GoodF f) (hl : G.length ≤ 64) (body : List UInt8) :
    hd ((textF G ++ [13, 10] ++ body).length + 1) (textF G ++ [13, 10] ++ body) 0 [] = (rawF G, (textF G ++ [13, 10]).length) ∧ fin (rawF G) = G := by
  constructor
  · have e : textF G ++ [13, 10] ++ body = textF G ++ 13 :: 10 :: body := by simp
    rw [e, hd_good body G _ 0 [] h (by omega)]
    simp
  · unfold fin rawF
    rw [List.take_of_length_le (by simpa using hl), List.map_map]
    conv => rhs; rw [← List.map_id G]
    apply List.map_congr_left
    intro f hf
    show (f.1, trm (32 :: f.2)) = f
    rw [trm_good f (h f hf)]
end Go.Proofs.YtjblfemkecmlmaaDoor
