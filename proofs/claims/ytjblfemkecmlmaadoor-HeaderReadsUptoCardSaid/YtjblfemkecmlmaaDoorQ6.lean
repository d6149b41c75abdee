/- A field on one line, and on many, pure. -/
import Derived.Test.YtjblfemkecmlmaaDoorQ5
set_option linter.unusedSimpArgs false
set_option linter.unusedVariables false
namespace Go.Proofs.YtjblfemkecmlmaaDoor
open Go.Lib

/-- Letters and blanks. -/
def plB (c : UInt8) : Bool := c == 32 || (decide (97 ≤ c.toNat) && decide (c.toNat ≤ 122))
def fold : List UInt8 → List Bool → List UInt8
  | [], _ => []
  | c :: t, fs => if c = 32 then (match fs with
      | [] => 32 :: fold t []
      | true :: r => 13 :: 10 :: 32 :: fold t r
      | false :: r => 32 :: fold t r)
    else c :: fold t fs
def glue : List (List UInt8) → List UInt8
  | [] => []
  | s :: r => 13 :: 10 :: s ++ glue r
def glue2 : List (List UInt8) → List UInt8
  | [] => []
  | s :: r => s ++ 13 :: 10 :: glue2 r
theorem glue_glue2 (segs : List (List UInt8)) (r : List UInt8) : glue segs ++ 13 :: 10 :: r = 13 :: 10 :: (glue2 segs ++ r) := by
  induction segs with
  | nil => rfl
  | cons s t ih => simp only [glue, glue2, List.cons_append, List.append_assoc]; rw [ih]
theorem fold_segs (vs : List UInt8) : ∀ fs, (∀ c ∈ vs, plB c = true) → ∃ s0 segs, fold vs fs = s0 ++ glue segs ∧ s0 ++ segs.flatten = vs ∧ (∀ c ∈ s0, plB c = true) ∧ ∀ s ∈ segs, s.head? = some 32 ∧ ∀ c ∈ s, plB c = true := by
  induction vs with
  | nil => intro fs _; exact ⟨[], [], rfl, rfl, by simp, by simp⟩
  | cons c t ih =>
    intro fs h
    have ht : ∀ d ∈ t, plB d = true := fun d hd => h d (List.mem_cons_of_mem _ hd)
    have hc := h c (by simp)
    have plain : ∀ fs', ∃ s0 segs, c :: fold t fs' = s0 ++ glue segs ∧ s0 ++ segs.flatten = c :: t ∧ (∀ d ∈ s0, plB d = true) ∧ ∀ s ∈ segs, s.head? = some 32 ∧ ∀ d ∈ s, plB d = true := by
      intro fs'
      obtain ⟨s0, segs, h1, h2, h3, h4⟩ := ih fs' ht
      refine ⟨c :: s0, segs, by rw [h1]; rfl, by rw [List.cons_append, h2], ?_, h4⟩
      intro d hd
      rcases List.mem_cons.1 hd with rfl | hd
      · exact hc
      · exact h3 d hd
    unfold fold
    by_cases h32 : c = 32
    · rw [if_pos h32]
      subst h32
      match fs with
      | [] => exact plain []
      | false :: r => exact plain r
      | true :: r =>
        obtain ⟨s0, segs, h1, h2, h3, h4⟩ := ih r ht
        refine ⟨[], (32 :: s0) :: segs, ?_, ?_, by simp, ?_⟩
        · simp only [glue, List.nil_append, List.cons_append]; rw [h1]
        · simp only [List.nil_append, List.flatten_cons, List.cons_append]; rw [h2]
        · intro s hs
          rcases List.mem_cons.1 hs with rfl | hs
          · refine ⟨rfl, fun d hd => ?_⟩
            rcases List.mem_cons.1 hd with rfl | hd
            · exact hc
            · exact h3 d hd
          · exact h4 s hs
    · rw [if_neg h32]
      exact plain fs
theorem pl_cr {c : UInt8} (h : plB c = true) : c ≠ 13 := by rintro rfl; exact absurd h (by decide)
theorem lb_plain (x r : List UInt8) (h : ∀ c ∈ x, c ≠ 13) : lb (x ++ 13 :: 10 :: r) = (x, true) := by
  induction x with
  | nil => rfl
  | cons c t ih =>
    have hc := h c (by simp)
    rw [List.cons_append, lb_cons, if_neg (fun e => hc e.1), ih (fun d hd => h d (List.mem_cons_of_mem _ hd))]
theorem ln_plain (x r : List UInt8) (h : ∀ c ∈ x, c ≠ 13) : lnL (x ++ 13 :: 10 :: r) = x ++ [13, 10] ∧ (x ++ 13 :: 10 :: r).drop (lnL (x ++ 13 :: 10 :: r)).length = r := by
  have e : lnL (x ++ 13 :: 10 :: r) = x ++ [13, 10] := by unfold lnL; rw [lb_plain x r h]; rfl
  refine ⟨e, ?_⟩
  rw [e]
  have : x ++ 13 :: 10 :: r = (x ++ [13, 10]) ++ r := by simp
  rw [this, List.drop_left']
  rfl
/-- Lines that go on, and the header's end. -/
theorem hd_segs (body : List UInt8) (nm : List UInt8) : ∀ (segs : List (List UInt8)) (k at' : Nat) (v : List UInt8), (∀ s ∈ segs, s.head? = some 32 ∧ ∀ c ∈ s, plB c = true) → (glue2 segs ++ 13 :: 10 :: body).length < k →
    hd k (glue2 segs ++ 13 :: 10 :: body) at' [(nm, v)] = ([(nm, v ++ segs.flatten)], at' + (glue2 segs).length + 2) := by
  intro segs
  induction segs with
  | nil =>
    intro k at' v _ hk
    cases k with
    | zero => simp at hk
    | succ k =>
      rw [hd]
      have : stepR (glue2 [] ++ 13 :: 10 :: body) [(nm, v)] = .inl 2 := rfl
      rw [this]
      simp [glue2]
  | cons s t ih =>
    intro k at' v h hk
    obtain ⟨h1, h2⟩ := h s (by simp)
    have hcr : ∀ c ∈ s, c ≠ 13 := fun c hc => pl_cr (h2 c hc)
    have e : glue2 (s :: t) ++ 13 :: 10 :: body = s ++ 13 :: 10 :: (glue2 t ++ 13 :: 10 :: body) := by simp [glue2]
    rw [e] at hk ⊢
    cases k with
    | zero => simp at hk
    | succ k =>
      rw [hd]
      obtain ⟨x, rfl⟩ : ∃ x, s = 32 :: x := by
        cases s with
        | nil => simp at h1
        | cons a b => simp at h1; subst h1; exact ⟨b, rfl⟩
      have hl := lb_plain (32 :: x) (glue2 t ++ 13 :: 10 :: body) hcr
      have hs : stepR ((32 :: x) ++ 13 :: 10 :: (glue2 t ++ 13 :: 10 :: body)) [(nm, v)] = .inr [(nm, v ++ (32 :: x))] := by
        unfold stepR
        rw [hl]
        simp [blB, addl]
      rw [hs]
      obtain ⟨g1, g2⟩ := ln_plain (32 :: x) (glue2 t ++ 13 :: 10 :: body) hcr
      simp only
      rw [g2, ih k _ _ (fun s hs => h s (List.mem_cons_of_mem _ hs)) (by simp at hk ⊢; omega), g1]
      simp [glue2]
      omega
def preL : List UInt8 := [88, 45, 76, 111, 110, 103, 58, 32]
def nmL : List UInt8 := [88, 45, 76, 111, 110, 103]
def endL : List UInt8 := [13, 10, 13, 10, 98, 111, 100, 121]
theorem hd_first (s0 : List UInt8) (segs : List (List UInt8)) (body : List UInt8) (h0 : ∀ c ∈ s0, plB c = true) (h : ∀ s ∈ segs, s.head? = some 32 ∧ ∀ c ∈ s, plB c = true) (T : List UInt8) (hT : T = preL ++ (s0 ++ glue segs) ++ 13 :: 10 :: 13 :: 10 :: body) :
    hd (T.length + 1) T 0 [] = ([(nmL, 32 :: s0 ++ segs.flatten)], (preL ++ (s0 ++ glue segs)).length + 4) := by
  have e : T = (preL ++ s0) ++ 13 :: 10 :: (glue2 segs ++ 13 :: 10 :: body) := by
    rw [hT]
    have := glue_glue2 segs (13 :: 10 :: body)
    simp only [List.append_assoc]
    rw [this]
  have hcr : ∀ c ∈ preL ++ s0, c ≠ 13 := by
    intro c hc
    rcases List.mem_append.1 hc with hc | hc
    · clear hT e
      have : ∀ d ∈ preL, d ≠ 13 := by decide
      exact this c hc
    · exact pl_cr (h0 c hc)
  have hl := lb_plain (preL ++ s0) (glue2 segs ++ 13 :: 10 :: body) hcr
  have hs : stepR T [] = .inr [(nmL, 32 :: s0)] := by
    rw [e]
    unfold stepR
    rw [hl]
    have hn : nsz (preL ++ s0) = 6 := by
      have ht : (preL ++ s0).takeWhile nmB = nmL := by
        unfold preL nmL
        simp only [List.cons_append]
        rw [List.takeWhile_cons, if_pos (by decide), List.takeWhile_cons, if_pos (by decide), List.takeWhile_cons, if_pos (by decide), List.takeWhile_cons, if_pos (by decide), List.takeWhile_cons, if_pos (by decide), List.takeWhile_cons, if_pos (by decide), List.takeWhile_cons, if_neg (by decide)]
      unfold nsz
      rw [ht]
      rfl
    dsimp only
    rw [if_neg (by simp [preL]), if_neg (by simp), hn, if_neg (by decide)]
    rfl
  obtain ⟨g1, g2⟩ := ln_plain (preL ++ s0) (glue2 segs ++ 13 :: 10 :: body) hcr
  rw [hd, hs]
  simp only
  have hlen : (glue segs).length = (glue2 segs).length := by
    have := congrArg List.length (glue_glue2 segs [])
    simp at this
    omega
  have g3 : T.drop (lnL T).length = glue2 segs ++ 13 :: 10 :: body := by rw [e]; exact g2
  have g4 : (lnL T).length = (preL ++ s0).length + 2 := by rw [e, g1]; simp; omega
  rw [g3, hd_segs body nmL segs _ _ _ h (by rw [e]; simp; omega), g4]
  simp only [List.length_append, hlen]
  refine Prod.ext rfl ?_
  show 0 + _ + _ + _ = _
  omega
/-- One line, and many: the same field. -/
theorem folds_same (vs : List UInt8) (fs : List Bool) (h : ∀ c ∈ vs, plB c = true) :
    hd ((preL ++ vs ++ endL).length + 1) (preL ++ vs ++ endL) 0 [] = ([(nmL, 32 :: vs)], (preL ++ vs).length + 4) ∧
    hd ((preL ++ fold vs fs ++ endL).length + 1) (preL ++ fold vs fs ++ endL) 0 [] = ([(nmL, 32 :: vs)], (preL ++ fold vs fs).length + 4) := by
  constructor
  · have := hd_first vs [] [98, 111, 100, 121] h (by simp) (preL ++ vs ++ endL) (by simp [glue, endL])
    rw [this]
    simp [glue]
  · obtain ⟨s0, segs, h1, h2, h3, h4⟩ := fold_segs vs fs h
    have := hd_first s0 segs [98, 111, 100, 121] h3 h4 (preL ++ fold vs fs ++ endL) (by rw [h1]; simp [endL])
    rw [this, h1, List.cons_append, h2]
/-- A byte of the value. -/
def cv (c : UInt8) : UInt8 := if c = 32 then 32 else UInt8.ofNat (97 + c.toNat % 26)
theorem cv_pl (c : UInt8) : plB (cv c) = true := by
  unfold cv plB
  split
  · rfl
  · have h : (UInt8.ofNat (97 + c.toNat % 26)).toNat = 97 + c.toNat % 26 := by simp; omega
    simp only [h, Bool.or_eq_true, Bool.and_eq_true, decide_eq_true_eq]
    right; omega
theorem cv_num {c : UInt8} (h : c ≠ 32) : ((cv c).toNat : Int) = 97 + (c.toNat : Int) % 26 ∧ cv c ≠ 32 := by
  unfold cv
  rw [if_neg h]
  have e : (UInt8.ofNat (97 + c.toNat % 26)).toNat = 97 + c.toNat % 26 := by simp; omega
  constructor
  · rw [e]; omega
  · intro e2
    have := congrArg UInt8.toNat e2
    rw [e] at this
    have h32 : (32 : UInt8).toNat = 32 := rfl
    omega
def valS (value : List UInt8) : List UInt8 := (value.take 200).map cv
theorem valS_pl (value : List UInt8) : ∀ c ∈ valS value, plB c = true := by
  intro c hc
  unfold valS at hc
  obtain ⟨d, _, rfl⟩ := List.mem_map.1 hc
  exact cv_pl d
theorem valS_len (value : List UInt8) : (valS value).length = min 200 value.length := by unfold valS; simp
theorem valS_drop (value : List UInt8) (i : Nat) (h : i < value.length) (h2 : i < 200) : (valS value).drop i = cv value[i] :: (valS value).drop (i + 1) := by
  have hl : i < (valS value).length := by rw [valS_len]; omega
  rw [List.drop_eq_getElem_cons hl]
  congr 1
  unfold valS
  simp
theorem fold_letter {c : UInt8} (h : c ≠ 32) (t : List UInt8) (fs : List Bool) : fold (c :: t) fs = c :: fold t fs := by
  cases fs with
  | nil => simp [fold, h]
  | cons f r => cases f <;> simp [fold, h]
theorem fold_none (t : List UInt8) : fold (32 :: t) [] = 32 :: fold t [] := by simp [fold]
theorem fold_yes (t : List UInt8) (r : List Bool) : fold (32 :: t) (true :: r) = 13 :: 10 :: 32 :: fold t r := by simp [fold]
theorem fold_no (t : List UInt8) (r : List Bool) : fold (32 :: t) (false :: r) = 32 :: fold t r := by simp [fold]
/-- How far the two texts have grown. -/
def FR (vs : List UInt8) (bl : List Bool) (i k : Nat) (ln fd : List UInt8) : Prop :=
  ln ++ vs.drop i = preL ++ vs ∧ fd ++ fold (vs.drop i) (bl.drop k) = preL ++ fold vs bl ∧ ln.length = 8 + i ∧ fd.length ≤ 8 + 3 * i
theorem FR.start (vs : List UInt8) (bl : List Bool) : FR vs bl 0 0 preL preL := ⟨rfl, rfl, rfl, by decide⟩
theorem FR.letter {value : List UInt8} {bl : List Bool} {i k : Nat} {ln fd : List UInt8} (h : FR (valS value) bl i k ln fd) (hi : i < value.length) (h2 : i < 200) (hc : cv value[i] ≠ 32) : FR (valS value) bl (i + 1) k (ln ++ [cv value[i]]) (fd ++ [cv value[i]]) := by
  obtain ⟨a, b, c, d⟩ := h
  rw [valS_drop _ _ hi h2] at a b
  rw [fold_letter hc] at b
  exact ⟨by rw [← a]; simp, by rw [← b]; simp, by simp; omega, by simp; omega⟩
theorem FR.blank {value : List UInt8} {bl : List Bool} {i k : Nat} {ln fd : List UInt8} (h : FR (valS value) bl i k ln fd) (hi : i < value.length) (h2 : i < 200) (hc : cv value[i] = 32) (hk : bl.length ≤ k) : FR (valS value) bl (i + 1) k (ln ++ [32]) (fd ++ [32]) := by
  obtain ⟨a, b, c, d⟩ := h
  rw [valS_drop _ _ hi h2, hc] at a b
  rw [List.drop_eq_nil_of_le hk] at b
  rw [fold_none] at b
  exact ⟨by rw [← a]; simp, by rw [← b, List.drop_eq_nil_of_le hk]; simp, by simp; omega, by simp; omega⟩
theorem FR.flag {value : List UInt8} {bl : List Bool} {i k : Nat} {ln fd : List UInt8} (h : FR (valS value) bl i k ln fd) (hi : i < value.length) (h2 : i < 200) (hc : cv value[i] = 32) (f : Bool) (hk : bl[k]? = some f) :
    FR (valS value) bl (i + 1) (k + 1) (ln ++ [32]) ((if f then fd ++ [13, 10] else fd) ++ [32]) := by
  obtain ⟨a, b, c, d⟩ := h
  have hkl := (List.getElem?_eq_some_iff.1 hk).1
  have hke := (List.getElem?_eq_some_iff.1 hk).2
  rw [valS_drop _ _ hi h2, hc] at a b
  rw [List.drop_eq_getElem_cons hkl, hke] at b
  cases f
  · rw [fold_no] at b
    exact ⟨by rw [← a]; simp, by rw [← b]; simp, by simp; omega, by simp; omega⟩
  · rw [fold_yes] at b
    exact ⟨by rw [← a]; simp, by rw [← b]; simp, by simp; omega, by simp; omega⟩
theorem FR.over {value : List UInt8} {bl : List Bool} {i k : Nat} {ln fd : List UInt8} (h : FR (valS value) bl i k ln fd) (hi : ¬ (i < value.length ∧ i < 200)) : ln = preL ++ valS value ∧ fd = preL ++ fold (valS value) bl := by
  obtain ⟨a, b, c, d⟩ := h
  have : (valS value).drop i = [] := List.drop_eq_nil_of_le (by rw [valS_len]; omega)
  rw [this] at a b
  simp only [fold, List.append_nil] at a b
  exact ⟨a, b⟩
end Go.Proofs.YtjblfemkecmlmaaDoor
