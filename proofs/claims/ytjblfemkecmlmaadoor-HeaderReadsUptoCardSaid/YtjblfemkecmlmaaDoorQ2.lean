/- The document's way through a Content-Type, pure: it comes to the same. -/
import Derived.Test.YtjblfemkecmlmaaDoorQ1
set_option linter.unusedSimpArgs false
set_option linter.unusedVariables false
namespace Go.Proofs.YtjblfemkecmlmaaDoor
open Go.Lib

theorem tR_cons (c : UInt8) (t : List UInt8) : tR (c :: t) = if blB c = true ∧ tR t = [] then [] else c :: tR t := by
  unfold tR
  rw [List.reverse_cons, List.dropWhile_append]
  by_cases h : (t.reverse.dropWhile blB) = []
  · rw [h]
    by_cases hc : blB c = true
    · simp [hc]
    · simp [hc]
  · have h' : (t.reverse.dropWhile blB).isEmpty = false := by simpa using h
    have h'' : ¬ (blB c = true ∧ (t.reverse.dropWhile blB).reverse = []) := fun e => h (by simpa using e.2)
    rw [h', if_neg (by decide), if_neg h'']
    simp
theorem tR_nil : tR [] = [] := rfl
theorem tR_hard {c : UInt8} (t : List UInt8) (h : blB c = false) : tR (c :: t) = c :: tR t := by rw [tR_cons, if_neg (by simp [h])]
theorem tL_tR (l : List UInt8) : tL (tR l) = tR (tL l) := by
  induction l with
  | nil => rfl
  | cons c t ih =>
    rw [tR_cons]
    by_cases hc : blB c = true
    · have e : tL (c :: t) = tL t := by unfold tL; rw [List.dropWhile_cons, if_pos hc]
      rw [e]
      by_cases ht : tR t = []
      · rw [if_pos ⟨hc, ht⟩, ← ih, ht]
      · rw [if_neg (fun e => ht e.2)]
        have e2 : tL (c :: tR t) = tL (tR t) := by unfold tL; rw [List.dropWhile_cons, if_pos hc]
        rw [e2, ih]
    · have e : tL (c :: t) = c :: t := by unfold tL; rw [List.dropWhile_cons, if_neg hc]
      rw [if_neg (fun e => hc e.1), e, tR_cons, if_neg (fun e => hc e.1)]
      unfold tL
      rw [List.dropWhile_cons, if_neg hc]
theorem tR_tR (l : List UInt8) : tR (tR l) = tR l := by
  induction l with
  | nil => rfl
  | cons c t ih =>
    rw [tR_cons]
    by_cases h : blB c = true ∧ tR t = []
    · rw [if_pos h]; rfl
    · rw [if_neg h, tR_cons, ih, if_neg h]
theorem trm_tR (l : List UInt8) : trm (tR l) = tR (tL l) := by unfold trm; rw [tL_tR, tR_tR]
theorem tL_tL (l : List UInt8) : tL (tL l) = tL l := by
  unfold tL
  induction l with
  | nil => rfl
  | cons c t ih =>
    rw [List.dropWhile_cons]
    split
    · exact ih
    · rename_i h; rw [List.dropWhile_cons, if_neg h]
theorem tk_hard {c : UInt8} (h : tkB c = true) : blB c = false := by
  unfold tkB grB at h
  unfold blB
  simp at h ⊢
  have h1 := h.1.1
  exact ⟨fun e => by subst e; simp at h1, fun e => by subst e; simp at h1⟩
theorem tR_take (l : List UInt8) : (tR l).takeWhile tkB = l.takeWhile tkB := by
  induction l with
  | nil => rfl
  | cons c t ih =>
    by_cases hc : tkB c = true
    · rw [tR_hard t (tk_hard hc), List.takeWhile_cons, if_pos hc, List.takeWhile_cons, if_pos hc, ih]
    · rw [List.takeWhile_cons, if_neg hc, tR_cons]
      split
      · rfl
      · rw [List.takeWhile_cons, if_neg hc]
theorem tR_drop (l : List UInt8) : (tR l).dropWhile tkB = tR (l.dropWhile tkB) := by
  induction l with
  | nil => rfl
  | cons c t ih =>
    by_cases hc : tkB c = true
    · rw [tR_hard t (tk_hard hc), List.dropWhile_cons, if_pos hc, List.dropWhile_cons, if_pos hc, ih]
    · have e : (c :: t).dropWhile tkB = c :: t := by rw [List.dropWhile_cons, if_neg hc]
      rw [e, tR_cons]
      split
      · rfl
      · rw [List.dropWhile_cons, if_neg hc]
def bs2 (acc : List UInt8) : List UInt8 → Option (List UInt8 × List UInt8)
  | [] => none
  | d :: u => qt u (acc ++ [d])
theorem qt_cons (c : UInt8) (t acc : List UInt8) : qt (c :: t) acc = if c = 34 then some (acc, t) else if c = 92 then bs2 acc t else qt t (acc ++ [c]) := by
  cases t with
  | nil => simp [qt, bs2]
  | cons d u => simp [qt, bs2]
theorem blank_two {c : UInt8} (h : blB c = true) : ¬ c = 34 ∧ ¬ c = 92 := by
  have hb : c = 32 ∨ c = 9 := by unfold blB at h; simpa using h
  rcases hb with rfl | rfl <;> decide
theorem qt_blank (t : List UInt8) : ∀ acc : List UInt8, tR t = [] → qt t acc = none := by
  induction t with
  | nil => intro acc _; rfl
  | cons c t ih =>
    intro acc h
    rw [tR_cons] at h
    by_cases hc : blB c = true ∧ tR t = []
    · have h2 := blank_two hc.1
      rw [qt_cons, if_neg h2.1, if_neg h2.2]
      exact ih _ hc.2
    · rw [if_neg hc] at h; simp at h
theorem qt_tR (n : Nat) : ∀ (t acc : List UInt8), t.length ≤ n → qt (tR t) acc = (qt t acc).map fun p => (p.1, tR p.2) := by
  induction n with
  | zero => intro t acc h; obtain rfl : t = [] := List.length_eq_zero_iff.1 (by omega); rfl
  | succ n ih =>
    intro t acc h
    cases t with
    | nil => rfl
    | cons c t =>
      simp at h
      rw [tR_cons]
      by_cases hc : blB c = true ∧ tR t = []
      · rw [if_pos hc, qt_blank (c :: t) acc (by rw [tR_cons, if_pos hc])]
        rfl
      · rw [if_neg hc, qt_cons, qt_cons]
        by_cases h34 : c = 34
        · rw [if_pos h34, if_pos h34]; rfl
        · rw [if_neg h34, if_neg h34]
          by_cases h92 : c = 92
          · rw [if_pos h92, if_pos h92]
            cases t with
            | nil => rfl
            | cons d u =>
              simp at h
              rw [tR_cons]
              by_cases hd : blB d = true ∧ tR u = []
              · rw [if_pos hd]
                simp only [bs2]
                rw [qt_blank u _ hd.2]
                rfl
              · rw [if_neg hd]
                simp only [bs2]
                exact ih u _ (by omega)
          · rw [if_neg h92, if_neg h92]
            exact ih t _ h

/-- The document's way. -/
def dtok (s : List UInt8) : List UInt8 := s.takeWhile tkB
def dval (s : List UInt8) : Option (List UInt8 × List UInt8) :=
  if dtok s ≠ [] then some (dtok s, s.dropWhile tkB) else match s with
    | 34 :: t => qt t []
    | _ => none
def dpar (t : List UInt8) : Option (Fld × List UInt8) :=
  let s1 := trm t
  let s2 := trm (s1.dropWhile tkB)
  if dtok s1 = [] then none else match s2 with
    | 61 :: u => (dval (trm u)).map fun p => ((dtok s1, p.1), trm p.2)
    | _ => none
def dpars : Nat → List UInt8 → Option (List UInt8) → Option (Option (List UInt8))
  | 0, _, bd => some bd
  | k + 1, s, bd => match s with
    | [] => some bd
    | 59 :: t => match dpar t with
      | none => none
      | some (f, u) => dpars k u (if smS f.1 = bndy ∧ bd = none then some f.2 else bd)
    | _ => none
def dkind (s : List UInt8) : Option (List UInt8 × List UInt8 × Option (List UInt8)) :=
  let s0 := trm s
  let s1 := trm (s0.dropWhile tkB)
  if dtok s0 = [] then none else match s1 with
    | 47 :: t =>
      let s2 := trm t
      if dtok s2 = [] then none else
        (dpars (s.length + 1) (trm (s2.dropWhile tkB)) none).map fun bd => (dtok s0, dtok s2, bd)
    | _ => none

theorem mkR_cons (c : UInt8) (t : List UInt8) (b : Bool) : mkR c (c :: t, b) = (tL t, b) := by unfold mkR; simp
theorem mkR_other {c : UInt8} {l : List UInt8} (b : Bool) (h : l.head? ≠ some c) : (mkR c (l, b)).2 = true := by
  unfold mkR
  cases l with
  | nil => rfl
  | cons x t => simp at h; simp [h]
theorem trim_head {l : List UInt8} (h : tL l = l) : (tR l).head? = l.head? := by
  cases l with
  | nil => rfl
  | cons c t =>
    have hc : blB c = false := by
      cases hb : blB c
      · rfl
      · exfalso
        unfold tL at h
        rw [List.dropWhile_cons, if_pos hb] at h
        have := (List.dropWhile_sublist (p := blB) (l := t)).length_le
        rw [h] at this
        simp at this
        omega
    rw [tR_hard t hc]
    rfl
theorem trim_empty {l : List UInt8} (h : tL l = l) : tR l = [] ↔ l = [] := by
  have := trim_head h
  cases l with
  | nil => simp [tR_nil]
  | cons c t =>
    simp at this
    constructor
    · intro e; rw [e] at this; simp at this
    · intro e; simp at e
theorem head_cons {l : List UInt8} {c : UInt8} (h : l.head? = some c) : ∃ t, l = c :: t := by
  cases l with
  | nil => simp at h
  | cons x t => simp at h; exact ⟨t, by rw [h]⟩
/-- What stands behind a mark, in both ways. -/
theorem trim_tail {l : List UInt8} {c : UInt8} {t : List UInt8} (h : tL l = l) (e : tR l = c :: t) (hc : blB c = false) : ∃ u, l = c :: u ∧ t = tR u := by
  have h1 := trim_head h
  rw [e] at h1
  obtain ⟨u, rfl⟩ := head_cons h1.symm
  rw [tR_hard u hc] at e
  injection e with _ e2
  exact ⟨u, rfl, e2.symm⟩
theorem tk_head (l : List UInt8) (h : l.head? = some 34) : l.takeWhile tkB = [] := by
  obtain ⟨t, rfl⟩ := head_cons h
  rw [List.takeWhile_cons]
  simp [tkB, marksL, grB]
theorem vlR_tok {l : List UInt8} (b : Bool) (h : l.head? ≠ some 34) : vlR (l, b) = tkR (l, b) := by
  unfold vlR
  cases l with
  | nil => rfl
  | cons c t =>
    simp at h
    split
    · rename_i e; simp at e; exact absurd e.1 h
    · rfl
theorem tk_rest (l : List UInt8) : (tkR (l, false)).2.2 = (l.takeWhile tkB).isEmpty := by unfold tkR; simp
/-- The document's value is the reader's. -/
theorem dval_eq (l : List UInt8) (h : tL l = l) : ((vlR (l, false)).2.2 = true ∧ dval (tR l) = none) ∨ ((vlR (l, false)).2.2 = false ∧ ∃ u, dval (tR l) = some ((vlR (l, false)).1, tR u) ∧ (vlR (l, false)).2.1 = tL u) := by
  by_cases h34 : l.head? = some 34
  · have ht := tk_head l h34
    obtain ⟨t, rfl⟩ := head_cons h34
    have hn : dtok (tR (34 :: t)) = [] := by unfold dtok; rw [tR_take]; exact ht
    unfold dval
    rw [if_neg (by simp [hn]), tR_hard t (by decide)]
    simp only
    rw [qt_tR t.length t [] (Nat.le_refl _)]
    unfold vlR
    simp only
    cases hq : qt t [] with
    | none => exact .inl ⟨rfl, rfl⟩
    | some p => exact .inr ⟨rfl, p.2, rfl, rfl⟩
  · rw [vlR_tok false h34]
    unfold dval dtok
    rw [tR_take, tk_rest]
    by_cases he : l.takeWhile tkB = []
    · refine .inl ⟨by simp [he], ?_⟩
      rw [if_neg (by simp [he])]
      split
      · rename_i t e
        have := trim_head h
        rw [e] at this
        exact absurd this.symm h34
      · rfl
    · refine .inr ⟨by simpa using he, l.dropWhile tkB, ?_, rfl⟩
      rw [if_pos he, tR_drop]
      rfl
theorem tL_trim (l : List UInt8) : tL (tL l) = tL l := tL_tL l
/-- A parameter, behind its mark. -/
theorem dpar_eq (t : List UInt8) : let s := parR (59 :: t, false); (s.2.2 = true ∧ dpar (tR t) = none) ∨ (s.2.2 = false ∧ dpar (tR t) = some (s.1, tR s.2.1) ∧ tL s.2.1 = s.2.1) := by
  dsimp only
  unfold parR dpar
  rw [mkR_cons]
  dsimp only
  rw [trm_tR]
  have hn : dtok (tR (tL t)) = (tL t).takeWhile tkB := by unfold dtok; rw [tR_take]
  rw [hn, tR_drop, trm_tR]
  have e1 : tkR (tL t, false) = ((tL t).takeWhile tkB, tL ((tL t).dropWhile tkB), ((tL t).takeWhile tkB).isEmpty) := by unfold tkR; simp
  rw [e1]
  dsimp only
  by_cases he : (tL t).takeWhile tkB = []
  · rw [if_pos he]
    exact .inl ⟨vl_bad (mk_bad (by simp [he])), rfl⟩
  · rw [if_neg he]
    have hb : ((tL t).takeWhile tkB).isEmpty = false := by simpa using he
    rw [hb]
    have htl := tL_tL ((tL t).dropWhile tkB)
    generalize tL ((tL t).dropWhile tkB) = l at *
    by_cases h61 : l.head? = some 61
    · obtain ⟨u, rfl⟩ := head_cons h61
      rw [tR_hard u (by decide), mkR_cons]
      simp only
      rw [trm_tR]
      rcases dval_eq (tL u) (tL_tL u) with ⟨h1, h2⟩ | ⟨h1, v, h2, h3⟩
      · exact .inl ⟨h1, by rw [h2]; rfl⟩
      · refine .inr ⟨h1, ?_, by rw [h3, tL_tL]⟩
        rw [h2]
        simp only [Option.map_some]
        rw [trm_tR, h3]
    · refine .inl ⟨vl_bad (mkR_other _ h61), ?_⟩
      split
      · rename_i u e
        have := trim_head htl
        rw [e] at this
        exact absurd this.symm h61
      · rfl
theorem pars_bad (k : Nat) (s : Rd) (acc : List Fld) (h : s.2 = true) : parsR k s acc = (acc, s) := by
  cases k with
  | zero => rfl
  | succ k => unfold parsR; rw [if_pos (by simp [h])]
def fstB (bd : Option (List UInt8)) (F : List Fld) : Option (List UInt8) := match bd with
  | some b => some b
  | none => (F.find? fun f => smS f.1 == bndy).map (·.2)
theorem fstB_cons (bd : Option (List UInt8)) (f : Fld) (F : List Fld) : fstB bd (f :: F) = fstB (if smS f.1 = bndy ∧ bd = none then some f.2 else bd) F := by
  cases bd with
  | some b => simp [fstB]
  | none =>
    by_cases h : smS f.1 = bndy
    · simp [fstB, h, List.find?_cons]
    · have h' : (smS f.1 == bndy) = false := by simpa using h
      simp [fstB, h, List.find?_cons, h']
theorem parR_other {l : List UInt8} (h : l.head? ≠ some 59) : (parR (l, false)).2.2 = true := by
  unfold parR
  exact vl_bad (mk_bad (tk_bad (mkR_other _ h)))
/-- The document's parameters are the reader's. -/
theorem dpars_eq (k : Nat) : ∀ (k2 : Nat) (l : List UInt8) (acc : List Fld) (bd : Option (List UInt8)), tL l = l → l.length < k → l.length < k2 →
    (parsR k (l, false) acc).2.2 = true ∧ dpars k2 (tR l) bd = none ∨ (parsR k (l, false) acc).2.2 = false ∧ ∃ F, (parsR k (l, false) acc).1 = acc ++ F ∧ dpars k2 (tR l) bd = some (fstB bd F) := by
  induction k with
  | zero => intro k2 l acc bd _ h; omega
  | succ k ih =>
    intro k2 l acc bd htl hk hk2
    obtain ⟨k2, rfl⟩ : ∃ k', k2 = k' + 1 := ⟨k2 - 1, by omega⟩
    cases l with
    | nil =>
      refine .inr ?_
      unfold parsR
      rw [if_pos (by simp)]
      exact ⟨rfl, [], by simp, by simp [tR_nil, dpars, fstB]; cases bd <;> rfl⟩
    | cons c t =>
      unfold parsR
      rw [if_neg (by simp)]
      by_cases hc : c = 59
      · subst hc
        rw [tR_hard t (by decide)]
        have hl := par_len (59 :: t, false)
        have hls := par_less (59 :: t, false)
        simp only [dpars]
        rcases dpar_eq t with ⟨h1, h2⟩ | ⟨h1, h2, h3⟩
        · rw [h2]
          refine .inl ⟨?_, rfl⟩
          rw [pars_bad _ _ _ h1]
          exact h1
        · rw [h2]
          have hls := hls h1
          generalize hp : parR (59 :: t, false) = p at *
          obtain ⟨f, l', b⟩ := p
          simp only at h1 h3 hl hls
          subst h1
          simp at hk hk2 hl hls
          dsimp only
          rcases ih k2 l' (acc ++ [f]) (if smS f.1 = bndy ∧ bd = none then some f.2 else bd) h3 (by omega) (by omega) with ⟨g1, g2⟩ | ⟨g1, F, g2, g3⟩
          · exact .inl ⟨g1, g2⟩
          · refine .inr ⟨g1, f :: F, by rw [g2]; simp, ?_⟩
            rw [fstB_cons, g3]
      · have h1 := parR_other (l := c :: t) (by simpa using hc)
        refine .inl ⟨?_, ?_⟩
        · rw [pars_bad _ _ _ h1]; exact h1
        · have hh := trim_head htl
          simp only [List.head?_cons] at hh
          obtain ⟨u, hu⟩ := head_cons hh
          rw [hu]
          unfold dpars
          split
          · rename_i e; simp at e
          · rename_i e; simp at e; exact absurd e.1 hc
          · rfl
def bdD (b : Option (List UInt8)) : List UInt8 := if bdP (b.getD []) then b.getD [] else []
def kindD (s : List UInt8) : List UInt8 × List UInt8 × List UInt8 := match dkind s with
  | some (a, b, c) => (gtS a, gtS b, bdD c)
  | none => (txt, pln, [])
theorem kindD_eq (s : List UInt8) : kindS s = kindD s := by
  unfold kindS kindD dkind
  dsimp only
  have hn : dtok (trm s) = (tL s).takeWhile tkB := by unfold dtok trm; rw [tR_take]
  rw [hn]
  have e1 : tkR (tL s, false) = ((tL s).takeWhile tkB, tL ((tL s).dropWhile tkB), ((tL s).takeWhile tkB).isEmpty) := by unfold tkR; simp
  rw [e1]
  dsimp only
  have e2 : trm ((trm s).dropWhile tkB) = tR (tL ((tL s).dropWhile tkB)) := by unfold trm; rw [tR_drop, tL_tR, tR_tR]
  rw [e2]
  by_cases he : (tL s).takeWhile tkB = []
  · rw [if_pos he]
    have hb : (tkR (mkR 47 (tL ((tL s).dropWhile tkB), ((tL s).takeWhile tkB).isEmpty))).2.2 = true := tk_bad (mk_bad (by simp [he]))
    rw [pars_bad _ _ _ hb, if_pos hb]
  · rw [if_neg he]
    have hb : ((tL s).takeWhile tkB).isEmpty = false := by simpa using he
    rw [hb]
    have htl := tL_tL ((tL s).dropWhile tkB)
    have hlen : (tL ((tL s).dropWhile tkB)).length ≤ s.length := Nat.le_trans (tl_len _) (Nat.le_trans (List.dropWhile_sublist _).length_le (tl_len _))
    generalize tL ((tL s).dropWhile tkB) = l at *
    by_cases h47 : l.head? = some 47
    · obtain ⟨u, rfl⟩ := head_cons h47
      rw [tR_hard u (by decide), mkR_cons]
      simp only
      have hn2 : dtok (trm (tR u)) = (tL u).takeWhile tkB := by rw [trm_tR]; unfold dtok; rw [tR_take]
      rw [hn2]
      have e3 : tkR (tL u, false) = ((tL u).takeWhile tkB, tL ((tL u).dropWhile tkB), ((tL u).takeWhile tkB).isEmpty) := by unfold tkR; simp
      rw [e3]
      dsimp only
      by_cases he2 : (tL u).takeWhile tkB = []
      · rw [if_pos he2, he2]
        rw [pars_bad _ _ _ rfl]
        rfl
      · rw [if_neg he2]
        have hb2 : ((tL u).takeWhile tkB).isEmpty = false := by simpa using he2
        rw [hb2]
        have e4 : trm ((trm (tR u)).dropWhile tkB) = tR (tL ((tL u).dropWhile tkB)) := by rw [trm_tR, tR_drop, trm_tR]
        rw [e4]
        have hl2 : (tL ((tL u).dropWhile tkB)).length ≤ u.length := Nat.le_trans (tl_len _) (Nat.le_trans (List.dropWhile_sublist _).length_le (tl_len _))
        have htl2 := tL_tL ((tL u).dropWhile tkB)
        simp at hlen
        rcases dpars_eq (s.length + 1) (s.length + 1) (tL ((tL u).dropWhile tkB)) [] none htl2 (by omega) (by omega) with ⟨g1, g2⟩ | ⟨g1, F, g2, g3⟩
        · rw [g1, g2]; rfl
        · rw [g1, g2, g3]
          simp only [List.nil_append, Option.map_some]
          have hs : smS bndy = bndy := by decide
          unfold bdD getR fstB
          rw [hs]
          rfl
    · have hb : (tkR (mkR 47 (l, false))).2.2 = true := tk_bad (mkR_other _ h47)
      rw [pars_bad _ _ _ hb, if_pos hb]
      split
      · rename_i a b c e
        split at e
        · rename_i u e'
          have := trim_head htl
          rw [e'] at this
          exact absurd this.symm h47
        · simp at e
      · rfl
end Go.Proofs.YtjblfemkecmlmaaDoor
