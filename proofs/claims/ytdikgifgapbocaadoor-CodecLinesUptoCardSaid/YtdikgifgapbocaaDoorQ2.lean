/- Pure part of CodecLines: the lines of a stuffed message read back. -/
import Derived.Test.YtdikgifgapbocaaDoorC11
import Derived.Test.YtdikgifgapbocaaDoorQ1
set_option linter.unusedSimpArgs false
set_option linter.unusedVariables false
namespace Go.Proofs.YtdikgifgapbocaaDoor

def scn : List UInt8 → List UInt8 → List UInt8 → Option (List UInt8 × List UInt8)
  | _, _, [] => none
  | ln, acc, c :: t => if ln.getLast? = some 13 ∧ c = 10 then (if ln.dropLast = [46] then some (acc, t) else scn [] (acc ++ uns ln.dropLast ++ [13, 10]) t) else scn (ln ++ [c]) acc t
/-- A line as it is written. -/
def dotted (o : List UInt8) : List UInt8 := if o.head? = some 46 then 46 :: o else o
theorem uns_dotted (o : List UInt8) : uns (dotted o) = o := by
  unfold dotted
  split
  · rfl
  · rename_i h
    exact uns_other fun t e => h (by rw [e]; rfl)
theorem dotted_ne (o : List UInt8) : dotted o ≠ [46] := by
  unfold dotted
  split
  · rename_i h
    intro e
    injection e with _ e
    rw [e] at h
    cases h
  · rename_i h
    intro e
    rw [e] at h
    exact h rfl
theorem dotted_snoc (o : List UInt8) (c : UInt8) (h : o ≠ []) : dotted (o ++ [c]) = dotted o ++ [c] := by
  unfold dotted
  cases o with
  | nil => exact absurd rfl h
  | cons d t =>
    by_cases hd : d = 46
    · subst hd; simp
    · simp [hd]
theorem dotted_last (o : List UInt8) (h : o ≠ []) : (dotted o).getLast? = o.getLast? := by
  unfold dotted
  cases o with
  | nil => exact absurd rfl h
  | cons d t =>
    by_cases hd : d = 46
    · subst hd; simp
    · simp [hd]
theorem dotted_nil : dotted [] = [] := rfl
/-- The state of the scan behind a part of a line. -/
def qOf (o : List UInt8) : Nat := if o = [] then 2 else if o.getLast? = some 13 then 1 else 0
theorem dotted_cr (u : List UInt8) : dotted (u ++ [13]) = dotted u ++ [13] := by
  by_cases h : u = []
  · subst h; rfl
  · exact dotted_snoc u 13 h
theorem last_two {o t m : List UInt8} {c : UInt8} (h : o ++ c :: t = m ++ [13, 10]) : (t = [] ∧ c = 10 ∧ o.getLast? = some 13) ∨ (t = [10] ∧ c = 13) ∨ ∃ m', t = m' ++ [13, 10] := by
  have hr := congrArg List.reverse h
  simp only [List.reverse_append, List.reverse_cons, List.reverse_nil, List.nil_append, List.cons_append, List.append_assoc] at hr
  rcases hT : t.reverse with _ | ⟨x, _ | ⟨y, z⟩⟩
  · rw [hT] at hr
    obtain rfl : t = [] := by simpa using hT
    simp only [List.nil_append, List.cons_append, List.cons.injEq] at hr
    refine .inl ⟨rfl, hr.1, ?_⟩
    rw [List.getLast?_eq_head?_reverse, hr.2]; rfl
  · rw [hT] at hr
    have : t = [x] := by have := congrArg List.reverse hT; simpa using this
    simp only [List.nil_append, List.cons_append, List.cons.injEq] at hr
    exact .inr (.inl ⟨by rw [this, hr.1], hr.2.1⟩)
  · rw [hT] at hr
    have : t = z.reverse ++ [y, x] := by have := congrArg List.reverse hT; simpa using this
    simp only [List.nil_append, List.cons_append, List.cons.injEq] at hr
    exact .inr (.inr ⟨z.reverse, by rw [this, hr.1, hr.2.1]⟩)
theorem qOf_two (o : List UInt8) (h : o ≠ []) : qOf o ≠ 2 := by
  unfold qOf
  rw [if_neg h]
  split <;> decide
theorem qOf_snoc (o : List UInt8) (c : UInt8) : qOf (o ++ [c]) = if c = 13 then 1 else 0 := by
  unfold qOf
  rw [if_neg (by simp)]
  simp
/-- The scan of what is written for R, behind a part o of a line. -/
theorem scn_stm (R : List UInt8) : ∀ o acc, (o = [] ∧ R = [] ∨ R ≠ [] ∧ ∃ m, o ++ R = m ++ [13, 10]) → scn (dotted o) acc (stm (qOf o) R ++ [46, 13, 10]) = some (acc ++ o ++ R, []) := by
  induction R with
  | nil =>
    intro o acc h
    rcases h with ⟨rfl, _⟩ | ⟨h, _⟩
    · simp [stm, scn, dotted]
    · exact absurd rfl h
  | cons c t ih =>
    intro o acc h
    obtain ⟨m, hm⟩ : ∃ m, o ++ c :: t = m ++ [13, 10] := by
      rcases h with ⟨_, h⟩ | ⟨_, h⟩
      · cases h
      · exact h
    have hl := last_two hm
    by_cases h0 : o = []
    · subst h0
      have ht : t ≠ [] := by
        intro e
        rcases hl with ⟨_, _, h⟩ | ⟨h, _⟩ | ⟨m', h⟩
        · cases h
        · rw [e] at h; cases h
        · rw [e] at h; simp at h
      by_cases hc : c = 46
      · subst hc
        have := ih [46] acc (.inr ⟨ht, m, by simpa using hm⟩)
        simpa [stm, qOf, nxt, scn, dotted] using this
      · have hd : dotted [c] = [c] := by unfold dotted; rw [if_neg (by simpa using hc)]
        have := ih [c] acc (.inr ⟨ht, m, by simpa using hm⟩)
        rw [hd, show qOf [c] = nxt 2 c by rw [show [c] = [] ++ [c] from rfl, qOf_snoc]; unfold nxt; simp] at this
        rw [dotted_nil, show qOf [] = 2 from rfl, stm, if_neg (by simp [hc]), List.nil_append, List.cons_append, scn, if_neg (by simp), List.nil_append, this]
        simp
    · rw [stm, if_neg (fun e => qOf_two o h0 e.1), List.nil_append, List.cons_append, scn, dotted_last o h0]
      by_cases hb : o.getLast? = some 13 ∧ c = 10
      · obtain ⟨hb, rfl⟩ := hb
        obtain ⟨u, rfl⟩ : ∃ u, o = u ++ [13] := ⟨o.dropLast, by
          have := List.dropLast_concat_getLast h0
          rw [List.getLast?_eq_some_getLast h0] at hb
          rw [Option.some.inj hb] at this
          exact this.symm⟩
        rw [if_pos ⟨hb, rfl⟩, dotted_cr, List.dropLast_concat, if_neg (dotted_ne u), uns_dotted, qOf_snoc, if_pos rfl]
        have := ih [] (acc ++ u ++ [13, 10]) (by
          by_cases ht : t = []
          · exact .inl ⟨rfl, ht⟩
          · refine .inr ⟨ht, ?_⟩
            rcases hl with ⟨h, _⟩ | ⟨_, h⟩ | ⟨m', h⟩
            · exact absurd h ht
            · cases h
            · exact ⟨m', by simpa using h⟩)
        rw [show nxt 1 10 = 2 from rfl]
        rw [dotted_nil, show qOf [] = 2 from rfl] at this
        rw [this]
        simp
      · rw [if_neg hb, ← dotted_snoc o c h0]
        have ht : t ≠ [] := by
          intro e
          rcases hl with ⟨_, h1, h2⟩ | ⟨h, _⟩ | ⟨m', h⟩
          · exact hb ⟨h2, h1⟩
          · rw [e] at h; cases h
          · rw [e] at h; simp at h
        have hq : nxt (qOf o) c = qOf (o ++ [c]) := by
          rw [qOf_snoc]
          unfold nxt
          by_cases h1 : c = 13
          · rw [if_pos h1, if_pos h1]
          · rw [if_neg h1, if_neg h1, if_neg]
            rintro ⟨h2, h3⟩
            refine hb ⟨?_, h2⟩
            unfold qOf at h3
            rw [if_neg h0] at h3
            split at h3
            · assumption
            · cases h3
        rw [hq, ih (o ++ [c]) acc (.inr ⟨ht, m, by simpa using hm⟩)]
        simp
theorem scn_stuff (l : List UInt8) : scn [] [] (stuff l) = some (ended l, []) := by
  unfold stuff
  have := scn_stm (ended l) [] [] (by
    unfold ended
    by_cases h : l = [] ∨ ([13, 10] : List UInt8).isSuffixOf l = true
    · rw [if_pos h]
      rcases h with rfl | h
      · exact .inl ⟨rfl, rfl⟩
      · by_cases h0 : l = []
        · exact .inl ⟨rfl, h0⟩
        · obtain ⟨m, hm⟩ := List.isSuffixOf_iff_suffix.1 h
          exact .inr ⟨h0, m, by rw [List.nil_append, hm]⟩
    · rw [if_neg h]
      exact .inr ⟨by simp, l, rfl⟩)
  simpa [dotted, qOf] using this
end Go.Proofs.YtdikgifgapbocaaDoor
