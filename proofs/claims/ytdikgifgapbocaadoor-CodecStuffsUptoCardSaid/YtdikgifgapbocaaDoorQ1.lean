/- Pure part of layer 7: dots ahead of lines that begin with one. -/
import Derived.Test.YtdikgifgapbocaaDoorQ0
import Derived.Lib.Replace
import Derived.Lib.CountLaws
set_option linter.unusedSimpArgs false
set_option linter.unusedVariables false
namespace Go.Proofs.YtdikgifgapbocaaDoor

/-- 0: within a line; 1: behind a CR; 2: where a line begins. -/
def nxt (q : Nat) (c : UInt8) : Nat := if c = 13 then 1 else if c = 10 ∧ q = 1 then 2 else 0
def stm : Nat → List UInt8 → List UInt8
  | _, [] => []
  | q, c :: t => (if q = 2 ∧ c = 46 then [46] else []) ++ c :: stm (nxt q c) t
def rep (l : List UInt8) : List UInt8 := Lib.replaceK [13, 10, 46] [13, 10, 46, 46] (Lib.count l [13, 10, 46]) l
theorem rep_nil : rep [] = [] := by
  unfold rep
  rw [Lib.count_miss (by rfl)]
  rfl
theorem rep_hit (t : List UInt8) : rep (13 :: 10 :: 46 :: t) = 13 :: 10 :: 46 :: 46 :: rep t := by
  unfold rep
  have hi : Lib.index (13 :: 10 :: 46 :: t) [13, 10, 46] = ((0 : Nat) : Int) := by
    unfold Lib.index
    rw [if_pos (by simp [List.isPrefixOf])]
    rfl
  rw [Lib.count_hit (i := 0) (by simp) hi, Nat.add_comm, Lib.replaceK_hit _ _ _ _ 0 hi]
  rfl
theorem rep_cons (c : UInt8) (t : List UInt8) (h : ([13, 10, 46] : List UInt8).isPrefixOf (c :: t) = false) : rep (c :: t) = c :: rep t := by
  unfold rep
  have hi : Lib.index (c :: t) [13, 10, 46] = if Lib.index t [13, 10, 46] == -1 then -1 else Lib.index t [13, 10, 46] + 1 := by
    conv => lhs; unfold Lib.index
    rw [if_neg (by rw [h]; simp)]
  rcases Lib.index_spec t [13, 10, 46] with ⟨h1, _⟩ | ⟨i, h1, _⟩
  · rw [h1] at hi
    rw [Lib.count_miss (s := c :: t) hi, Lib.count_miss h1]
    rfl
  · have hi' : Lib.index (c :: t) [13, 10, 46] = ((i + 1 : Nat) : Int) := by
      rw [hi, h1, if_neg (by simp)]
      omega
    rw [Lib.count_hit (by simp) hi', Lib.count_hit (by simp) h1, Nat.add_comm 1, Nat.add_comm 1, Lib.replaceK_hit _ _ _ _ _ hi', Lib.replaceK_hit _ _ _ _ _ h1]
    have e : List.drop (i + 1 + [13, 10, (46 : UInt8)].length) (c :: t) = List.drop (i + [13, 10, (46 : UInt8)].length) t := by
      rw [show i + 1 + [13, 10, (46 : UInt8)].length = (i + [13, 10, (46 : UInt8)].length) + 1 by simp, List.drop_succ_cons]
    rw [e, List.take_succ_cons]
    simp
theorem nxt_0 (c : UInt8) (h : c ≠ 13) : nxt 0 c = 0 := by unfold nxt; rw [if_neg h, if_neg (by simp)]
theorem rep_stm (n : Nat) : ∀ s : List UInt8, s.length ≤ n → rep s = stm 0 s ∧ rep (13 :: s) = 13 :: stm 1 s ∧ rep (13 :: 10 :: s) = 13 :: 10 :: stm 2 s := by
  induction n with
  | zero =>
    intro s hs
    obtain rfl : s = [] := List.eq_nil_of_length_eq_zero (by omega)
    refine ⟨rep_nil, ?_, ?_⟩
    · rw [rep_cons _ _ (by decide), rep_nil]; rfl
    · rw [rep_cons _ _ (by decide), rep_cons _ _ (by decide), rep_nil]; rfl
  | succ n ih =>
    intro s hs
    cases s with
    | nil => exact ih [] (by simp)
    | cons c t =>
      have ht := ih t (by simpa using hs)
      have h1 : rep (c :: t) = stm 0 (c :: t) := by
        rw [stm, if_neg (by simp), List.nil_append]
        by_cases hc : c = 13
        · subst hc; rw [ht.2.1]; rfl
        · rw [nxt_0 c hc, ← ht.1, rep_cons _ _ (by simp [List.isPrefixOf, Ne.symm hc])]
      refine ⟨h1, ?_, ?_⟩
      · by_cases hc : c = 10
        · subst hc; rw [ht.2.2]; rfl
        · rw [rep_cons _ _ (by simp [List.isPrefixOf, Ne.symm hc]), h1]
          have e : nxt 1 c = nxt 0 c := by unfold nxt; simp [hc]
          rw [stm, stm, if_neg (by simp), if_neg (by simp), e]
      · by_cases hc : c = 46
        · subst hc
          rw [rep_hit, ht.1]
          rfl
        · rw [rep_cons 13 _ (by simp [List.isPrefixOf, Ne.symm hc]), rep_cons 10 _ (by simp [List.isPrefixOf]), h1]
          have e : nxt 2 c = nxt 0 c := by unfold nxt; simp
          rw [stm, stm, if_neg (by simp), if_neg (by simp [hc]), e]
theorem replaceAll_rep (l : List UInt8) : Lib.replaceAll l [13, 10, 46] [13, 10, 46, 46] = rep l := by
  unfold Lib.replaceAll Lib.replace Lib.replaceNum rep
  rw [if_neg (by decide), if_pos (.inl (by decide))]
theorem replaceAll_lines (t : List UInt8) : Lib.replaceAll (13 :: 10 :: t) [13, 10, 46] [13, 10, 46, 46] = 13 :: 10 :: stm 2 t := by
  rw [replaceAll_rep]
  exact (rep_stm _ t (Nat.le_refl _)).2.2
theorem stm_len (l : List UInt8) : ∀ q, (stm q l).length ≤ 2 * l.length := by
  induction l with
  | nil => intro q; simp [stm]
  | cons c t ih =>
    intro q
    rw [stm]
    have := ih (nxt q c)
    split <;> simp <;> omega
/-- A message's bytes, the last line ended. -/
def ended (l : List UInt8) : List UInt8 := if l = [] ∨ ([13, 10] : List UInt8).isSuffixOf l = true then l else l ++ [13, 10]
def stuff (l : List UInt8) : List UInt8 := stm 2 (ended l) ++ [46, 13, 10]
end Go.Proofs.YtdikgifgapbocaaDoor
