/- Headers of messages, pure: lines, fields, tokens. -/
import Derived.Lib.Strings
set_option linter.unusedSimpArgs false
set_option linter.unusedVariables false
namespace Go.Proofs.YtjblfemkecmlmaaDoor
open Go.Lib

def blB (c : UInt8) : Bool := c == 32 || c == 9
def grB (c : UInt8) : Bool := decide (33 ≤ c.toNat) && decide (c.toNat ≤ 126)
def nmB (c : UInt8) : Bool := grB c && !(c == 58)
def prB (c : UInt8) : Bool := grB c || c == 32
def marksL : List UInt8 := [40, 41, 60, 62, 64, 44, 59, 58, 92, 34, 47, 91, 93, 63, 61]
def tkB (c : UInt8) : Bool := grB c && !marksL.contains c
def tL (l : List UInt8) : List UInt8 := l.dropWhile blB
def tR (l : List UInt8) : List UInt8 := (l.reverse.dropWhile blB).reverse
def trm (l : List UInt8) : List UInt8 := tR (tL l)

/-- The line that stands first: without its CR LF, and whether it has one. -/
def lb : List UInt8 → List UInt8 × Bool
  | [] => ([], false)
  | c :: t => if c = 13 ∧ t.head? = some 10 then ([], true) else (c :: (lb t).1, (lb t).2)
def crlfL : List UInt8 := [13, 10]
def lnL (l : List UInt8) : List UInt8 := (lb l).1 ++ (if (lb l).2 then crlfL else [])
/-- How many bytes the name has with which a line begins. -/
def nsz (x : List UInt8) : Nat := if x[(x.takeWhile nmB).length]? = some 58 then (x.takeWhile nmB).length else 0
abbrev Fld := List UInt8 × List UInt8
/-- The last field's value goes on. -/
def addl : List Fld → List UInt8 → List Fld
  | [], _ => []
  | [f], v => [(f.1, f.2 ++ v)]
  | f :: g :: t, v => f :: addl (g :: t) v
/-- One line: what it does. none: the header is over, so many bytes further on. -/
def stepR (l : List UInt8) (F : List Fld) : Nat ⊕ List Fld :=
  let x := lb l
  if x.1 = [] ∧ x.2 = true then .inl 2
  else if (x.1.head?.map blB) = some true ∧ F ≠ [] then .inr (addl F x.1)
  else if nsz x.1 = 0 then .inl 0
  else .inr (F ++ [(x.1.take (nsz x.1), x.1.drop (nsz x.1 + 1))])
def hd : Nat → List UInt8 → Nat → List Fld → List Fld × Nat
  | 0, _, at', F => (F, at')
  | k + 1, l, at', F =>
    match stepR l F with
    | .inl n => (F, at' + n)
    | .inr F' => hd k (l.drop (lnL l).length) (at' + (lnL l).length) F'
def fin (F : List Fld) : List Fld := (F.take 64).map fun f => (f.1, trm f.2)
def parseR (b : List UInt8) : List Fld × Nat := (fin (hd (b.length + 1) b 0 []).1, (hd (b.length + 1) b 0 []).2)

theorem take_takeWhile (p : UInt8 → Bool) (l : List UInt8) : l.take (l.takeWhile p).length = l.takeWhile p := by
  induction l with
  | nil => rfl
  | cons c t ih =>
    rw [List.takeWhile_cons]
    split
    · simp [ih]
    · rfl
theorem drop_takeWhile (p : UInt8 → Bool) (l : List UInt8) : l.drop (l.takeWhile p).length = l.dropWhile p := by
  induction l with
  | nil => rfl
  | cons c t ih =>
    rw [List.takeWhile_cons, List.dropWhile_cons]
    split
    · simp [ih]
    · rfl
theorem tl_len (l : List UInt8) : (tL l).length ≤ l.length := by
  unfold tL
  exact (List.dropWhile_sublist _).length_le
theorem tR_len (l : List UInt8) : (tR l).length ≤ l.length := by
  unfold tR
  rw [List.length_reverse]
  have := (List.dropWhile_sublist (p := blB) (l := l.reverse)).length_le
  simpa using this
theorem trm_len (l : List UInt8) : (trm l).length ≤ l.length := Nat.le_trans (tR_len _) (tl_len _)
theorem lb_cons (c : UInt8) (t : List UInt8) : lb (c :: t) = if c = 13 ∧ t.head? = some 10 then ([], true) else (c :: (lb t).1, (lb t).2) := rfl
/-- A text is its line and what stands behind it. -/
theorem lnL_prefix (l : List UInt8) : lnL l ++ l.drop (lnL l).length = l := by
  unfold lnL
  induction l with
  | nil => rfl
  | cons c t ih =>
    rw [lb_cons]
    by_cases h : c = 13 ∧ t.head? = some 10
    · rw [if_pos h]
      obtain ⟨rfl, h⟩ := h
      cases t with
      | nil => simp at h
      | cons d u => simp at h; subst h; rfl
    · rw [if_neg h]
      simp only [List.cons_append, List.length_cons, List.drop_succ_cons]
      rw [ih]
theorem lnL_pos (l : List UInt8) (h : l ≠ []) : 0 < (lnL l).length := by
  cases l with
  | nil => exact absurd rfl h
  | cons c t =>
    unfold lnL
    rw [lb_cons]
    split <;> simp [crlfL]
theorem lnL_le (l : List UInt8) : (lnL l).length ≤ l.length := by
  have := congrArg List.length (lnL_prefix l)
  rw [List.length_append] at this
  omega
theorem lb_nil {l : List UInt8} (h1 : (lb l).1 = []) (h2 : (lb l).2 = false) : l = [] := by
  cases l with
  | nil => rfl
  | cons c t =>
    rw [lb_cons] at h1 h2
    split at h1 <;> simp_all
theorem step_nil (F : List Fld) : stepR [] F = .inl 0 := by
  unfold stepR
  simp [lb, nsz]
/-- A line has no CR LF inside. -/
theorem lb_no (l : List UInt8) : ∀ j : Nat, (lb l).1[j]? = some 13 → (lb l).1[j + 1]? ≠ some 10 := by
  induction l with
  | nil => intro j h; simp [lb] at h
  | cons c t ih =>
    rw [lb_cons]
    by_cases h : c = 13 ∧ t.head? = some 10
    · rw [if_pos h]; intro j hj; simp at hj
    · rw [if_neg h]
      intro j hj
      cases j with
      | zero =>
        simp at hj
        subst hj
        intro h2
        apply h
        refine ⟨rfl, ?_⟩
        simp at h2
        cases t with
        | nil => simp [lb] at h2
        | cons d u =>
          rw [lb_cons] at h2
          split at h2
          · simp at h2
          · simp at h2; simp [h2]
      | succ j => simpa using ih j (by simpa using hj)
theorem addl_len (F : List Fld) (v : List UInt8) : (addl F v).length = F.length := by
  induction F with
  | nil => rfl
  | cons f t ih =>
    cases t with
    | nil => rfl
    | cons g u => simp [addl] at ih ⊢; exact ih
theorem addl_snoc (A : List Fld) (f : Fld) (v : List UInt8) : addl (A ++ [f]) v = A ++ [(f.1, f.2 ++ v)] := by
  induction A with
  | nil => rfl
  | cons a t ih =>
    cases t with
    | nil => rfl
    | cons b u => simp only [List.cons_append] at ih ⊢; rw [addl, ih]
end Go.Proofs.YtjblfemkecmlmaaDoor
