/- Kinds of messages, words, texts in small and great letters, pure. -/
import Derived.Test.YtjblfemkecmlmaaDoorQ0
set_option linter.unusedSimpArgs false
set_option linter.unusedVariables false
namespace Go.Proofs.YtjblfemkecmlmaaDoor
open Go.Lib

def smB (c : UInt8) : UInt8 := if 65 ≤ c.toNat ∧ c.toNat ≤ 90 then c + 32 else c
def gtB (c : UInt8) : UInt8 := if 97 ≤ c.toNat ∧ c.toNat ≤ 122 then c - 32 else c
def smS (l : List UInt8) : List UInt8 := l.map smB
def gtS (l : List UInt8) : List UInt8 := l.map gtB
def getR (F : List Fld) (name : List UInt8) : Option (List UInt8) := (F.find? fun f => smS f.1 == smS name).map (·.2)

/-- The reader: what is left, and whether it is bad. -/
abbrev Rd := List UInt8 × Bool
def tkR (s : Rd) : List UInt8 × Rd := (s.1.takeWhile tkB, tL (s.1.dropWhile tkB), s.2 || (s.1.takeWhile tkB).isEmpty)
def mkR (c : UInt8) (s : Rd) : Rd := match s.1 with
  | [] => ([], true)
  | x :: t => if x = c then (tL t, s.2) else (x :: t, true)
/-- Behind the first mark of a quoted value. -/
def qt : List UInt8 → List UInt8 → Option (List UInt8 × List UInt8)
  | [], _ => none
  | c :: t, acc =>
    if c = 34 then some (acc, t)
    else if c = 92 then (match t with | [] => none | d :: u => qt u (acc ++ [d]))
    else qt t (acc ++ [c])
def vlR (s : Rd) : List UInt8 × Rd := match s.1 with
  | 34 :: t => (match qt t [] with | some (v, u) => (v, tL u, s.2) | none => ([], 34 :: t, true))
  | _ => tkR s
def parR (s : Rd) : Fld × Rd :=
  let n := tkR (mkR 59 s)
  let v := vlR (mkR 61 n.2)
  ((n.1, v.1), v.2)
def parsR : Nat → Rd → List Fld → List Fld × Rd
  | 0, s, acc => (acc, s)
  | k + 1, s, acc => if s.2 || s.1.isEmpty then (acc, s) else parsR k (parR s).2 (acc ++ [(parR s).1])
def bdP (b : List UInt8) : Bool := decide (b.length ≤ 70) && b.all prB && !(b.getLast? == some 32)
def txt : List UInt8 := [84, 69, 88, 84]
def pln : List UInt8 := [80, 76, 65, 73, 78]
def ctyp : List UInt8 := [67, 111, 110, 116, 101, 110, 116, 45, 84, 121, 112, 101]
def bndy : List UInt8 := [98, 111, 117, 110, 100, 97, 114, 121]
def kindS (s : List UInt8) : List UInt8 × List UInt8 × List UInt8 :=
  let a := tkR (tL s, false)
  let b := tkR (mkR 47 a.2)
  let p := parsR (s.length + 1) b.2 []
  if p.2.2 then (txt, pln, [])
  else
    let d := (getR p.1 bndy).getD []
    (gtS a.1, gtS b.1, if bdP d then d else [])
def kindR (F : List Fld) : List UInt8 × List UInt8 × List UInt8 := kindS ((getR F ctyp).getD [])

/-- The words of a text. -/
def wrds : List UInt8 → List UInt8 → List (List UInt8)
  | [], w => if w.isEmpty then [] else [w]
  | c :: t, w => if blB c then (if w.isEmpty then wrds t [] else w :: wrds t []) else wrds t (w ++ [c])

theorem tk_len (s : Rd) : (tkR s).2.1.length ≤ s.1.length := by
  unfold tkR
  exact Nat.le_trans (tl_len _) ((List.dropWhile_sublist _).length_le)
theorem mk_len (c : UInt8) (s : Rd) : (mkR c s).1.length ≤ s.1.length := by
  unfold mkR
  split
  · rename_i h; simp
  · rename_i x t h
    rw [h]
    split
    · have := tl_len t; simp; omega
    · simp
theorem qt_len : ∀ (t acc : List UInt8) (v u : List UInt8), qt t acc = some (v, u) → u.length < t.length ∧ v.length + u.length < acc.length + t.length
  | [], acc, v, u, h => by simp [qt] at h
  | [c], acc, v, u, h => by
    rw [qt] at h
    split at h
    · cases h; simp
    · split at h
      · simp at h
      · simp [qt] at h
  | c :: d :: t, acc, v, u, h => by
    rw [qt] at h
    split at h
    · cases h; simp
    · split at h
      · have := qt_len t _ _ _ h; simp at this ⊢; omega
      · have := qt_len (d :: t) _ _ _ h; simp at this ⊢; omega
theorem vl_len (s : Rd) : (vlR s).2.1.length ≤ s.1.length := by
  unfold vlR
  split
  · rename_i t h
    split
    · rename_i v u h2
      have := qt_len _ _ _ _ h2
      have := tl_len u
      simp [h]; omega
    · simp [h]
  · exact tk_len s
theorem mk_ok {c : UInt8} {s : Rd} (h : (mkR c s).2 = false) : ∃ t, s.1 = c :: t ∧ mkR c s = (tL t, s.2) ∧ s.2 = false := by
  obtain ⟨l, b⟩ := s
  unfold mkR at h ⊢
  cases l with
  | nil => simp at h
  | cons x t =>
    simp only at h ⊢
    by_cases hx : x = c
    · subst hx; rw [if_pos rfl] at h ⊢; exact ⟨t, rfl, rfl, h⟩
    · rw [if_neg hx] at h; simp at h
theorem tk_bad {s : Rd} (h : s.2 = true) : (tkR s).2.2 = true := by unfold tkR; simp [h]
theorem mk_bad {c : UInt8} {s : Rd} (h : s.2 = true) : (mkR c s).2 = true := by
  obtain ⟨l, b⟩ := s
  unfold mkR
  cases l with
  | nil => rfl
  | cons x t => simp only; split <;> simp_all
theorem vl_bad {s : Rd} (h : s.2 = true) : (vlR s).2.2 = true := by
  unfold vlR
  split
  · split
    · exact h
    · rfl
  · exact tk_bad h
theorem par_len (s : Rd) : (parR s).2.1.length ≤ s.1.length := by
  unfold parR
  exact Nat.le_trans (vl_len _) (Nat.le_trans (mk_len _ _) (Nat.le_trans (tk_len _) (mk_len _ _)))
theorem par_less (s : Rd) (h : (parR s).2.2 = false) : (parR s).2.1.length < s.1.length := by
  have h1 : (mkR 59 s).2 = false := by
    cases hb : (mkR 59 s).2 with
    | false => rfl
    | true =>
      have : (parR s).2.2 = true := by unfold parR; exact vl_bad (mk_bad (tk_bad hb))
      rw [this] at h; simp at h
  obtain ⟨t, e1, e2, _⟩ := mk_ok h1
  have h2 := tl_len t
  have h3 : (mkR 59 s).1.length < s.1.length := by rw [e2, e1]; simp; omega
  unfold parR
  exact Nat.lt_of_le_of_lt (Nat.le_trans (vl_len _) (Nat.le_trans (mk_len _ _) (tk_len _))) h3
/-- The loop's end: bad, or nothing left. -/
theorem pars_end (k : Nat) (s : Rd) (acc : List Fld) (h : s.1.length + (if s.2 then 0 else 1) ≤ k) : (parsR k s acc).2.2 = true ∨ (parsR k s acc).2.1 = [] := by
  induction k generalizing s acc with
  | zero =>
    unfold parsR
    cases hb : s.2
    · rw [hb] at h; simp at h
    · exact .inl rfl
  | succ k ih =>
    unfold parsR
    split
    · rename_i hc
      simp at hc
      exact hc
    · rename_i hc
      simp at hc
      apply ih
      cases hb : (parR s).2.2
      · have := par_less s hb
        simp [hc.1] at h ⊢; omega
      · have := par_len s
        simp [hc.1] at h ⊢; omega
end Go.Proofs.YtjblfemkecmlmaaDoor
