/- Pure part of layer 9: what the reader of a list finds. -/
import Derived.Test.YtgdcdknmijeioaaDoorQ0
set_option linter.unusedSimpArgs false
set_option linter.unusedVariables false
namespace Go.Proofs.YtgdcdknmijeioaaDoor

structure Ad where
  name : List UInt8
  lo : List UInt8
  dm : List UInt8
  deriving DecidableEq
def tkm (c : UInt8) : List UInt8 → Bool × List UInt8
  | [] => (false, [])
  | x :: t => if x = c then (true, t) else (false, x :: t)
def qt : List UInt8 → List UInt8 → List UInt8 × List UInt8 × Bool
  | [], _ => ([], [], true)
  | [c], acc => if c = 34 then (acc, [], false) else if c = 92 then ([], [], true) else if c = 13 ∨ c = 10 then ([], [], true) else ([], [], true)
  | c :: d :: t, acc => if c = 34 then (acc, d :: t, false) else if c = 92 then (if d = 13 ∨ d = 10 then ([], t, true) else qt t (acc ++ [d])) else if c = 13 ∨ c = 10 then ([], d :: t, true) else qt (d :: t) (acc ++ [c])
def quR (t : List UInt8) (b : Bool) : List UInt8 × List UInt8 × Bool := if b then ([], t, true) else qt t []
def phr : Nat → List (List UInt8) → List UInt8 → Bool → List (List UInt8) × List UInt8 × Bool
  | 0, ws, l, b => (ws, l, b)
  | _ + 1, ws, [], b => (ws, [], b)
  | n + 1, ws, c :: t, b =>
    if c = 34 then phr n (ws ++ [(quR t b).1]) ((quR t b).2.1.dropWhile blB) (quR t b).2.2
    else if wbB c then phr n (ws ++ [(c :: t).takeWhile wbB]) (((c :: t).dropWhile wbB).dropWhile blB) b
    else (ws, c :: t, b)
def addrR (l : List UInt8) (b : Bool) : Ad × List UInt8 × Bool :=
  match parseP (l.takeWhile adB) with
  | some (x, y) => (⟨[], x, y⟩, l.dropWhile adB, b)
  | none => (⟨[], [], []⟩, l.dropWhile adB, true)
def phraseR (l : List UInt8) (b : Bool) : List UInt8 × List UInt8 × Bool :=
  (Lib.join (phr (l.length + 1) [] l b).1 [32], (phr (l.length + 1) [] l b).2.1, (phr (l.length + 1) [] l b).2.2 || !decide (0 < (phr (l.length + 1) [] l b).1.length))
def namedR (l : List UInt8) (b : Bool) : Ad × List UInt8 × Bool :=
  let p := phraseR l b
  let t := tkm 60 p.2.1
  let a := addrR t.2 (p.2.2 || !t.1)
  let u := tkm 62 a.2.1
  (⟨p.1, a.1.lo, a.1.dm⟩, u.2, a.2.2 || !u.1)
def bareR (l : List UInt8) : Bool := [64].isPrefixOf (l.dropWhile wbB)
def elemR (l : List UInt8) (b : Bool) : Ad × List UInt8 × Bool :=
  let l1 := l.dropWhile blB
  let r := if bareR l1 then addrR l1 b else namedR l1 b
  (r.1, r.2.1.dropWhile blB, r.2.2)
def lstR : Nat → List Ad → List UInt8 → Bool → List Ad × List UInt8 × Bool
  | 0, as, l, b => (as, l, b)
  | _ + 1, as, [], b => (as, [], b)
  | n + 1, as, c :: t, b =>
    if c = 44 then lstR n (if as.length ≤ 16 then as ++ [(elemR t b).1] else as) (elemR t b).2.1 (elemR t b).2.2
    else (as, c :: t, b)
/-- What a list's text is: its addresses, or an error. -/
def listR (l : List UInt8) : List Ad × Int :=
  let e := elemR l false
  let r := lstR (l.length + 1) [e.1] e.2.1 e.2.2
  if r.2.2 || !r.2.1.isEmpty then ([], 90) else if 16 < r.1.length then ([], 5) else (r.1, 0)

theorem len_dropWhile (p : UInt8 → Bool) (l : List UInt8) : (l.dropWhile p).length ≤ l.length := by
  induction l with
  | nil => simp
  | cons c t ih => rw [List.dropWhile_cons]; split <;> simp <;> omega
theorem len_takeWhile (p : UInt8 → Bool) (l : List UInt8) : (l.takeWhile p).length ≤ l.length := by
  induction l with
  | nil => simp
  | cons c t ih => rw [List.takeWhile_cons]; split <;> simp <;> omega
theorem len_tkm (c : UInt8) (l : List UInt8) : (tkm c l).2.length ≤ l.length := by
  cases l with
  | nil => simp [tkm]
  | cons x t => simp only [tkm]; split <;> simp
theorem len_qt : ∀ (l acc : List UInt8), (qt l acc).2.1.length ≤ l.length ∧ (qt l acc).1.length ≤ acc.length + l.length
  | [], acc => by simp [qt]
  | [c], acc => by unfold qt; split; simp; split; simp; split <;> simp
  | c :: d :: t, acc => by
    have h1 := len_qt t (acc ++ [d])
    have h2 := len_qt (d :: t) (acc ++ [c])
    simp at h1 h2
    unfold qt
    split
    · simp
    · split
      · split
        · simp; omega
        · simp; omega
      · split
        · simp
        · simp; omega
theorem len_quR (t : List UInt8) (b : Bool) : (quR t b).2.1.length ≤ t.length ∧ (quR t b).1.length ≤ t.length := by
  unfold quR
  split
  · simp
  · have := len_qt t []; simpa using this
theorem len_phr : ∀ (n : Nat) (ws : List (List UInt8)) (l : List UInt8) (b : Bool), (phr n ws l b).2.1.length ≤ l.length ∧ Lib.lens (phr n ws l b).1 + (phr n ws l b).2.1.length ≤ Lib.lens ws + l.length ∧ (phr n ws l b).1.length + (phr n ws l b).2.1.length ≤ ws.length + l.length
  | 0, ws, l, b => by simp [phr]
  | n + 1, ws, [], b => by simp [phr]
  | n + 1, ws, c :: t, b => by
    unfold phr
    split
    · have h1 := len_phr n (ws ++ [(quR t b).1]) ((quR t b).2.1.dropWhile blB) (quR t b).2.2
      have h2 := len_quR t b
      have h3 := len_dropWhile blB (quR t b).2.1
      have h4 : (quR t b).1.length + (quR t b).2.1.length ≤ t.length := by
        unfold quR
        split
        · simp
        · simpa using len_qt2 t []
      simp [Lib.lens] at h1 ⊢
      omega
    · split
      · rename_i hc
        have h1 := len_phr n (ws ++ [(c :: t).takeWhile wbB]) (((c :: t).dropWhile wbB).dropWhile blB) b
        have h3 := len_dropWhile blB ((c :: t).dropWhile wbB)
        have h4 : ((c :: t).takeWhile wbB).length + ((c :: t).dropWhile wbB).length = (c :: t).length := by
          rw [← List.length_append, List.takeWhile_append_dropWhile]
        have h5 : 1 ≤ ((c :: t).takeWhile wbB).length := by rw [List.takeWhile_cons, if_pos hc]; simp
        simp [Lib.lens] at h1 h4 h5 h3 ⊢
        omega
      · simp
where
  len_qt2 : ∀ (l acc : List UInt8), (qt l acc).1.length + (qt l acc).2.1.length ≤ acc.length + l.length
    | [], acc => by simp [qt]
    | [c], acc => by unfold qt; split; simp; split; simp; split <;> simp
    | c :: d :: t, acc => by
      have h1 := len_qt2 t (acc ++ [d])
      have h2 := len_qt2 (d :: t) (acc ++ [c])
      simp at h1 h2
      unfold qt
      split
      · simp
      · split
        · split
          · simp; omega
          · simp; omega
        · split
          · simp; omega
          · simp; omega
theorem len_addrR (l : List UInt8) (b : Bool) : (addrR l b).2.1.length ≤ l.length := by
  unfold addrR
  have := len_dropWhile adB l
  split <;> simpa using this
theorem len_namedR (l : List UInt8) (b : Bool) : (namedR l b).2.1.length ≤ l.length := by
  unfold namedR
  dsimp only
  have h1 := (len_phr (l.length + 1) [] l b).1
  have h2 := len_tkm 60 (phraseR l b).2.1
  have h3 := len_addrR (tkm 60 (phraseR l b).2.1).2 ((phraseR l b).2.2 || !(tkm 60 (phraseR l b).2.1).1)
  have h4 := len_tkm 62 (addrR (tkm 60 (phraseR l b).2.1).2 ((phraseR l b).2.2 || !(tkm 60 (phraseR l b).2.1).1)).2.1
  have h5 : (phraseR l b).2.1.length ≤ l.length := h1
  omega
theorem len_elemR (l : List UInt8) (b : Bool) : (elemR l b).2.1.length ≤ l.length := by
  unfold elemR
  dsimp only
  have h1 := len_dropWhile blB l
  split
  · have h2 := len_addrR (l.dropWhile blB) b
    have h3 := len_dropWhile blB (addrR (l.dropWhile blB) b).2.1
    omega
  · have h2 := len_namedR (l.dropWhile blB) b
    have h3 := len_dropWhile blB (namedR (l.dropWhile blB) b).2.1
    omega
def L1 : List UInt8 := [65, 110, 110, 32, 66, 46, 32, 60, 97, 64, 98, 62, 44, 32, 99, 64, 100, 32, 44, 32, 34, 120, 44, 32, 92, 34, 121, 34, 32, 60, 101, 64, 102, 62]
theorem shown_list : listR L1 = ([⟨[65, 110, 110, 32, 66, 46], [97], [98]⟩, ⟨[], [99], [100]⟩, ⟨[120, 44, 32, 34, 121], [101], [102]⟩], 0) := by decide +kernel
theorem shown_none : listR [97, 64, 98, 44] = ([], 90) := by decide +kernel
end Go.Proofs.YtgdcdknmijeioaaDoor
