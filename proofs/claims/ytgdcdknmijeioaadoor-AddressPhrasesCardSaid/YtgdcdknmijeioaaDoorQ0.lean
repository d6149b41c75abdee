/- Pure part of layer 9: bytes of addresses, pieces between dots, an address's text. -/
import Derived.Lib.Strings
import Derived.Lib.Join
import Derived.Lib.SplitLaws
import Derived.Lib.CutLaws
import Derived.Lib.Hide
set_option linter.unusedSimpArgs false
set_option linter.unusedVariables false
namespace Go.Proofs.YtgdcdknmijeioaaDoor

def ldB (c : UInt8) : Bool := (97 ≤ c.toNat && c.toNat ≤ 122) || (65 ≤ c.toNat && c.toNat ≤ 90) || (48 ≤ c.toNat && c.toNat ≤ 57)
def marksL : List UInt8 := [33, 35, 36, 37, 38, 39, 42, 43, 45, 47, 61, 63, 94, 95, 123, 124, 125, 126, 96]
def abB (c : UInt8) : Bool := ldB c || marksL.contains c
def lbB (c : UInt8) : Bool := ldB c || c == 45
def wbB (c : UInt8) : Bool := abB c || c == 46
def adB (c : UInt8) : Bool := wbB c || c == 64
def blB (c : UInt8) : Bool := c == 32 || c == 9

/-- What stands between the dots. -/
def spl : List UInt8 → List (List UInt8)
  | [] => [[]]
  | c :: t => if c = 46 then [] :: spl t else (c :: (spl t).headD []) :: (spl t).tail
theorem spl_ne (l : List UInt8) : spl l ≠ [] := by cases l <;> simp [spl]; split <;> simp
theorem spl_cons (l : List UInt8) : spl l = (spl l).headD [] :: (spl l).tail := by
  cases h : spl l with
  | nil => exact absurd h (spl_ne l)
  | cons x r => rfl
def atomP (s : List UInt8) : Bool := !s.isEmpty && s.all abB
def labelP (s : List UInt8) : Bool := !s.isEmpty && s.all lbB && s.head? != some 45 && s.getLast? != some 45
def pieceP (lab : Bool) (s : List UInt8) : Bool := if lab then labelP s else atomP s
def sideP (lab : Bool) (s : List UInt8) : Bool := decide (s.length ≤ 64) && (spl s).all (pieceP lab)
def validP (a b : List UInt8) : Bool := sideP false a && sideP true b
def loc (s : List UInt8) : List UInt8 := s.takeWhile (· != 64)
def dom (s : List UInt8) : List UInt8 := (s.dropWhile (· != 64)).drop 1
/-- The address that a text is. -/
def parseP (s : List UInt8) : Option (List UInt8 × List UInt8) := if validP (loc s) (dom s) then some (loc s, dom s) else none

/-! The pieces as the library splits. -/
theorem index_one (c : UInt8) : ∀ s : List UInt8, Lib.index s [c] = Lib.indexByte s c
  | [] => rfl
  | b :: l => by
    unfold Lib.index Lib.indexByte
    rw [index_one c l]
    by_cases h : b = c
    · subst h; simp
    · have h' : ¬ c = b := fun e => h e.symm
      simp [h, h', List.isPrefixOf]
theorem indexByte_miss (c : UInt8) : ∀ s : List UInt8, (∀ x ∈ s, x ≠ c) → Lib.indexByte s c = -1
  | [], _ => rfl
  | b :: l, h => by
    unfold Lib.indexByte
    rw [indexByte_miss c l (fun x hx => h x (List.mem_cons_of_mem _ hx))]
    have := h b (List.mem_cons_self ..)
    simp [this]
theorem indexByte_hit (c : UInt8) : ∀ (a b : List UInt8), (∀ x ∈ a, x ≠ c) → Lib.indexByte (a ++ c :: b) c = a.length
  | [], b, _ => by simp [Lib.indexByte]
  | x :: a, b, h => by
    rw [List.cons_append]
    unfold Lib.indexByte
    rw [indexByte_hit c a b (fun x hx => h x (List.mem_cons_of_mem _ hx))]
    have := h x (List.mem_cons_self ..)
    have h2 : ¬ ((a.length : Int) == -1) = true := by simp
    simp [this, h2]
theorem takeWhile_ne (c : UInt8) (s : List UInt8) : ∀ x ∈ s.takeWhile (· != c), x ≠ c := by
  induction s with
  | nil => simp
  | cons b t ih =>
    intro x hx
    rw [List.takeWhile_cons] at hx
    split at hx
    · rename_i hb
      rcases List.mem_cons.1 hx with rfl | h
      · simpa using hb
      · exact ih x h
    · simp at hx
theorem dropWhile_at (c : UInt8) (s : List UInt8) : s.dropWhile (· != c) = [] ∨ ∃ t, s.dropWhile (· != c) = c :: t := by
  induction s with
  | nil => exact .inl rfl
  | cons b t ih =>
    rw [List.dropWhile_cons]
    split
    · exact ih
    · rename_i h
      exact .inr ⟨t, by simp at h; rw [h]⟩
theorem index_at (c : UInt8) (s : List UInt8) : (s.dropWhile (· != c) = [] ∧ Lib.index s [c] = -1) ∨ (∃ t, s.dropWhile (· != c) = c :: t ∧ Lib.index s [c] = (s.takeWhile (· != c)).length) := by
  have hs : s.takeWhile (· != c) ++ s.dropWhile (· != c) = s := List.takeWhile_append_dropWhile
  rcases dropWhile_at c s with h | ⟨t, h⟩
  · refine .inl ⟨h, ?_⟩
    rw [h, List.append_nil] at hs
    rw [index_one, ← hs]
    exact indexByte_miss _ _ (takeWhile_ne c s)
  · refine .inr ⟨t, h, ?_⟩
    rw [h] at hs
    conv => lhs; rw [← hs]
    rw [index_one]
    exact indexByte_hit _ _ _ (takeWhile_ne c s)
theorem take_takeWhile {p : UInt8 → Bool} (s : List UInt8) : s.take (s.takeWhile p).length = s.takeWhile p := by
  have h := List.take_left (l₁ := s.takeWhile p) (l₂ := s.dropWhile p)
  rwa [List.takeWhile_append_dropWhile] at h
theorem drop_takeWhile {p : UInt8 → Bool} (s : List UInt8) : s.drop (s.takeWhile p).length = s.dropWhile p := by
  have h := List.drop_left (l₁ := s.takeWhile p) (l₂ := s.dropWhile p)
  rwa [List.takeWhile_append_dropWhile] at h
theorem cut_eq (s : List UInt8) : (Lib.cut s [64]).1 = loc s ∧ (Lib.cut s [64]).2.1 = dom s := by
  unfold Lib.cut loc dom
  rcases index_at 64 s with ⟨h1, h2⟩ | ⟨t, h1, h2⟩
  · rw [h2, if_neg (by decide), h1]
    have hs := List.takeWhile_append_dropWhile (p := (· != (64 : UInt8))) (l := s)
    rw [h1, List.append_nil] at hs
    exact ⟨hs.symm, rfl⟩
  · rw [h2, if_pos (by omega)]
    refine ⟨?_, ?_⟩
    · show s.take _ = _
      rw [Int.toNat_natCast, take_takeWhile]
    · show s.drop _ = _
      rw [Int.toNat_natCast, ← List.drop_drop, drop_takeWhile]
      rfl
theorem spl_app (a t : List UInt8) (h : ∀ x ∈ a, x ≠ 46) : spl (a ++ 46 :: t) = a :: spl t := by
  induction a with
  | nil => simp [spl]
  | cons x r ih =>
    have hx := h x (List.mem_cons_self ..)
    rw [List.cons_append, spl, if_neg hx, ih (fun y hy => h y (List.mem_cons_of_mem _ hy))]
    rfl
theorem spl_all (a : List UInt8) (h : ∀ x ∈ a, x ≠ 46) : spl a = [a] := by
  induction a with
  | nil => rfl
  | cons x r ih =>
    have hx := h x (List.mem_cons_self ..)
    rw [spl, if_neg hx, ih (fun y hy => h y (List.mem_cons_of_mem _ hy))]
    rfl
theorem splitK_spl : ∀ (k : Nat) (s : List UInt8), s.count 46 = k → Lib.splitK [46] 0 k s = spl s
  | 0, s, h => by
    have hm : ∀ x ∈ s, x ≠ 46 := by
      intro x hx e
      subst e
      have := List.count_pos_iff.2 hx
      omega
    rw [spl_all s hm]
    rfl
  | k + 1, s, h => by
    have hs := List.takeWhile_append_dropWhile (p := (· != (46 : UInt8))) (l := s)
    have hn := takeWhile_ne 46 s
    rcases index_at 46 s with ⟨h1, h2⟩ | ⟨t, h1, h2⟩
    · rw [h1, List.append_nil] at hs
      have : s.count 46 = 0 := by
        rw [← hs]
        exact List.count_eq_zero.2 (fun hx => hn 46 hx rfl)
      omega
    · have e1 : s.take ((Lib.index s [46]).toNat + 0) = s.takeWhile (· != 46) := by rw [h2, Int.toNat_natCast, Nat.add_zero, take_takeWhile]
      have e2 : s.drop ((Lib.index s [46]).toNat + [(46 : UInt8)].length) = t := by
        rw [h2, Int.toNat_natCast, ← List.drop_drop, drop_takeWhile, h1]
        rfl
      have hne : ¬ (Lib.index s [46] == -1) = true := by rw [h2]; simp
      rw [Lib.splitK, if_neg hne, e1, e2]
      generalize s.takeWhile (· != 46) = a at *
      rw [h1] at hs
      have hc : t.count 46 = k := by
        rw [← hs, List.count_append, List.count_cons_self, List.count_eq_zero.2 (fun hx => hn 46 hx rfl)] at h
        omega
      rw [splitK_spl k t hc, ← hs, spl_app a t hn]
theorem splitB_spl (s : ByteArray) : (Lib.splitB ⟨#[46]⟩ 0 (Lib.countB s ⟨#[46]⟩) s).map (·.data.toList) = spl s.data.toList := by
  rw [Lib.splitB_data]
  exact splitK_spl _ _ (Lib.count_one 46 s.data.toList).symm

/-! The document's way through a side. -/
def endP (lab : Bool) (p : List UInt8) : Bool := !p.isEmpty && !(lab && (p.head? == some 45 || p.getLast? == some 45))
def okB (lab : Bool) (c : UInt8) : Bool := if lab then lbB c else abB c
def dotS (lab : Bool) : List UInt8 → List UInt8 → Bool
  | p, [] => endP lab p
  | p, c :: t => if c = 46 then endP lab p && dotS lab [] t else okB lab c && dotS lab (p ++ [c]) t
theorem piece_eq (lab : Bool) (p : List UInt8) : pieceP lab p = (endP lab p && p.all (okB lab)) := by
  unfold pieceP endP labelP atomP okB
  cases lab
  · simp
  · simp
    cases p.isEmpty <;> simp
    cases p.all lbB <;> simp
    · rfl
theorem dotS_spl (lab : Bool) : ∀ (t p : List UInt8), p.all (okB lab) = true → dotS lab p t = (pieceP lab (p ++ (spl t).headD []) && (spl t).tail.all (pieceP lab))
  | [], p, h => by simp [dotS, spl, piece_eq, h]
  | c :: t, p, h => by
    unfold dotS
    by_cases hc : c = 46
    · rw [if_pos hc, dotS_spl lab t [] rfl, spl, if_pos hc, piece_eq lab (p ++ _)]
      have := spl_cons t
      simp only [List.headD_cons, List.append_nil, h, Bool.and_true, List.tail_cons, List.nil_append]
      conv => rhs; rw [this]
      rw [List.all_cons]
    · rw [if_neg hc, spl, if_neg hc]
      simp only [List.headD_cons, List.tail_cons]
      by_cases ho : okB lab c = true
      · rw [ho, Bool.true_and, dotS_spl lab t (p ++ [c]) (by simp [h, ho])]
        simp
      · simp only [Bool.not_eq_true] at ho
        rw [ho, Bool.false_and, piece_eq]
        simp [ho]
theorem dotS_all (lab : Bool) (s : List UInt8) : dotS lab [] s = (spl s).all (pieceP lab) := by
  rw [dotS_spl lab s [] rfl, List.nil_append]
  conv => rhs; rw [spl_cons s, List.all_cons]
theorem sideP_nil (lab : Bool) : sideP lab [] = false := by cases lab <;> rfl
theorem sideP_dot (lab : Bool) (s : List UInt8) : sideP lab s = (decide (1 ≤ s.length ∧ s.length ≤ 64) && dotS lab [] s) := by
  cases s with
  | nil => rw [sideP_nil]; rfl
  | cons c t => rw [dotS_all]; unfold sideP; simp
end Go.Proofs.YtgdcdknmijeioaaDoor
