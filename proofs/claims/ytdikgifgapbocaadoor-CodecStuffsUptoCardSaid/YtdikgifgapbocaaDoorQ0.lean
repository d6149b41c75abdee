/- Pure part of layer 7: letters of six bits, written and read. -/
import Derived.Lib.Bytealg
import Derived.Lib.Hide
set_option linter.unusedSimpArgs false
set_option linter.unusedVariables false
set_option maxRecDepth 8000
namespace Go.Proofs.YtdikgifgapbocaaDoor

def alph : List UInt8 := [65,66,67,68,69,70,71,72,73,74,75,76,77,78,79,80,81,82,83,84,85,86,87,88,89,90,97,98,99,100,101,102,103,104,105,106,107,108,109,110,111,112,113,114,115,116,117,118,119,120,121,122,48,49,50,51,52,53,54,55,56,57,43,47]
def lt (n : Nat) : UInt8 := alph.getD n 0

def enc : List UInt8 → List UInt8
  | [] => []
  | [a] => [lt (a.toNat / 4), lt (a.toNat % 4 * 16), 61, 61]
  | [a, b] => [lt (a.toNat / 4), lt (a.toNat % 4 * 16 + b.toNat / 16), lt (b.toNat % 16 * 4), 61]
  | a :: b :: c :: t => lt (a.toNat / 4) :: lt (a.toNat % 4 * 16 + b.toNat / 16) :: lt (b.toNat % 16 * 4 + c.toNat / 64) :: lt (c.toNat % 64) :: enc t

/-- Its letters, without the padding. -/
def lets : List UInt8 → List UInt8
  | [] => []
  | [a] => [lt (a.toNat / 4), lt (a.toNat % 4 * 16)]
  | [a, b] => [lt (a.toNat / 4), lt (a.toNat % 4 * 16 + b.toNat / 16), lt (b.toNat % 16 * 4)]
  | a :: b :: c :: t => lt (a.toNat / 4) :: lt (a.toNat % 4 * 16 + b.toNat / 16) :: lt (b.toNat % 16 * 4 + c.toNat / 64) :: lt (c.toNat % 64) :: lets t

/-- What a letter says; -1: none. -/
def val (c : Int) : Int :=
  if 65 ≤ c ∧ c ≤ 90 then c - 65 else if 97 ≤ c ∧ c ≤ 122 then c - 71 else if 48 ≤ c ∧ c ≤ 57 then c + 4 else if c = 43 then 62 else if c = 47 then 63 else -1

def dec : List UInt8 → Nat → Nat → List UInt8 → Option (List UInt8)
  | out, _, _, [] => some out
  | out, bits, many, c :: t =>
    if val c.toNat < 0 then none
    else if many + 6 ≥ 8 then dec (out ++ [UInt8.ofNat ((bits * 64 + (val c.toNat).toNat) / 2 ^ (many - 2))]) ((bits * 64 + (val c.toNat).toNat) % 2 ^ (many - 2)) (many - 2) t
    else dec out (bits * 64 + (val c.toNat).toNat) (many + 6) t

theorem lt_val (n : Nat) (h : n < 64) : val (lt n).toNat = n := by
  have : ∀ m : Fin 64, val (lt m.val).toNat = m.val := by decide +kernel
  exact this ⟨n, h⟩
theorem lt_ne (n : Nat) (h : n < 64) : lt n ≠ 61 := by
  have : ∀ m : Fin 64, lt m.val ≠ 61 := by decide +kernel
  exact this ⟨n, h⟩
theorem val_index (c : UInt8) : Lib.indexByte alph c = val c.toNat := by
  have : ∀ m : Fin 256, Lib.indexByte alph (UInt8.ofNat m.val) = val (UInt8.ofNat m.val).toNat := by decide +kernel
  have h := this ⟨c.toNat, c.toNat_lt⟩
  simpa using h
theorem val_lt (c : Int) : val c < 64 := by unfold val; repeat' split <;> omega
theorem val_ge (c : Int) : -1 ≤ val c := by unfold val; repeat' split <;> omega

theorem enc_lets (l : List UInt8) : ∃ k, k ≤ 2 ∧ enc l = lets l ++ List.replicate k 61 := by
  induction l using enc.induct with
  | case1 => exact ⟨0, by omega, rfl⟩
  | case2 a => exact ⟨2, by omega, rfl⟩
  | case3 a b => exact ⟨1, by omega, rfl⟩
  | case4 a b c t ih => 
    obtain ⟨k, hk, h⟩ := ih
    exact ⟨k, hk, by simp [enc, lets, h]⟩
theorem lets_ne (l : List UInt8) : ∀ c ∈ lets l, c ≠ 61 := by
  induction l using enc.induct with
  | case1 => simp [lets]
  | case2 a => 
    have := a.toNat_lt
    simp only [lets, List.forall_mem_cons]
    exact ⟨lt_ne _ (by omega), lt_ne _ (by omega), by simp⟩
  | case3 a b => 
    have := a.toNat_lt
    have := b.toNat_lt
    simp only [lets, List.forall_mem_cons]
    exact ⟨lt_ne _ (by omega), lt_ne _ (by omega), lt_ne _ (by omega), by simp⟩
  | case4 a b c t ih => 
    have := a.toNat_lt
    have := b.toNat_lt
    have := c.toNat_lt
    simp only [lets, List.forall_mem_cons]
    exact ⟨lt_ne _ (by omega), lt_ne _ (by omega), lt_ne _ (by omega), lt_ne _ (by omega), ih⟩
theorem val_neg (n : Nat) (h : n < 64) : ¬ val (lt n).toNat < 0 := by rw [lt_val n h]; omega

theorem dec_step0 (out : List UInt8) (bits : Nat) (n : Nat) (h : n < 64) (t : List UInt8) : dec out bits 0 (lt n :: t) = dec out (bits * 64 + n) 6 t := by
  rw [dec, if_neg (val_neg n h), if_neg (by omega), lt_val n h]; simp
theorem dec_step (out : List UInt8) (bits many : Nat) (hm : 2 ≤ many) (n : Nat) (h : n < 64) (t : List UInt8) : dec out bits many (lt n :: t) = dec (out ++ [UInt8.ofNat ((bits * 64 + n) / 2 ^ (many - 2))]) ((bits * 64 + n) % 2 ^ (many - 2)) (many - 2) t := by
  rw [dec, if_neg (val_neg n h), if_pos (by omega), lt_val n h]; simp
theorem of_eq (a : UInt8) (n : Nat) (h : n = a.toNat) : UInt8.ofNat n = a := by subst h; simp

theorem dec_lets (l : List UInt8) : ∀ out, dec out 0 0 (lets l) = some (out ++ l) := by
  induction l using enc.induct with
  | case1 => intro out; simp [lets, dec]
  | case2 a => 
    intro out
    have := a.toNat_lt
    rw [lets, dec_step0 _ _ _ (by omega), dec_step _ _ _ (by omega) _ (by omega), dec]
    rw [of_eq a _ (by simp only [show 6 - 2 = 4 from rfl, show (2 : Nat) ^ 4 = 16 from rfl]; omega)]
  | case3 a b => 
    intro out
    have := a.toNat_lt
    have := b.toNat_lt
    rw [lets, dec_step0 _ _ _ (by omega), dec_step _ _ _ (by omega) _ (by omega), dec_step _ _ _ (by omega) _ (by omega), dec]
    simp only [show 6 - 2 = 4 from rfl, show (2 : Nat) ^ 4 = 16 from rfl, show 4 - 2 = 2 from rfl, show (2 : Nat) ^ 2 = 4 from rfl]
    rw [of_eq a _ (by omega), of_eq b _ (by omega)]
    simp
  | case4 a b c t ih => 
    intro out
    have := a.toNat_lt
    have := b.toNat_lt
    have := c.toNat_lt
    rw [lets, dec_step0 _ _ _ (by omega), dec_step _ _ _ (by omega) _ (by omega), dec_step _ _ _ (by omega) _ (by omega), dec_step _ _ _ (by omega) _ (by omega)]
    simp only [show 6 - 2 = 4 from rfl, show (2 : Nat) ^ 4 = 16 from rfl, show 4 - 2 = 2 from rfl, show (2 : Nat) ^ 2 = 4 from rfl, show 2 - 2 = 0 from rfl, show (2 : Nat) ^ 0 = 1 from rfl]
    rw [of_eq a _ (by omega), of_eq b _ (by omega), of_eq c _ (by omega), Nat.mod_one, ih]
    simp
theorem enc_len (l : List UInt8) : (enc l).length ≤ 4 * l.length := by
  induction l using enc.induct with
  | case1 => simp [enc]
  | case2 a => simp [enc]
  | case3 a b => simp [enc]
  | case4 a b c t ih => simp [enc]; omega
theorem dec_len (l : List UInt8) : ∀ out bits many r, dec out bits many l = some r → r.length ≤ out.length + l.length := by
  induction l with
  | nil => intro out bits many r h; simp [dec] at h; simp [h]
  | cons c t ih =>
    intro out bits many r h
    rw [dec] at h
    split at h
    · cases h
    · split at h
      · have := ih _ _ _ _ h; simp at this ⊢; omega
      · have := ih _ _ _ _ h; simp at this ⊢; omega
theorem enc_inj {a b : List UInt8} (h : enc a = enc b) : a = b := by
  obtain ⟨k, _, h1⟩ := enc_lets a
  obtain ⟨j, _, h2⟩ := enc_lets b
  have tk : ∀ (l : List UInt8) k, (∀ c ∈ l, c ≠ 61) → (l ++ List.replicate k 61).takeWhile (fun c => c != 61) = l := by
    intro l k hl
    rw [List.takeWhile_append_of_pos (by intro c hc; simpa using hl c hc)]
    cases k with
    | zero => simp
    | succ k => simp [List.replicate_succ]
  have : lets a = lets b := by
    rw [← tk _ k (lets_ne a), ← tk _ j (lets_ne b), ← h1, ← h2, h]
  have e1 := dec_lets a []
  have e2 := dec_lets b []
  rw [this, e2] at e1
  simpa using e1.symm
theorem take_enc (l : List UInt8) : (enc l).takeWhile (fun c => c != 61) = lets l := by
  obtain ⟨k, _, h1⟩ := enc_lets l
  rw [h1, List.takeWhile_append_of_pos (by intro c hc; simpa using lets_ne l c hc)]
  cases k with
  | zero => simp
  | succ k => simp [List.replicate_succ]
end Go.Proofs.YtdikgifgapbocaaDoor
