/- What a text of Internal's form says. -/
import Derived.Test.YtjbojboiagbofaaDoorC27
set_option linter.unusedSimpArgs false
set_option linter.unusedVariables false
namespace Go.Proofs.YtjbojboiagbofaaDoor
open Go.RowKit Go.Shelf

def at0 (l : List UInt8) (i : Nat) : UInt8 := l.getD i 0
def sl (l : List UInt8) (a b : Nat) : List UInt8 := (l.drop a).take (b - a)
def dayR (l : List UInt8) : List UInt8 := if at0 l 0 = 32 then sl l 1 2 else sl l 0 2
/-- The marks stand where they should. -/
def marksR (l : List UInt8) : Prop := l.length = 26 ∧ at0 l 2 = 45 ∧ at0 l 6 = 45 ∧ at0 l 11 = 32 ∧ at0 l 14 = 58 ∧ at0 l 17 = 58 ∧ at0 l 20 = 32 ∧ (at0 l 21 = 43 ∨ at0 l 21 = 45)
def digsR (l : List UInt8) : Prop := dB (dayR l) = true ∧ dB (sl l 7 11) = true ∧ dB (sl l 12 14) = true ∧ dB (sl l 15 17) = true ∧ dB (sl l 18 20) = true ∧ dB (sl l 22 24) = true ∧ dB (sl l 24 26) = true ∧ at0 l 0 ≠ 48 ∧ dV (sl l 22 24) ≤ 14 ∧ dV (sl l 24 26) ≤ 59
def zR (l : List UInt8) : Int := if at0 l 21 = 43 then 3600 * (dV (sl l 22 24) : Int) + 60 * dV (sl l 24 26) else -(3600 * (dV (sl l 22 24) : Int) + 60 * dV (sl l 24 26))
open Classical in
noncomputable def secZ (y m d h mi se z : Int) : Int × Int := if q : ∃ v, Sec 2136 y m d h mi se v ∧ 0 ≤ v - z ∧ v - z ≤ 4294967295 then (Classical.choose q - z, 0) else (0, 80)
theorem secZ_some {y m d h mi se v z : Int} (a : Sec 2136 y m d h mi se v) (h0 : 0 ≤ v - z ∧ v - z ≤ 4294967295) : secZ y m d h mi se z = (v - z, 0) := by
  have q : ∃ v, Sec 2136 y m d h mi se v ∧ 0 ≤ v - z ∧ v - z ≤ 4294967295 := ⟨v, a, h0⟩
  unfold secZ
  rw [dif_pos q, (Classical.choose_spec q).1.fun a]
theorem secZ_none {y m d h mi se z : Int} (a : ¬ ∃ v, Sec 2136 y m d h mi se v ∧ 0 ≤ v - z ∧ v - z ≤ 4294967295) : secZ y m d h mi se z = (0, 80) := by
  unfold secZ
  rw [dif_neg a]
open Classical in
/-- What the text l says. -/
noncomputable def parR (l : List UInt8) : Int × Int := if marksR l ∧ digsR l then secZ (dV (sl l 7 11)) (monV (sl l 3 6)) (dV (dayR l)) (dV (sl l 12 14)) (dV (sl l 15 17)) (dV (sl l 18 20)) (zR l) else (0, 80)
theorem parR_no {l : List UInt8} (h : ¬ (marksR l ∧ digsR l)) : parR l = (0, 80) := by unfold parR; rw [if_neg h]
theorem parR_yes {l : List UInt8} (h : marksR l ∧ digsR l) : parR l = secZ (dV (sl l 7 11)) (monV (sl l 3 6)) (dV (dayR l)) (dV (sl l 12 14)) (dV (sl l 15 17)) (dV (sl l 18 20)) (zR l) := by unfold parR; rw [if_pos h]
theorem dg_lt (x : List UInt8) : ∀ n r, dg x n = some r → r < (n + 1) * pw x.length := by
  induction x with
  | nil => intro n r h; simp [dg] at h; subst h; simp [pw]
  | cons c t ih =>
    intro n r h
    rw [dg] at h
    split at h
    · rename_i hc
      have h1 := ih _ _ h
      refine Nat.lt_of_lt_of_le h1 ?_
      show _ ≤ (n + 1) * (pw t.length * 10)
      calc (n * 10 + (c.toNat - 48) + 1) * pw t.length ≤ ((n + 1) * 10) * pw t.length := Nat.mul_le_mul_right _ (by omega)
        _ = (n + 1) * (pw t.length * 10) := by rw [Nat.mul_assoc, Nat.mul_comm 10]
    · cases h
theorem dV_lt (x : List UInt8) : dV x < pw x.length := by
  unfold dV
  cases h : dg x 0 with
  | none => exact pw_pos _
  | some r => have := dg_lt x 0 r h; simpa using this
theorem sl_len (l : List UInt8) (a b : Nat) : (sl l a b).length ≤ b - a := by unfold sl; simp; omega
theorem dV2 (l : List UInt8) (a : Nat) : dV (sl l a (a + 2)) < 100 := by
  have := dV_lt (sl l a (a + 2))
  have h2 := pw_mono (k := (sl l a (a + 2)).length) (j := 2) (by have := sl_len l a (a + 2); omega)
  have : pw 2 = 100 := by decide
  omega
theorem dV4 (l : List UInt8) (a : Nat) : dV (sl l a (a + 4)) < 10000 := by
  have := dV_lt (sl l a (a + 4))
  have h2 := pw_mono (k := (sl l a (a + 4)).length) (j := 4) (by have := sl_len l a (a + 4); omega)
  have : pw 4 = 10000 := by decide
  omega
theorem str_sl (l : List UInt8) (a b : Nat) : (⟨l.toArray⟩ : ByteArray).extract a b = ⟨(sl l a b).toArray⟩ := by
  apply ByteArray.ext
  apply Array.ext'
  simp [ByteArray.data_extract, sl]
theorem str_at (l : List UInt8) (i : Nat) (h : i < (⟨l.toArray⟩ : ByteArray).size) : (⟨l.toArray⟩ : ByteArray)[i]'h = at0 l i := by
  have h' : i < l.length := h
  unfold at0
  rw [List.getD_eq_getElem?_getD, List.getElem?_eq_getElem h']
  rfl
/-- The last of the first i months that has the name x. -/
def lastM (x : List UInt8) : Nat → Nat
  | 0 => 0
  | i + 1 => if mon i = x then i + 1 else lastM x i
theorem last_mon (x : List UInt8) : lastM x 12 = monV x := by
  by_cases h : ∃ j : Fin 12, x = mon j.val
  · obtain ⟨j, rfl⟩ := h
    have : ∀ j : Fin 12, lastM (mon j.val) 12 = monV (mon j.val) := by decide
    exact this j
  · have hn : ∀ i, i < 12 → x ≠ mon i := fun i hi e => h ⟨⟨i, hi⟩, e⟩
    have h1 : ∀ i, i ≤ 12 → lastM x i = 0 := by
      intro i
      induction i with
      | zero => intro _; rfl
      | succ i ih => intro hi; rw [lastM, if_neg (fun e => hn i (by omega) e.symm)]; exact ih (by omega)
    have h2 : ∀ i, i ≤ 12 → monI x i = 0 := by
      intro i
      induction i with
      | zero => intro _; rfl
      | succ i ih => intro hi; rw [monI, if_neg (hn _ (by omega))]; exact ih (by omega)
    rw [h1 12 (Nat.le_refl _)]
    exact (h2 12 (Nat.le_refl _)).symm
theorem lastM_le (x : List UInt8) : ∀ i, lastM x i ≤ i := by
  intro i
  induction i with
  | zero => exact Nat.le_refl _
  | succ i ih => rw [lastM]; split <;> omega
theorem monV_le (x : List UInt8) : monV x ≤ 12 := by rw [← last_mon]; exact lastM_le x 12
end Go.Proofs.YtjbojboiagbofaaDoor
