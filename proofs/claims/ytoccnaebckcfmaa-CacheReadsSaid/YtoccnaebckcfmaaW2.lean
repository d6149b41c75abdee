/- What store and load do: numbers as bytes, the lowest one first. -/
import Derived.Test.YtoccnaebckcfmaaW1
set_option linter.unusedSimpArgs false
set_option maxRecDepth 8000
set_option linter.unusedVariables false
namespace Go.Proofs.Ytoccnaebckcfmaa
open Go.RowKit

/-- Byte i of a number. -/
def le (n : Int) : Nat → Int
  | 0 => n % 256
  | 1 => n / 256 % 256
  | 2 => n / 65536 % 256
  | 3 => n / 16777216 % 256
  | _ => 0

def stored (A : Array Value) (o : Nat) (n : Int) : Nat → Array Value
  | 0 => A
  | k + 1 => (stored A o n k).setIfInBounds (o + k) (.int .u8 (le n k))

theorem stored_size (A : Array Value) (o : Nat) (n : Int) (k : Nat) : (stored A o n k).size = A.size := by
  induction k with
  | zero => rfl
  | succ k ih => simp [stored, ih]
theorem stored_ge (A : Array Value) (o : Nat) (n : Int) (k j : Nat) (h : j < o ∨ o + k ≤ j) : (stored A o n k)[j]? = A[j]? := by
  induction k with
  | zero => rfl
  | succ k ih =>
    rw [stored, Array.getElem?_setIfInBounds_ne (by omega)]
    exact ih (by omega)
theorem stored_at (A : Array Value) (o : Nat) (n : Int) (k j : Nat) (h1 : o ≤ j) (h2 : j < o + k) (h3 : j < A.size) : (stored A o n k)[j]? = some (.int .u8 (le n (j - o))) := by
  induction k with
  | zero => omega
  | succ k ih =>
    rw [stored]
    by_cases hj : j = o + k
    · subst hj
      rw [Array.getElem?_setIfInBounds_self_of_lt (by rw [stored_size]; exact h3), show o + k - o = k by omega]
    · rw [Array.getElem?_setIfInBounds_ne (by omega)]
      exact ih (by omega)

set_option maxHeartbeats 400000 in
theorem store_any (w : World) (g o L cap : Nat) (A : Array Value) (t : TypeId) (n : Int) (hb : w.heap[g]? = some (.cells A t (0, 0))) (hL : L ≤ 4) (hA : o + L ≤ A.size) (hc : ∀ j, j < L → ∃ z, A[o + j]? = some (.int .u8 z)) (h0 : 0 ≤ n) (h1 : n ≤ 9223372036854775807) :
    Calls Try.prog 80 #[.slice (some ⟨g, o, none⟩) L cap, .int .i64 n] w fun e w' => e = .returned (.tuple #[]) ∧ w'.heap[g]? = some (.cells (stored A o n L) t (0, 0)) ∧ Only [g] w w' := by
  have HB := Lib.hid hb
  have HC := Lib.hid hc
  clear hb hc
  go_enter Try.func80, Try.ntmps80
  go_wp2
  go_loopw [7] (fun i wr => ∃ k : Nat, k ≤ L ∧ i = .int .i64 k ∧ wr.heap[g]? = some (.cells (stored A o n k) t (0, 0)) ∧ Only [g] w wr) (fun i _ => L - (intOf i).toNat)
  case atStart => exact ⟨0, by omega, rfl, HB.out, Only.refl _ _⟩
  case round =>
    obtain ⟨k, hk, rfl, hb, ho⟩ := hrel
    by_cases hlt : k < L
    · obtain ⟨z, hz⟩ := HC.out k hlt
      have hcell : wr.cell? ⟨g, o + k, none⟩ = some (.int .u8 z) := by rw [cell_of_row _ _ _ _ _ _ hb, stored_ge _ _ _ _ _ (.inr (Nat.le_refl _))]; exact hz
      have hfz : wr.frozen? ⟨g, o + k, none⟩ = false := by simp [World.frozen?, hb]
      have HO := Lib.hid ho
      have HB2 := Lib.hid hb
      clear ho hb hz
      have hk4 : k = 0 ∨ k = 1 ∨ k = 2 ∨ k = 3 := by omega
      rcases hk4 with rfl | rfl | rfl | rfl
      · have hL0 : (0 : Int) < (L : Int) := by omega
        have hL1 : L ≠ 0 := by omega
        simp only [Int.natCast_zero, Nat.add_zero] at *
        go_wp2
        go_roundw
        case rel => exact ⟨1, by omega, by go_num, heap_setCell_row HB2.out _ _, HO.out.setCell (by simp) _⟩
        case measure => simp [intOf]; omega
      · go_wp2
        go_roundw
        case rel => exact ⟨2, by omega, by go_num, heap_setCell_row HB2.out _ _, HO.out.setCell (by simp) _⟩
        case measure => simp [intOf]; omega
      · go_wp2
        go_roundw
        case rel => exact ⟨3, by omega, by go_num, heap_setCell_row HB2.out _ _, HO.out.setCell (by simp) _⟩
        case measure => simp [intOf]; omega
      · go_wp2
        go_roundw
        case rel => exact ⟨4, by omega, by go_num, heap_setCell_row HB2.out _ _, HO.out.setCell (by simp) _⟩
        case measure => simp [intOf]; omega
    · have : k = L := by omega
      subst this
      have HO := Lib.hid ho
      have HB2 := Lib.hid hb
      clear ho hb
      go_wp2
      go_end0
      exact ⟨rfl, HB2.out, HO.out⟩

theorem or_add (x y : Int) (i : Nat) (hx : 0 ≤ x) (hx2 : x < 2 ^ i) (hy : 0 ≤ y) (hs : y * 2 ^ i + x < 9223372036854775808) : bits .or .i64 x (y * 2 ^ i) = x + y * 2 ^ i := by
  obtain ⟨a, rfl⟩ := Int.eq_ofNat_of_zero_le hx
  obtain ⟨c, rfl⟩ := Int.eq_ofNat_of_zero_le hy
  have e0 : (2 : Int) ^ i = ((2 ^ i : Nat) : Int) := by simp
  have e : (c : Int) * 2 ^ i = ((c * 2 ^ i : Nat) : Int) := by rw [e0, Int.natCast_mul]
  have hn : a < 2 ^ i := by rw [e0] at hx2; exact Int.ofNat_lt.1 hx2
  have hs' : c * 2 ^ i + a < 9223372036854775808 := by rw [e] at hs; generalize c * 2 ^ i = q at hs; omega
  rw [e]
  have ho : a ||| c * 2 ^ i = c * 2 ^ i + a := by
    rw [Nat.or_comm, Nat.mul_comm, Nat.two_pow_add_eq_or_of_lt hn]
  simp only [bits, BitVec.ofInt_natCast]
  have e2 : (BitVec.ofNat IntKind.i64.bits a ||| BitVec.ofNat IntKind.i64.bits (c * 2 ^ i)).toNat = c * 2 ^ i + a := by
    rw [BitVec.toNat_or, BitVec.toNat_ofNat, BitVec.toNat_ofNat, Nat.mod_eq_of_lt (by simp [IntKind.bits]; omega), Nat.mod_eq_of_lt (by simp [IntKind.bits]; omega), ho]
  rw [e2]
  simp [IntKind.wrap, IntKind.signed, IntKind.bits]
  omega
def ldF (f : Nat → Int) : Nat → Int
  | 0 => 0
  | 1 => f 0
  | 2 => f 0 + 256 * f 1
  | 3 => f 0 + 256 * f 1 + 65536 * f 2
  | _ => f 0 + 256 * f 1 + 65536 * f 2 + 16777216 * f 3

set_option maxHeartbeats 400000 in
theorem load_any (w : World) (g o L cap : Nat) (f : Nat → Int) (hL : L ≤ 4) (hc : ∀ j, j < L → w.cell? ⟨g, o + j, none⟩ = some (.int .u8 (f j))) (hf : ∀ j, 0 ≤ f j ∧ f j < 256) :
    Calls Try.prog 79 #[.slice (some ⟨g, o, none⟩) L cap] w fun e w' => e = .returned (.int .i64 (ldF f L)) ∧ w = w' := by
  have HC := Lib.hid hc
  clear hc
  go_enter Try.func79, Try.ntmps79
  go_wp2
  go_loopw [8, 3] (fun i n wr => ∃ k : Nat, k ≤ L ∧ i = .int .i64 k ∧ n = .int .i64 (ldF f k) ∧ w = wr) (fun i _ _ => L - (intOf i).toNat)
  case atStart => exact ⟨0, by omega, rfl, rfl, rfl⟩
  case round =>
    obtain ⟨k, hk, rfl, rfl, rfl⟩ := hrel
    by_cases hlt : k < L
    · have hcell := HC.out k hlt
      have hk4 : k = 0 ∨ k = 1 ∨ k = 2 ∨ k = 3 := by omega
      have h0 := hf 0
      have h1 := hf 1
      have h2 := hf 2
      have h3 := hf 3
      clear hf
      rcases hk4 with rfl | rfl | rfl | rfl
      · have OR := Lib.hid (or_add 0 (f 0) 0 (by omega) (by omega) h0.1 (by omega))
        have hL0 : (0 : Int) < (L : Int) := by omega
        have hL1 : L ≠ 0 := by omega
        simp only [ldF, Int.natCast_zero, Nat.add_zero] at *
        go_wp2
        go_roundw
        case rel =>
          refine ⟨1, by omega, by go_num, ?_, trivial⟩
          have := OR.out
          simp at this ⊢
          try exact this
        case measure => simp [intOf]; omega
      · have OR := Lib.hid (or_add (f 0) (f 1) 8 (by omega) (by omega) h1.1 (by omega))
        simp only [ldF] at *
        go_wp2
        go_roundw
        case rel =>
          refine ⟨2, by omega, by go_num, ?_, trivial⟩
          have := OR.out
          simp only [show (2 : Int) ^ 8 = 256 by rfl] at this
          rw [this]
          congr 1
          show _ = _ + _
          omega
        case measure => simp [intOf]; omega
      · have OR := Lib.hid (or_add (f 0 + 256 * f 1) (f 2) 16 (by omega) (by omega) h2.1 (by omega))
        simp only [ldF] at *
        go_wp2
        go_roundw
        case rel =>
          refine ⟨3, by omega, by go_num, ?_, trivial⟩
          have := OR.out
          simp only [show (2 : Int) ^ 16 = 65536 by rfl] at this
          rw [this]
          congr 1
          show _ = _ + _
          omega
        case measure => simp [intOf]; omega
      · have OR := Lib.hid (or_add (f 0 + 256 * f 1 + 65536 * f 2) (f 3) 24 (by omega) (by omega) h3.1 (by omega))
        simp only [ldF] at *
        go_wp2
        go_roundw
        case rel =>
          refine ⟨4, by omega, by go_num, ?_, trivial⟩
          have := OR.out
          simp only [show (2 : Int) ^ 24 = 16777216 by rfl] at this
          rw [this]
          congr 1
          show _ = _ + _
          omega
        case measure => simp [intOf]; omega
    · have : k = L := by omega
      subst this
      go_wp2
      go_ret
      exact ⟨rfl, rfl⟩

theorem ldF_le2 {n : Int} (h0 : 0 ≤ n) (h1 : n < 65536) : ldF (le n) 2 = n := by simp only [ldF, le]; omega
theorem ldF_le4 {n : Int} (h0 : 0 ≤ n) (h1 : n < 4294967296) : ldF (le n) 4 = n := by simp only [ldF, le]; omega
theorem le_bd (n : Int) (i : Nat) : 0 ≤ le n i ∧ le n i < 256 := by
  match i with
  | 0 => simp only [le]; omega
  | 1 => simp only [le]; omega
  | 2 => simp only [le]; omega
  | 3 => simp only [le]; omega
  | i + 4 => simp only [le]; omega

end Go.Proofs.Ytoccnaebckcfmaa
