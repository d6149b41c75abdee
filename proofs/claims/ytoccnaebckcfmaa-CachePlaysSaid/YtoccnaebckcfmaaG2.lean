/- What the log's small functions of numbers do. What store and load do: numbers as bytes, the lowest one first. What a head's bytes are, and how they are read back. A head read back; bytes as strings. Puts in memory; what writeAll does. What writeHead does. What owns does; laws of single operations. What valid does. What pack does. A slice of puts that is built by append. What copies does. What finish and Commit do. -/
import Derived.Test.YtoccnaebckcfmaaG1
import Derived.Lib.BufferWrite
import Derived.Deep.OwnRows
section
set_option linter.unusedSimpArgs false
set_option maxRecDepth 8000
namespace Go.Proofs.Ytoccnaebckcfmaa
open Go.RowKit

def roomF (size : Int) : Int := if size < 3 then 0 else size - 1 - (size - 1 - 1) / 33 - 1
theorem roomF_lt {n : Int} (h : n < 3) : roomF n = 0 := if_pos h
theorem roomF_bd {n : Int} (h : 3 ≤ n) : 1 ≤ roomF n ∧ roomF n ≤ n - 2 := by
  rw [roomF, if_neg (by omega)]; omega
theorem roomF_nn (n : Int) : 0 ≤ roomF n := by
  rw [roomF]; split <;> omega
theorem ret_int {k : IntKind} {a b : Int} (h : a = b) : Ending.returned (.int k a) = .returned (.int k b) := by rw [h]
theorem ret_bool {a b : Bool} (h : a = b) : Ending.returned (.bool a) = .returned (.bool b) := by rw [h]

set_option maxHeartbeats 400000 in
theorem room_any (n : Int) (w : World) (h1 : n ≤ 9223372036854775807) :
    Calls Try.prog 60 #[.int .i64 n] w fun e w' => e = .returned (.int .i64 (roomF n)) ∧ w = w' := by
  by_cases h : n < 3
  · go_enter Try.func60, Try.ntmps60
    go_wp2
    go_ret
    exact ⟨ret_int (roomF_lt h).symm, rfl⟩
  · have HK : Hid (n - 1 - (n - 1 - 1) / 33 - 1 = roomF n) := by
      show n - 1 - (n - 1 - 1) / 33 - 1 = roomF n
      rw [roomF, if_neg h]
    go_enter Try.func60, Try.ntmps60
    go_wp2
    go_ret
    exact ⟨ret_int HK.out, rfl⟩

def numsF (n : Nat) : Nat := (n + 31) / 32

set_option maxHeartbeats 400000 in
theorem nums_any (n : Nat) (w : World) (h1 : n ≤ 1000000000) :
    Calls Try.prog 85 #[.int .i64 n] w fun e w' => e = .returned (.int .i64 (numsF n)) ∧ w = w' := by
  have HK : Hid (((n : Int) + 32 - 1) / 32 = (numsF n : Int)) := by
    show ((n : Int) + 32 - 1) / 32 = (numsF n : Int)
    rw [numsF]; omega
  go_enter Try.func85, Try.ntmps85
  go_wp2
  go_ret
  exact ⟨ret_int HK.out, rfl⟩

def amongF (c n : Int) : Int := (if c < 0 then -(c + 1) else c) % n
theorem amongF_bd (c n : Int) (h : 0 < n) : 0 ≤ amongF c n ∧ amongF c n < n := ⟨Int.emod_nonneg _ (by omega), Int.emod_lt_of_pos _ h⟩

/-- A sector of one byte, and another one at its end. -/
def fullB (c l : Int) : Array Value := (fullA c).setIfInBounds 63 (.int .u8 l)
theorem fullB_ok (c l : Int) : SecOk (fullB c l) := ⟨by simp [fullB, fullA], by
  rw [Array.all_eq_true_iff_forall_mem]; intro x hx
  rcases Array.mem_or_eq_of_mem_setIfInBounds hx with hx | hx
  · simp [fullA] at hx; rw [hx]; rfl
  · rw [hx]; rfl⟩

set_option maxHeartbeats 400000 in
theorem possible_any {w : World} {b : Nat} {F : List Nat} {S : St} (h : DAt w b F S) (at' size : Int) (h0 : -9223372036854775808 ≤ at') (h1 : at' ≤ 9223372036854775807) (h2 : -9223372036854775808 ≤ size) (h3 : size ≤ 9223372036854775807) :
    Calls Try.prog 56 #[.pointer (some ⟨b, 0, none⟩), .int .i64 at', .int .i64 size] w fun e w' => e = .returned (.bool (decide (3 ≤ size ∧ 0 ≤ at' ∧ at' ≤ S.n - size))) ∧ w = w' := by
  have R := Lib.hid (room_any size w h3)
  have L := Lib.hid (len_any h)
  obtain ⟨mn, ms, pv, h, -⟩ := h
  have n0 := h.ok.n0
  have n1 := h.ok.n1
  clear h
  by_cases c1 : size < 3
  · have e1 : ¬ 0 < roomF size := by rw [roomF_lt c1]; omega
    go_enter Try.func56, Try.ntmps56
    go_wp2_with (first | (go_at_call 60; refine R.out.mono ?_; rintro e w' ⟨rfl, rfl⟩))
    go_ret
    exact ⟨ret_bool (by simp; omega), rfl⟩
  · have e1 : 0 < roomF size := by have := roomF_bd (n := size) (by omega); omega
    by_cases c2 : 0 ≤ at'
    · by_cases c3 : at' ≤ S.n - size
      · go_enter Try.func56, Try.ntmps56
        go_wp2_with (first | (go_at_call 60; refine R.out.mono ?_; rintro e w' ⟨rfl, rfl⟩) | (go_at_call 45; refine L.out.mono ?_; rintro e w' ⟨rfl, rfl⟩))
        go_ret
        exact ⟨ret_bool (by simp; omega), rfl⟩
      · go_enter Try.func56, Try.ntmps56
        go_wp2_with (first | (go_at_call 60; refine R.out.mono ?_; rintro e w' ⟨rfl, rfl⟩) | (go_at_call 45; refine L.out.mono ?_; rintro e w' ⟨rfl, rfl⟩))
        go_ret
        exact ⟨ret_bool (by have : ¬ (3 ≤ size ∧ 0 ≤ at' ∧ at' ≤ S.n - size) := by omega
                            rw [decide_eq_false this, decide_eq_false (by omega)]), rfl⟩
    · go_enter Try.func56, Try.ntmps56
      go_wp2_with (first | (go_at_call 60; refine R.out.mono ?_; rintro e w' ⟨rfl, rfl⟩))
      go_ret
      exact ⟨ret_bool (by simp; omega), rfl⟩

end Go.Proofs.Ytoccnaebckcfmaa
end

section
set_option linter.unusedSimpArgs false
set_option maxRecDepth 8000
set_option linter.unusedVariables false
namespace Go.Proofs.Ytoccnaebckcfmaa
open Go.RowKit

/-- Byte i of a number. -/
def le (n : Int) : Nat → Int
  | 0 => n % 256
  | 1 => n / 256 % 256
  | 2 => n / 65536 % 256
  | 3 => n / 16777216 % 256
  | _ => 0

def stored (A : Array Value) (o : Nat) (n : Int) : Nat → Array Value
  | 0 => A
  | k + 1 => (stored A o n k).setIfInBounds (o + k) (.int .u8 (le n k))

theorem stored_size (A : Array Value) (o : Nat) (n : Int) (k : Nat) : (stored A o n k).size = A.size := by
  induction k with
  | zero => rfl
  | succ k ih => simp [stored, ih]
theorem stored_ge (A : Array Value) (o : Nat) (n : Int) (k j : Nat) (h : j < o ∨ o + k ≤ j) : (stored A o n k)[j]? = A[j]? := by
  induction k with
  | zero => rfl
  | succ k ih =>
    rw [stored, Array.getElem?_setIfInBounds_ne (by omega)]
    exact ih (by omega)
theorem stored_at (A : Array Value) (o : Nat) (n : Int) (k j : Nat) (h1 : o ≤ j) (h2 : j < o + k) (h3 : j < A.size) : (stored A o n k)[j]? = some (.int .u8 (le n (j - o))) := by
  induction k with
  | zero => omega
  | succ k ih =>
    rw [stored]
    by_cases hj : j = o + k
    · subst hj
      rw [Array.getElem?_setIfInBounds_self_of_lt (by rw [stored_size]; exact h3), show o + k - o = k by omega]
    · rw [Array.getElem?_setIfInBounds_ne (by omega)]
      exact ih (by omega)

set_option maxHeartbeats 400000 in
theorem store_any (w : World) (g o L cap : Nat) (A : Array Value) (t : TypeId) (n : Int) (hb : w.heap[g]? = some (.cells A t (0, 0))) (hL : L ≤ 4) (hA : o + L ≤ A.size) (hc : ∀ j, j < L → ∃ z, A[o + j]? = some (.int .u8 z)) (h0 : 0 ≤ n) (h1 : n ≤ 9223372036854775807) :
    Calls Try.prog 80 #[.slice (some ⟨g, o, none⟩) L cap, .int .i64 n] w fun e w' => e = .returned (.tuple #[]) ∧ w'.heap[g]? = some (.cells (stored A o n L) t (0, 0)) ∧ Only [g] w w' := by
  have HB := Lib.hid hb
  have HC := Lib.hid hc
  clear hb hc
  go_enter Try.func80, Try.ntmps80
  go_wp2
  go_loopw [7] (fun i wr => ∃ k : Nat, k ≤ L ∧ i = .int .i64 k ∧ wr.heap[g]? = some (.cells (stored A o n k) t (0, 0)) ∧ Only [g] w wr) (fun i _ => L - (intOf i).toNat)
  case atStart => exact ⟨0, by omega, rfl, HB.out, Only.refl _ _⟩
  case round =>
    obtain ⟨k, hk, rfl, hb, ho⟩ := hrel
    by_cases hlt : k < L
    · obtain ⟨z, hz⟩ := HC.out k hlt
      have hcell : wr.cell? ⟨g, o + k, none⟩ = some (.int .u8 z) := by rw [cell_of_row _ _ _ _ _ _ hb, stored_ge _ _ _ _ _ (.inr (Nat.le_refl _))]; exact hz
      have hfz : wr.frozen? ⟨g, o + k, none⟩ = false := by simp [World.frozen?, hb]
      have HO := Lib.hid ho
      have HB2 := Lib.hid hb
      clear ho hb hz
      have hk4 : k = 0 ∨ k = 1 ∨ k = 2 ∨ k = 3 := by omega
      rcases hk4 with rfl | rfl | rfl | rfl
      · have hL0 : (0 : Int) < (L : Int) := by omega
        have hL1 : L ≠ 0 := by omega
        simp only [Int.natCast_zero, Nat.add_zero] at *
        go_wp2
        go_roundw
        case rel => exact ⟨1, by omega, by go_num, heap_setCell_row HB2.out _ _, HO.out.setCell (by simp) _⟩
        case measure => simp [intOf]; omega
      · go_wp2
        go_roundw
        case rel => exact ⟨2, by omega, by go_num, heap_setCell_row HB2.out _ _, HO.out.setCell (by simp) _⟩
        case measure => simp [intOf]; omega
      · go_wp2
        go_roundw
        case rel => exact ⟨3, by omega, by go_num, heap_setCell_row HB2.out _ _, HO.out.setCell (by simp) _⟩
        case measure => simp [intOf]; omega
      · go_wp2
        go_roundw
        case rel => exact ⟨4, by omega, by go_num, heap_setCell_row HB2.out _ _, HO.out.setCell (by simp) _⟩
        case measure => simp [intOf]; omega
    · have : k = L := by omega
      subst this
      have HO := Lib.hid ho
      have HB2 := Lib.hid hb
      clear ho hb
      go_wp2
      go_end0
      exact ⟨rfl, HB2.out, HO.out⟩

theorem or_add (x y : Int) (i : Nat) (hx : 0 ≤ x) (hx2 : x < 2 ^ i) (hy : 0 ≤ y) (hs : y * 2 ^ i + x < 9223372036854775808) : bits .or .i64 x (y * 2 ^ i) = x + y * 2 ^ i := by
  obtain ⟨a, rfl⟩ := Int.eq_ofNat_of_zero_le hx
  obtain ⟨c, rfl⟩ := Int.eq_ofNat_of_zero_le hy
  have e0 : (2 : Int) ^ i = ((2 ^ i : Nat) : Int) := by simp
  have e : (c : Int) * 2 ^ i = ((c * 2 ^ i : Nat) : Int) := by rw [e0, Int.natCast_mul]
  have hn : a < 2 ^ i := by rw [e0] at hx2; exact Int.ofNat_lt.1 hx2
  have hs' : c * 2 ^ i + a < 9223372036854775808 := by rw [e] at hs; generalize c * 2 ^ i = q at hs; omega
  rw [e]
  have ho : a ||| c * 2 ^ i = c * 2 ^ i + a := by
    rw [Nat.or_comm, Nat.mul_comm, Nat.two_pow_add_eq_or_of_lt hn]
  simp only [bits, BitVec.ofInt_natCast]
  have e2 : (BitVec.ofNat IntKind.i64.bits a ||| BitVec.ofNat IntKind.i64.bits (c * 2 ^ i)).toNat = c * 2 ^ i + a := by
    rw [BitVec.toNat_or, BitVec.toNat_ofNat, BitVec.toNat_ofNat, Nat.mod_eq_of_lt (by simp [IntKind.bits]; omega), Nat.mod_eq_of_lt (by simp [IntKind.bits]; omega), ho]
  rw [e2]
  simp [IntKind.wrap, IntKind.signed, IntKind.bits]
  omega
def ldF (f : Nat → Int) : Nat → Int
  | 0 => 0
  | 1 => f 0
  | 2 => f 0 + 256 * f 1
  | 3 => f 0 + 256 * f 1 + 65536 * f 2
  | _ => f 0 + 256 * f 1 + 65536 * f 2 + 16777216 * f 3

set_option maxHeartbeats 400000 in
theorem load_any (w : World) (g o L cap : Nat) (f : Nat → Int) (hL : L ≤ 4) (hc : ∀ j, j < L → w.cell? ⟨g, o + j, none⟩ = some (.int .u8 (f j))) (hf : ∀ j, 0 ≤ f j ∧ f j < 256) :
    Calls Try.prog 79 #[.slice (some ⟨g, o, none⟩) L cap] w fun e w' => e = .returned (.int .i64 (ldF f L)) ∧ w = w' := by
  have HC := Lib.hid hc
  clear hc
  go_enter Try.func79, Try.ntmps79
  go_wp2
  go_loopw [8, 3] (fun i n wr => ∃ k : Nat, k ≤ L ∧ i = .int .i64 k ∧ n = .int .i64 (ldF f k) ∧ w = wr) (fun i _ _ => L - (intOf i).toNat)
  case atStart => exact ⟨0, by omega, rfl, rfl, rfl⟩
  case round =>
    obtain ⟨k, hk, rfl, rfl, rfl⟩ := hrel
    by_cases hlt : k < L
    · have hcell := HC.out k hlt
      have hk4 : k = 0 ∨ k = 1 ∨ k = 2 ∨ k = 3 := by omega
      have h0 := hf 0
      have h1 := hf 1
      have h2 := hf 2
      have h3 := hf 3
      clear hf
      rcases hk4 with rfl | rfl | rfl | rfl
      · have OR := Lib.hid (or_add 0 (f 0) 0 (by omega) (by omega) h0.1 (by omega))
        have hL0 : (0 : Int) < (L : Int) := by omega
        have hL1 : L ≠ 0 := by omega
        simp only [ldF, Int.natCast_zero, Nat.add_zero] at *
        go_wp2
        go_roundw
        case rel =>
          refine ⟨1, by omega, by go_num, ?_, trivial⟩
          have := OR.out
          simp at this ⊢
          try exact this
        case measure => simp [intOf]; omega
      · have OR := Lib.hid (or_add (f 0) (f 1) 8 (by omega) (by omega) h1.1 (by omega))
        simp only [ldF] at *
        go_wp2
        go_roundw
        case rel =>
          refine ⟨2, by omega, by go_num, ?_, trivial⟩
          have := OR.out
          simp only [show (2 : Int) ^ 8 = 256 by rfl] at this
          rw [this]
          congr 1
          show _ = _ + _
          omega
        case measure => simp [intOf]; omega
      · have OR := Lib.hid (or_add (f 0 + 256 * f 1) (f 2) 16 (by omega) (by omega) h2.1 (by omega))
        simp only [ldF] at *
        go_wp2
        go_roundw
        case rel =>
          refine ⟨3, by omega, by go_num, ?_, trivial⟩
          have := OR.out
          simp only [show (2 : Int) ^ 16 = 65536 by rfl] at this
          rw [this]
          congr 1
          show _ = _ + _
          omega
        case measure => simp [intOf]; omega
      · have OR := Lib.hid (or_add (f 0 + 256 * f 1 + 65536 * f 2) (f 3) 24 (by omega) (by omega) h3.1 (by omega))
        simp only [ldF] at *
        go_wp2
        go_roundw
        case rel =>
          refine ⟨4, by omega, by go_num, ?_, trivial⟩
          have := OR.out
          simp only [show (2 : Int) ^ 24 = 16777216 by rfl] at this
          rw [this]
          congr 1
          show _ = _ + _
          omega
        case measure => simp [intOf]; omega
    · have : k = L := by omega
      subst this
      go_wp2
      go_ret
      exact ⟨rfl, rfl⟩

theorem ldF_le2 {n : Int} (h0 : 0 ≤ n) (h1 : n < 65536) : ldF (le n) 2 = n := by simp only [ldF, le]; omega
theorem ldF_le4 {n : Int} (h0 : 0 ≤ n) (h1 : n < 4294967296) : ldF (le n) 4 = n := by simp only [ldF, le]; omega
theorem le_bd (n : Int) (i : Nat) : 0 ≤ le n i ∧ le n i < 256 := by
  match i with
  | 0 => simp only [le]; omega
  | 1 => simp only [le]; omega
  | 2 => simp only [le]; omega
  | 3 => simp only [le]; omega
  | i + 4 => simp only [le]; omega

end Go.Proofs.Ytoccnaebckcfmaa
end

section
set_option linter.unusedSimpArgs false
set_option linter.unusedVariables false
set_option maxRecDepth 8000
namespace Go.Proofs.Ytoccnaebckcfmaa
open Go.RowKit

def markL : List Int := [101, 115, 116, 97, 102, 101, 116, 116, 101, 32, 108, 111, 103]
def M : Array Value := ((markL ++ List.replicate 51 0).map (Value.int .u8)).toArray
def markS : ByteArray := { data := #[101, 115, 116, 97, 102, 101, 116, 116, 101, 32, 108, 111, 103] }

theorem run_copyMark (w : World) : (Builtin.copy_ #[34, 9] 3 #[.slice (some ⟨w.heap.size, 0, none⟩) 64 64, .string { data := #[101, 115, 116, 97, 102, 101, 116, 116, 101, 32, 108, 111, 103] }]).run Try.prog (w.alloc (.cells Z 5)) = .ok (.int .i64 13) (w.alloc (.cells M 5)) := by
  have hr := Go.Lib.run_copy_row_string (P := Try.prog) (w.alloc (.cells Z 5)) 34 9 3 5 w.heap.size 0 64 64 markS Z 5 Try.underlying34 (by kernel_rfl) (heap_alloc_last w _) (by decide) (by decide)
  have e : (Z.toList.take 0 ++ Go.Lib.byteCells markS.data.toList ++ Z.toList.drop (0 + markS.size)).toArray = M := by kernel_rfl
  rw [e, World.setRow_alloc_new] at hr
  exact hr

def headK (a s g p : Int) : Nat → Array Value
  | 0 => M
  | 1 => stored M 13 a 4
  | 2 => stored (stored M 13 a 4) 17 s 4
  | 3 => stored (stored (stored M 13 a 4) 17 s 4) 21 g 4
  | _ => stored (stored (stored (stored M 13 a 4) 17 s 4) 21 g 4) 25 p 4
/-- A head's bytes. -/
def headA (a s g p : Int) : Array Value := stored (stored (stored (stored M 13 a 4) 17 s 4) 21 g 4) 25 p 4
def headF (a s g p : Int) (j : Nat) : Int :=
  if 25 ≤ j ∧ j < 29 then le p (j - 25) else if 21 ≤ j ∧ j < 25 then le g (j - 21) else if 17 ≤ j ∧ j < 21 then le s (j - 17) else if 13 ≤ j ∧ j < 17 then le a (j - 13) else (markL ++ List.replicate 51 0).getD j 0

theorem M_at (j : Nat) (h : j < 64) : M[j]? = some (.int .u8 ((markL ++ List.replicate 51 0).getD j 0)) := by
  have hl : (markL ++ List.replicate 51 0).length = 64 := by decide
  simp only [M, List.getElem?_toArray, List.getElem?_map, List.getD_eq_getElem?_getD]
  rw [List.getElem?_eq_getElem (by rw [hl]; exact h)]
  rfl
theorem M_size : M.size = 64 := by decide
theorem headA_at (a s g p : Int) (j : Nat) (h : j < 64) : (headA a s g p)[j]? = some (.int .u8 (headF a s g p j)) := by
  have hs := M_size
  unfold headA headF
  by_cases h1 : 25 ≤ j ∧ j < 29
  · rw [if_pos h1, stored_at _ _ _ _ _ h1.1 (by omega) (by simp only [stored_size]; omega)]
  · rw [if_neg h1, stored_ge _ _ _ _ _ (by omega)]
    by_cases h2 : 21 ≤ j ∧ j < 25
    · rw [if_pos h2, stored_at _ _ _ _ _ h2.1 (by omega) (by simp only [stored_size]; omega)]
    · rw [if_neg h2, stored_ge _ _ _ _ _ (by omega)]
      by_cases h3 : 17 ≤ j ∧ j < 21
      · rw [if_pos h3, stored_at _ _ _ _ _ h3.1 (by omega) (by simp only [stored_size]; omega)]
      · rw [if_neg h3, stored_ge _ _ _ _ _ (by omega)]
        by_cases h4 : 13 ≤ j ∧ j < 17
        · rw [if_pos h4, stored_at _ _ _ _ _ h4.1 (by omega) (by omega)]
        · rw [if_neg h4, stored_ge _ _ _ _ _ (by omega), M_at j h]
theorem headA_size (a s g p : Int) : (headA a s g p).size = 64 := by simp only [headA, stored_size, M_size]
theorem headF_bd (a s g p : Int) (j : Nat) : 0 ≤ headF a s g p j ∧ headF a s g p j < 256 := by
  unfold headF
  split; exact le_bd _ _
  split; exact le_bd _ _
  split; exact le_bd _ _
  split; exact le_bd _ _
  by_cases h : j < 64
  · have : ∀ x ∈ (markL ++ List.replicate 51 0), 0 ≤ x ∧ x < 256 := by decide
    rw [List.getD_eq_getElem?_getD]
    have hl : (markL ++ List.replicate 51 (0 : Int)).length = 64 := by decide
    rw [List.getElem?_eq_getElem (by rw [hl]; exact h)]
    exact this _ (List.getElem_mem _)
  · rw [List.getD_eq_getElem?_getD, List.getElem?_eq_none (by rw [show (markL ++ List.replicate 51 (0 : Int)).length = 64 by decide]; omega)]
    decide
theorem secOk_bytes {c : Array Value} (h : c.size = 64) (f : Nat → Int) (hf : ∀ j, j < 64 → c[j]? = some (.int .u8 (f j))) : SecOk c := ⟨h, by
  rw [Array.all_eq_true_iff_forall_mem]; intro x hx
  obtain ⟨i, hi, rfl⟩ := Array.mem_iff_getElem.1 hx
  have := hf i (by omega)
  rw [Array.getElem?_eq_getElem hi] at this
  rw [Option.some.inj this]; rfl⟩
theorem headA_ok (a s g p : Int) : SecOk (headA a s g p) := secOk_bytes (headA_size a s g p) _ (headA_at a s g p)

theorem headK_zero (a s g p : Int) : headK a s g p 0 = M := rfl
theorem headK_size (a s g p : Int) (k : Nat) : (headK a s g p k).size = 64 := by
  unfold headK
  split <;> simp only [stored_size, M_size]
theorem headK_1 (a s g p : Int) : headK a s g p 1 = stored M 13 a 4 := rfl
theorem headK_2 (a s g p : Int) : headK a s g p 2 = stored (stored M 13 a 4) 17 s 4 := rfl
theorem headK_3 (a s g p : Int) : headK a s g p 3 = stored (stored (stored M 13 a 4) 17 s 4) 21 g 4 := rfl
theorem headK_pre0 (a s g p : Int) (j : Nat) (hj : j < 4) : ∃ z, (headK a s g p 0)[13 + j]? = some (.int .u8 z) := by
  refine Exists.intro ((markL ++ List.replicate 51 0).getD (13 + j) 0) ?_
  unfold headK
  exact M_at _ (by omega)
theorem headK_pre1 (a s g p : Int) (j : Nat) (hj : j < 4) : ∃ z, (headK a s g p 1)[17 + j]? = some (.int .u8 z) := by
  refine Exists.intro ((markL ++ List.replicate 51 0).getD (17 + j) 0) ?_
  rw [headK_1]
  rw [stored_ge _ _ _ _ _ (by omega)]; exact M_at _ (by omega)
theorem headK_pre2 (a s g p : Int) (j : Nat) (hj : j < 4) : ∃ z, (headK a s g p 2)[21 + j]? = some (.int .u8 z) := by
  refine Exists.intro ((markL ++ List.replicate 51 0).getD (21 + j) 0) ?_
  rw [headK_2]
  rw [stored_ge _ _ _ _ _ (by omega)]; rw [stored_ge _ _ _ _ _ (by omega)]; exact M_at _ (by omega)
theorem headK_pre3 (a s g p : Int) (j : Nat) (hj : j < 4) : ∃ z, (headK a s g p 3)[25 + j]? = some (.int .u8 z) := by
  refine Exists.intro ((markL ++ List.replicate 51 0).getD (25 + j) 0) ?_
  rw [headK_3]
  rw [stored_ge _ _ _ _ _ (by omega)]; rw [stored_ge _ _ _ _ _ (by omega)]; rw [stored_ge _ _ _ _ _ (by omega)]; exact M_at _ (by omega)

set_option maxHeartbeats 1000000 in
theorem bytes_any (w : World) (a s g p : Int) (ha : 0 ≤ a ∧ a ≤ 9223372036854775807) (hs : 0 ≤ s ∧ s ≤ 9223372036854775807) (hg : 0 ≤ g ∧ g ≤ 9223372036854775807) (hp : 0 ≤ p ∧ p ≤ 9223372036854775807) :
    Calls Try.prog 59 #[.agg #[.int .i64 a, .int .i64 s, .int .i64 g, .int .i64 p]] w fun e w' => ∃ q, e = .returned (.slice (some ⟨q, 0, none⟩) 64 64) ∧ w.heap.size ≤ q ∧ w'.heap[q]? = some (.cells (headA a s g p) 5 (0, 0)) ∧ Only [] w w' := by
  have hmk := make64
  have hcp := run_copyMark (w.alloc (.cells #[.int .i64 a, .int .i64 s, .int .i64 g, .int .i64 p] 99))
  simp only [World.size_alloc] at hcp
  go_enter Try.func59, Try.ntmps59
  go_wp2
  go_loopw [22, 4] (fun i r wr => ∃ k : Nat, k ≤ 4 ∧ i = .int .i64 k ∧ r = .slice (some ⟨w.heap.size + 1, 13 + 4 * k, none⟩) (51 - 4 * k) (51 - 4 * k) ∧ wr.heap[w.heap.size + 1]? = some (.cells (headK a s g p k) 5 (0, 0)) ∧ wr.heap[w.heap.size + 2]? = some (.cells #[.int .i64 a, .int .i64 s, .int .i64 g, .int .i64 p] 3 (0, 0)) ∧ Only [] w wr) (fun i _ _ => 4 - (intOf i).toNat)
  case atStart =>
    refine ⟨0, by omega, rfl, by rfl, ?_, ?_, ?_⟩
    · rw [Below.heap_alloc _ _ _ (by simp), headK_zero]
      have := heap_alloc_last (w.alloc (.cells #[.int .i64 a, .int .i64 s, .int .i64 g, .int .i64 p] 99)) (.cells M 5)
      rw [World.size_alloc] at this
      exact this
    · have := heap_alloc_last ((w.alloc (.cells #[.int .i64 a, .int .i64 s, .int .i64 g, .int .i64 p] 99)).alloc (.cells M 5)) (.cells #[.int .i64 a, .int .i64 s, .int .i64 g, .int .i64 p] 3)
      simp only [World.size_alloc] at this
      exact this
    · exact (((Only.refl [] w).alloc _).alloc _).alloc _
  case round =>
    obtain ⟨k, hk, rfl, rfl, hb, hi, ho⟩ := hrel
    by_cases hlt : k < 4
    · have hk4 : k = 0 ∨ k = 1 ∨ k = 2 ∨ k = 3 := by omega
      have hgt : w.heap.size + 1 < wr.heap.size := (Array.getElem?_eq_some_iff.1 hb).1
      have HO := Lib.hid ho
      have HI := Lib.hid hi
      rcases hk4 with rfl | rfl | rfl | rfl
      · have ST := Lib.hid (store_any wr (w.heap.size + 1) 13 4 51 (headK a s g p 0) 5 a hb (by omega) (by rw [headK_size]; omega) (headK_pre0 a s g p) ha.1 ha.2)
        have hcell : wr.cell? ⟨w.heap.size + 2, 0, none⟩ = some (.int .i64 a) := by rw [cell_of_row _ _ _ _ _ _ hi]; rfl
        clear hb ho hi
        go_wp2_with (go_at_call 80; refine ST.out.mono ?_; rintro e w' ⟨rfl, hb', ho'⟩)
        go_roundw
        case rel =>
          refine ⟨1, by omega, by go_num, by simp, hb', (ho'.block _ (Array.getElem?_eq_some_iff.1 HI.out).1 (by simp)).trans HI.out, HO.out.trans ho' (by simp)⟩
        case measure => simp [intOf]
      · have ST := Lib.hid (store_any wr (w.heap.size + 1) 17 4 47 (headK a s g p 1) 5 s hb (by omega) (by rw [headK_size]; omega) (headK_pre1 a s g p) hs.1 hs.2)
        have hcell : wr.cell? ⟨w.heap.size + 2, 1, none⟩ = some (.int .i64 s) := by rw [cell_of_row _ _ _ _ _ _ hi]; rfl
        clear hb ho hi
        go_wp2_with (go_at_call 80; refine ST.out.mono ?_; rintro e w' ⟨rfl, hb', ho'⟩)
        go_roundw
        case rel =>
          refine ⟨2, by omega, by go_num, by simp, hb', (ho'.block _ (Array.getElem?_eq_some_iff.1 HI.out).1 (by simp)).trans HI.out, HO.out.trans ho' (by simp)⟩
        case measure => simp [intOf]
      · have ST := Lib.hid (store_any wr (w.heap.size + 1) 21 4 43 (headK a s g p 2) 5 g hb (by omega) (by rw [headK_size]; omega) (headK_pre2 a s g p) hg.1 hg.2)
        have hcell : wr.cell? ⟨w.heap.size + 2, 2, none⟩ = some (.int .i64 g) := by rw [cell_of_row _ _ _ _ _ _ hi]; rfl
        clear hb ho hi
        go_wp2_with (go_at_call 80; refine ST.out.mono ?_; rintro e w' ⟨rfl, hb', ho'⟩)
        go_roundw
        case rel =>
          refine ⟨3, by omega, by go_num, by simp, hb', (ho'.block _ (Array.getElem?_eq_some_iff.1 HI.out).1 (by simp)).trans HI.out, HO.out.trans ho' (by simp)⟩
        case measure => simp [intOf]
      · have ST := Lib.hid (store_any wr (w.heap.size + 1) 25 4 39 (headK a s g p 3) 5 p hb (by omega) (by rw [headK_size]; omega) (headK_pre3 a s g p) hp.1 hp.2)
        have hcell : wr.cell? ⟨w.heap.size + 2, 3, none⟩ = some (.int .i64 p) := by rw [cell_of_row _ _ _ _ _ _ hi]; rfl
        clear hb ho hi
        go_wp2_with (go_at_call 80; refine ST.out.mono ?_; rintro e w' ⟨rfl, hb', ho'⟩)
        go_roundw
        case rel =>
          refine ⟨4, by omega, by go_num, by simp, hb', (ho'.block _ (Array.getElem?_eq_some_iff.1 HI.out).1 (by simp)).trans HI.out, HO.out.trans ho' (by simp)⟩
        case measure => simp [intOf]
    · have : k = 4 := by omega
      subst this
      have HO := Lib.hid ho
      have HB := Lib.hid hb
      clear hb ho hi
      go_wp2
      go_ret
      exact ⟨_, rfl, by omega, HB.out, HO.out⟩

end Go.Proofs.Ytoccnaebckcfmaa
end

section
set_option linter.unusedSimpArgs false
set_option linter.unusedVariables false
set_option maxRecDepth 8000
namespace Go.Proofs.Ytoccnaebckcfmaa
open Go.RowKit

def parsed (f : Nat → Int) : Nat → Array Value
  | 0 => #[.int .i64 0, .int .i64 0, .int .i64 0, .int .i64 0]
  | 1 => #[.int .i64 (ldF (fun j => f (13 + j)) 4), .int .i64 0, .int .i64 0, .int .i64 0]
  | 2 => #[.int .i64 (ldF (fun j => f (13 + j)) 4), .int .i64 (ldF (fun j => f (17 + j)) 4), .int .i64 0, .int .i64 0]
  | 3 => #[.int .i64 (ldF (fun j => f (13 + j)) 4), .int .i64 (ldF (fun j => f (17 + j)) 4), .int .i64 (ldF (fun j => f (21 + j)) 4), .int .i64 0]
  | _ => #[.int .i64 (ldF (fun j => f (13 + j)) 4), .int .i64 (ldF (fun j => f (17 + j)) 4), .int .i64 (ldF (fun j => f (21 + j)) 4), .int .i64 (ldF (fun j => f (25 + j)) 4)]

set_option maxHeartbeats 1000000 in
theorem parse_any (w : World) (g cap : Nat) (f : Nat → Int) (hc : ∀ j, j < 64 → w.cell? ⟨g, j, none⟩ = some (.int .u8 (f j))) (hgw : g < w.heap.size) (hf : ∀ j, 0 ≤ f j ∧ f j < 256) :
    Calls Try.prog 57 #[.slice (some ⟨g, 0, none⟩) 64 64] w fun e w' => e = .returned (.agg (parsed f 4)) ∧ Only [] w w' := by
  have HC := Lib.hid hc
  have HF := Lib.hid hf
  clear hc hf
  go_enter Try.func57, Try.ntmps57
  go_wp2
  go_loopw [8, 4] (fun i r wr => ∃ k : Nat, k ≤ 4 ∧ i = .int .i64 k ∧ r = .slice (some ⟨g, 13 + 4 * k, none⟩) (51 - 4 * k) (51 - 4 * k) ∧ wr.heap[w.heap.size + 1]? = some (.cells (parsed f k) 123 (0, 0)) ∧ wr.heap[w.heap.size]? = some (.cells #[.int .i64 0, .int .i64 0, .int .i64 0, .int .i64 0] 99 (0, 0)) ∧ Only [] w wr) (fun i _ _ => 4 - (intOf i).toNat)
  case atStart =>
    refine ⟨0, by omega, rfl, by rfl, ?_, ?_, ?_⟩
    · have := heap_alloc_last (w.alloc (.cells #[.int .i64 0, .int .i64 0, .int .i64 0, .int .i64 0] 99)) (.cells #[.int .i64 0, .int .i64 0, .int .i64 0, .int .i64 0] 123)
      rw [World.size_alloc] at this
      exact this
    · rw [Below.heap_alloc _ _ _ (by simp)]
      exact heap_alloc_last w _
    · exact ((Only.refl [] w).alloc _).alloc _
  case round =>
    obtain ⟨k, hk, rfl, rfl, hb, hi, ho⟩ := hrel
    have hcc : ∀ j, j < 64 → wr.cell? ⟨g, j, none⟩ = some (.int .u8 (f j)) := fun j hj => (World.cell?_of_block (ho.block g hgw (by simp))).trans (HC.out j hj)
    have hgt : w.heap.size + 1 < wr.heap.size := (Array.getElem?_eq_some_iff.1 hb).1
    by_cases hlt : k < 4
    · have hk4 : k = 0 ∨ k = 1 ∨ k = 2 ∨ k = 3 := by omega
      have HO := Lib.hid ho
      have HI := Lib.hid hi
      rcases hk4 with rfl | rfl | rfl | rfl
      · have LD := Lib.hid (load_any wr g 13 4 51 (fun j => f (13 + j)) (by omega) (fun j hj => hcc (13 + j) (by omega)) (fun j => HF.out (13 + j)))
        have hcell : wr.cell? ⟨w.heap.size + 1, 0, none⟩ = some (.int .i64 0) := by rw [cell_of_row _ _ _ _ _ _ hb]; rfl
        have hfz : wr.frozen? ⟨w.heap.size + 1, 0, none⟩ = false := by simp [World.frozen?, hb]
        have HB := Lib.hid hb
        clear hb ho hi hcc
        go_wp2_with (go_at_call 79; refine LD.out.mono ?_; rintro e w' ⟨rfl, rfl⟩)
        go_roundw
        case rel =>
          refine ⟨1, by omega, by go_num, by simp, heap_setCell_row HB.out _ _, ?_, HO.out.setCell (by simp) _⟩
          rw [Below.heap_setCell _ _ _ _ (by simp)]
          exact HI.out
        case measure => simp [intOf]
      · have LD := Lib.hid (load_any wr g 17 4 47 (fun j => f (17 + j)) (by omega) (fun j hj => hcc (17 + j) (by omega)) (fun j => HF.out (17 + j)))
        have hcell : wr.cell? ⟨w.heap.size + 1, 1, none⟩ = some (.int .i64 0) := by rw [cell_of_row _ _ _ _ _ _ hb]; rfl
        have hfz : wr.frozen? ⟨w.heap.size + 1, 1, none⟩ = false := by simp [World.frozen?, hb]
        have HB := Lib.hid hb
        clear hb ho hi hcc
        go_wp2_with (go_at_call 79; refine LD.out.mono ?_; rintro e w' ⟨rfl, rfl⟩)
        go_roundw
        case rel =>
          refine ⟨2, by omega, by go_num, by simp, heap_setCell_row HB.out _ _, ?_, HO.out.setCell (by simp) _⟩
          rw [Below.heap_setCell _ _ _ _ (by simp)]
          exact HI.out
        case measure => simp [intOf]
      · have LD := Lib.hid (load_any wr g 21 4 43 (fun j => f (21 + j)) (by omega) (fun j hj => hcc (21 + j) (by omega)) (fun j => HF.out (21 + j)))
        have hcell : wr.cell? ⟨w.heap.size + 1, 2, none⟩ = some (.int .i64 0) := by rw [cell_of_row _ _ _ _ _ _ hb]; rfl
        have hfz : wr.frozen? ⟨w.heap.size + 1, 2, none⟩ = false := by simp [World.frozen?, hb]
        have HB := Lib.hid hb
        clear hb ho hi hcc
        go_wp2_with (go_at_call 79; refine LD.out.mono ?_; rintro e w' ⟨rfl, rfl⟩)
        go_roundw
        case rel =>
          refine ⟨3, by omega, by go_num, by simp, heap_setCell_row HB.out _ _, ?_, HO.out.setCell (by simp) _⟩
          rw [Below.heap_setCell _ _ _ _ (by simp)]
          exact HI.out
        case measure => simp [intOf]
      · have LD := Lib.hid (load_any wr g 25 4 39 (fun j => f (25 + j)) (by omega) (fun j hj => hcc (25 + j) (by omega)) (fun j => HF.out (25 + j)))
        have hcell : wr.cell? ⟨w.heap.size + 1, 3, none⟩ = some (.int .i64 0) := by rw [cell_of_row _ _ _ _ _ _ hb]; rfl
        have hfz : wr.frozen? ⟨w.heap.size + 1, 3, none⟩ = false := by simp [World.frozen?, hb]
        have HB := Lib.hid hb
        clear hb ho hi hcc
        go_wp2_with (go_at_call 79; refine LD.out.mono ?_; rintro e w' ⟨rfl, rfl⟩)
        go_roundw
        case rel =>
          refine ⟨4, by omega, by go_num, by simp, heap_setCell_row HB.out _ _, ?_, HO.out.setCell (by simp) _⟩
          rw [Below.heap_setCell _ _ _ _ (by simp)]
          exact HI.out
        case measure => simp [intOf]
    · have : k = 4 := by omega
      subst this
      have c0 : wr.cell? ⟨w.heap.size + 1, 0, none⟩ = some (.int .i64 (ldF (fun j => f (13 + j)) 4)) := by rw [cell_of_row _ _ _ _ _ _ hb]; rfl
      have c1 : wr.cell? ⟨w.heap.size + 1, 1, none⟩ = some (.int .i64 (ldF (fun j => f (17 + j)) 4)) := by rw [cell_of_row _ _ _ _ _ _ hb]; rfl
      have c2 : wr.cell? ⟨w.heap.size + 1, 2, none⟩ = some (.int .i64 (ldF (fun j => f (21 + j)) 4)) := by rw [cell_of_row _ _ _ _ _ _ hb]; rfl
      have c3 : wr.cell? ⟨w.heap.size + 1, 3, none⟩ = some (.int .i64 (ldF (fun j => f (25 + j)) 4)) := by rw [cell_of_row _ _ _ _ _ _ hb]; rfl
      have d0 : wr.cell? ⟨w.heap.size, 0, none⟩ = some (.int .i64 0) := by rw [cell_of_row _ _ _ _ _ _ hi]; rfl
      have d1 : wr.cell? ⟨w.heap.size, 1, none⟩ = some (.int .i64 0) := by rw [cell_of_row _ _ _ _ _ _ hi]; rfl
      have d2 : wr.cell? ⟨w.heap.size, 2, none⟩ = some (.int .i64 0) := by rw [cell_of_row _ _ _ _ _ _ hi]; rfl
      have d3 : wr.cell? ⟨w.heap.size, 3, none⟩ = some (.int .i64 0) := by rw [cell_of_row _ _ _ _ _ _ hi]; rfl
      have hfz : ∀ j, wr.frozen? ⟨w.heap.size, j, none⟩ = false := by intro j; simp [World.frozen?, hi]
      have HO := Lib.hid ho
      have HI := Lib.hid hi
      clear hb ho hi hcc
      go_wp2
      have hrow := heap_setCell_row (heap_setCell_row (heap_setCell_row (heap_setCell_row HI.out 0 (.int .i64 (ldF (fun j => f (13 + j)) 4))) 1 (.int .i64 (ldF (fun j => f (17 + j)) 4))) 2 (.int .i64 (ldF (fun j => f (21 + j)) 4))) 3 (.int .i64 (ldF (fun j => f (25 + j)) 4))
      have hon := (((HO.out.setCell (p := ⟨w.heap.size, 0, none⟩) (by simp) (.int .i64 (ldF (fun j => f (13 + j)) 4))).setCell (p := ⟨w.heap.size, 1, none⟩) (by simp) (.int .i64 (ldF (fun j => f (17 + j)) 4))).setCell (p := ⟨w.heap.size, 2, none⟩) (by simp) (.int .i64 (ldF (fun j => f (21 + j)) 4))).setCell (p := ⟨w.heap.size, 3, none⟩) (by simp) (.int .i64 (ldF (fun j => f (25 + j)) 4))
      generalize ((((wr.setCell ⟨w.heap.size, 0, none⟩ (.int .i64 (ldF (fun j => f (13 + j)) 4))).setCell ⟨w.heap.size, 1, none⟩ (.int .i64 (ldF (fun j => f (17 + j)) 4))).setCell ⟨w.heap.size, 2, none⟩ (.int .i64 (ldF (fun j => f (21 + j)) 4))).setCell ⟨w.heap.size, 3, none⟩ (.int .i64 (ldF (fun j => f (25 + j)) 4))) = W at *
      have r0 : W.cell? ⟨w.heap.size, 0, none⟩ = some (.int .i64 (ldF (fun j => f (13 + j)) 4)) := by rw [cell_of_row _ _ _ _ _ _ hrow]; rfl
      have r1 : W.cell? ⟨w.heap.size, 1, none⟩ = some (.int .i64 (ldF (fun j => f (17 + j)) 4)) := by rw [cell_of_row _ _ _ _ _ _ hrow]; rfl
      have r2 : W.cell? ⟨w.heap.size, 2, none⟩ = some (.int .i64 (ldF (fun j => f (21 + j)) 4)) := by rw [cell_of_row _ _ _ _ _ _ hrow]; rfl
      have r3 : W.cell? ⟨w.heap.size, 3, none⟩ = some (.int .i64 (ldF (fun j => f (25 + j)) 4)) := by rw [cell_of_row _ _ _ _ _ _ hrow]; rfl
      refine bodyPost_ret (v := .agg (parsed f 4)) ?_ rfl ⟨rfl, hon⟩
      simp [results, Try.results34, go_sem, r0, r1, r2, r3, Result.andThen, parsed]

/-- A row of bytes. -/
def sec (l : List Int) : Array Value := (l.map (Value.int .u8)).toArray
theorem sec_of (c : Array Value) (n : Nat) (hs : c.size = n) (f : Nat → Int) (h : ∀ j, j < n → c[j]? = some (.int .u8 (f j))) : c = sec ((List.range n).map f) := by
  apply Array.ext
  · simp [sec, hs]
  · intro i h1 h2
    have := h i (by omega)
    rw [Array.getElem?_eq_getElem h1] at this
    rw [Option.some.inj this]
    simp [sec]
theorem sec_size (l : List Int) : (sec l).size = l.length := by simp [sec]
theorem sec_at (l : List Int) (j : Nat) (z : Int) (h : l[j]? = some z) : (sec l)[j]? = some (.int .u8 z) := by simp [sec, h]
theorem sec_ok {l : List Int} (h : l.length = 64) : SecOk (sec l) := secOk_bytes (by rw [sec_size]; exact h) (fun j => l.getD j 0) (fun j hj => sec_at _ _ _ (by rw [List.getD_eq_getElem?_getD, List.getElem?_eq_getElem (by omega)]; rfl))

def strOf (l : List Int) : ByteArray := l.foldl (fun r n => r.push (UInt8.ofNat n.toNat)) ByteArray.empty

theorem strOf_data (l : List Int) (r : ByteArray) : (l.foldl (fun r n => r.push (UInt8.ofNat n.toNat)) r).data.toList = r.data.toList ++ l.map (fun n => UInt8.ofNat n.toNat) := by
  induction l generalizing r with
  | nil => simp
  | cons n l ih => rw [List.foldl_cons, ih]; simp [ByteArray.push]
theorem strOf_inj {l l' : List Int} (h : ∀ x ∈ l, 0 ≤ x ∧ x < 256) (h' : ∀ x ∈ l', 0 ≤ x ∧ x < 256) (he : strOf l = strOf l') : l = l' := by
  have h1 := strOf_data l ByteArray.empty
  have h2 := strOf_data l' ByteArray.empty
  have e : l.map (fun n => UInt8.ofNat n.toNat) = l'.map (fun n => UInt8.ofNat n.toNat) := by
    have := congrArg (fun b : ByteArray => b.data.toList) he
    simp only [strOf] at this
    rw [h1, h2] at this
    simpa using this
  have hmap : ∀ (l : List Int), (∀ x ∈ l, 0 ≤ x ∧ x < 256) → (l.map (fun n => UInt8.ofNat n.toNat)).map (fun b => (b.toNat : Int)) = l := by
    intro l hl
    rw [List.map_map]
    conv => rhs; rw [← List.map_id l]
    apply List.map_congr_left
    intro x hx
    obtain ⟨a, b⟩ := hl x hx
    simp only [Function.comp, UInt8.toNat_ofNat', id]
    omega
  rw [← hmap l h, ← hmap l' h', e]

theorem strOf_eq {l l' : List Int} (h : ∀ x ∈ l, 0 ≤ x ∧ x < 256) (h' : ∀ x ∈ l', 0 ≤ x ∧ x < 256) : ((strOf l).toList == (strOf l').toList) = decide (l = l') := by
  by_cases e : l = l'
  · subst e; simp
  · rw [decide_eq_false e, beq_eq_false_iff_ne]
    intro hh
    rw [ByteArray.toList_eq, ByteArray.toList_eq] at hh
    exact e (strOf_inj h h' (ByteArray.ext (Array.toList_inj.1 hh)))

section
variable {o : Oper} {a : Act} {w : World}
theorem run_str {x : Operand} {g cap : Nat} {l : List Int} {t : TypeId} (hl : l.length = 64) (ho : o.op = .convert 34 9 x) (hx : a.eval x = .slice (some ⟨g, 0, none⟩) 64 cap) (hb : w.heap[g]? = some (.cells (sec l) t (0, 0))) :
    (execOp a.eval o).run Try.prog w = .ok (.value (.string (strOf l))) w := by
  have hld : (loadCells ⟨g, 0, none⟩ 64).run Try.prog w = .ok (l.map (Value.int .u8)).toArray w := by
    have := run_loadCells_list (P := Try.prog) w ⟨g, 0, none⟩ (l.map (Value.int .u8)) (fun j v hv => by
      rw [Addr.add_mid, Nat.zero_add, cell_of_row _ _ _ _ _ _ hb]
      simpa [sec] using hv)
    rw [List.length_map, hl] at this
    exact this
  unfold execOp
  simp only [ho, hx, Sem.run_bind, run_convert_bytes_string (P := Try.prog) w 34 9 5 _ 64 cap Try.underlying34 Try.underlying5 Try.underlying9, run_bytesToString (P := Try.prog) w ⟨g, 0, none⟩ 64 cap l hld, Result.andThen_ok, Sem.run_pure]
  rfl
end

set_option maxHeartbeats 400000 in
theorem equal_any {w : World} {g g' : Nat} {l l' : List Int} {t t' : TypeId} (hl : l.length = 64) (hl' : l'.length = 64) (hb : w.heap[g]? = some (.cells (sec l) t (0, 0))) (hb' : w.heap[g']? = some (.cells (sec l') t' (0, 0))) (h : ∀ x ∈ l, 0 ≤ x ∧ x < 256) (h' : ∀ x ∈ l', 0 ≤ x ∧ x < 256) :
    Calls Try.prog 58 #[.slice (some ⟨g, 0, none⟩) 64 64, .slice (some ⟨g', 0, none⟩) 64 64] w fun e w' => e = .returned (.bool (decide (l = l'))) ∧ w = w' := by
  have HB := Lib.hid hb
  have HB' := Lib.hid hb'
  clear hb hb'
  go_enter Try.func58, Try.ntmps58
  go_wp2_with (first | (refine wpL_value rfl (run_str hl rfl rfl HB.out) ?_) | (refine wpL_value rfl (run_str hl' rfl rfl HB'.out) ?_))
  go_ret
  exact ⟨ret_bool (strOf_eq h h'), rfl⟩

end Go.Proofs.Ytoccnaebckcfmaa
end

section
set_option linter.unusedSimpArgs false
set_option linter.unusedVariables false
set_option maxRecDepth 8000
namespace Go.Proofs.Ytoccnaebckcfmaa
open Go.RowKit

def St.write (S : St) (i : Int) (v : Array Value) : St := (S.stepped.kept i).written i v
def St.doWrite (S : St) (i : Int) (v : Array Value) : Int × St := if S.reach i ≠ 0 then (S.reach i, S) else if S.fuse = 0 then (2, S.fallen) else (0, S.write i v)
def St.doBarrier (S : St) : Int × St := if S.on = false then (2, S) else if S.fuse = 0 then (2, S.fallen) else (0, S.stepped.settled)

/-- A slice of 64 bytes that holds v, outside the blocks F. -/
def Bytes64 (w : World) (F : List Nat) (av : Value) (v : Array Value) : Prop := SecOk v ∧ ∃ g o cap, av = .slice (some ⟨g, o, none⟩) 64 cap ∧ g < w.heap.size ∧ g ∉ F ∧ w.rangeAt g o v.toList

theorem Bytes64.only {w w' : World} {F G : List Nat} {av : Value} {v : Array Value} (h : Bytes64 w F av v) (ho : Only G w w') (hG : ∀ x ∈ G, x ∈ F ∨ w.heap.size ≤ x) : Bytes64 w' F av v := by
  obtain ⟨h1, g, o, cap, h2, h3, h4, h5⟩ := h
  refine ⟨h1, g, o, cap, h2, Nat.lt_of_lt_of_le h3 ho.size, h4, fun j u hu => ?_⟩
  rw [World.cell?_of_block (w := w) (ho.block g h3 (fun hx => by rcases hG g hx with h | h; exact h4 h; omega))]
  exact h5 j u hu
theorem Bytes64.foot {w : World} {F F' : List Nat} {av : Value} {v : Array Value} (h : Bytes64 w F av v) (hF : ∀ x ∈ F', x ∈ F ∨ w.heap.size ≤ x) : Bytes64 w F' av v := by
  obtain ⟨h1, g, o, cap, h2, h3, h4, h5⟩ := h
  exact ⟨h1, g, o, cap, h2, h3, fun hx => by rcases hF g hx with h | h; exact h4 h; omega, h5⟩

theorem write_do {w : World} {b : Nat} {F : List Nat} {S : St} {av : Value} {v : Array Value} (h : DAt w b F S) (i : Int) (hv : Bytes64 w F av v) (hs : S.steps < 1000000000) (hp : S.pend.length < 1000000000) :
    Calls Try.prog 83 #[.pointer (some ⟨b, 0, none⟩), .int .i64 i, av] w fun e w' => e = .returned (.int .i64 (S.doWrite i v).1) ∧ DPost w w' b F (S.doWrite i v).2 := by
  obtain ⟨h1, g, o, cap, rfl, h3, h4, h5⟩ := hv
  have hsame : DPost w w b F S := ⟨F, h, fun x hx => .inl hx, Only.refl _ _⟩
  unfold St.doWrite
  by_cases hr : S.reach i = 0
  · rw [if_neg (by simp [hr])]
    by_cases hf : S.fuse = 0
    · rw [if_pos hf]
      exact write_fall h i _ cap hr hf
    · rw [if_neg hf]
      exact write_ok h i g o cap v h1 h5 h3 h4 hr hf hs hp
  · rw [if_pos hr]
    refine (write_no h i _ hr).mono ?_
    rintro e w' ⟨rfl, rfl⟩
    exact ⟨rfl, hsame⟩

theorem barrier_do {w : World} {b : Nat} {F : List Nat} {S : St} (h : DAt w b F S) (hs : S.steps < 1000000000) :
    Calls Try.prog 84 #[.pointer (some ⟨b, 0, none⟩)] w fun e w' => e = .returned (.int .i64 S.doBarrier.1) ∧ DPost w w' b F S.doBarrier.2 := by
  have hsame : DPost w w b F S := ⟨F, h, fun x hx => .inl hx, Only.refl _ _⟩
  unfold St.doBarrier
  cases hon : S.on with
  | false =>
    rw [if_pos rfl]
    refine (barrier_off h hon).mono ?_
    rintro e w' ⟨rfl, rfl⟩
    exact ⟨rfl, hsame⟩
  | true =>
    rw [if_neg (by simp)]
    by_cases hf : S.fuse = 0
    · rw [if_pos hf]; exact barrier_fall h hon hf
    · rw [if_neg hf]; exact barrier_ok h hon hf hs

def St.writes (S : St) : List (Int × Array Value) → Int × St
  | [] => (0, S)
  | p :: ps => if (S.doWrite p.1 p.2).1 = 0 then (S.doWrite p.1 p.2).2.writes ps else S.doWrite p.1 p.2
def St.writeAll (S : St) (ps : List (Int × Array Value)) : Int × St := if (S.writes ps).1 = 0 then (S.writes ps).2.doBarrier else S.writes ps

theorem doWrite_zero {S : St} {i : Int} {v : Array Value} (h : (S.doWrite i v).1 = 0) : (S.doWrite i v).2 = S.write i v := by
  unfold St.doWrite at h ⊢
  split at h
  · rename_i hr; exact absurd h hr
  · split at h
    · simp at h
    · rename_i hr hf
      rw [if_neg hr, if_neg hf]

/-- A slice of puts, outside the blocks F. -/
structure PutsAt (w : World) (F : List Nat) (lv : Value) (ps : List (Int × Array Value)) : Prop where
  shape : ∃ a cap, lv = .slice a ps.length cap ∧ ps.length ≤ 1000000 ∧ ∀ i p, ps[i]? = some p → ∃ g o av, a = some ⟨g, o, none⟩ ∧ g < w.heap.size ∧ g ∉ F ∧ w.cell? ⟨g, o + i * 2, none⟩ = some (.int .i64 p.1) ∧ w.cell? ⟨g, o + i * 2 + 1, none⟩ = some av ∧ Bytes64 w F av p.2

theorem PutsAt.only {w w' : World} {F G : List Nat} {lv : Value} {ps : List (Int × Array Value)} (h : PutsAt w F lv ps) (ho : Only G w w') (hG : ∀ x ∈ G, x ∈ F ∨ w.heap.size ≤ x) : PutsAt w' F lv ps := by
  obtain ⟨a, cap, h1, h2, h3⟩ := h.shape
  refine ⟨a, cap, h1, h2, fun i p hp => ?_⟩
  obtain ⟨g, o, av, e1, e2, e3, e4, e5, e6⟩ := h3 i p hp
  have hb := ho.block g e2 (fun hx => by rcases hG g hx with h | h; exact e3 h; omega)
  exact ⟨g, o, av, e1, Nat.lt_of_lt_of_le e2 ho.size, e3, (World.cell?_of_block hb).trans e4, (World.cell?_of_block hb).trans e5, e6.only ho hG⟩
theorem PutsAt.foot {w : World} {F F' : List Nat} {lv : Value} {ps : List (Int × Array Value)} (h : PutsAt w F lv ps) (hF : ∀ x ∈ F', x ∈ F ∨ w.heap.size ≤ x) : PutsAt w F' lv ps := by
  obtain ⟨a, cap, h1, h2, h3⟩ := h.shape
  refine ⟨a, cap, h1, h2, fun i p hp => ?_⟩
  obtain ⟨g, o, av, e1, e2, e3, e4, e5, e6⟩ := h3 i p hp
  exact ⟨g, o, av, e1, e2, fun hx => by rcases hF g hx with h | h; exact e3 h; omega, e4, e5, e6.foot hF⟩

theorem Bytes64.step {w w' : World} {F F' G : List Nat} {av : Value} {v : Array Value} (h : Bytes64 w F av v) (ho : Only G w w') (hG : ∀ x ∈ G, x ∈ F ∨ w.heap.size ≤ x) (hF : ∀ x ∈ F', x ∈ F ∨ w.heap.size ≤ x) : Bytes64 w' F' av v := by
  obtain ⟨h1, g, o, cap, h2, h3, h4, h5⟩ := h
  refine ⟨h1, g, o, cap, h2, Nat.lt_of_lt_of_le h3 ho.size, fun hx => by rcases hF g hx with h | h; exact h4 h; omega, fun j u hu => ?_⟩
  rw [World.cell?_of_block (w := w) (ho.block g h3 (fun hx => by rcases hG g hx with h | h; exact h4 h; omega))]
  exact h5 j u hu
theorem PutsAt.step {w w' : World} {F F' G : List Nat} {lv : Value} {ps : List (Int × Array Value)} (h : PutsAt w F lv ps) (ho : Only G w w') (hG : ∀ x ∈ G, x ∈ F ∨ w.heap.size ≤ x) (hF : ∀ x ∈ F', x ∈ F ∨ w.heap.size ≤ x) : PutsAt w' F' lv ps := by
  obtain ⟨a, cap, h1, h2, h3⟩ := h.shape
  refine ⟨a, cap, h1, h2, fun i p hp => ?_⟩
  obtain ⟨g, o, av, e1, e2, e3, e4, e5, e6⟩ := h3 i p hp
  have hb := ho.block g e2 (fun hx => by rcases hG g hx with h | h; exact e3 h; omega)
  exact ⟨g, o, av, e1, Nat.lt_of_lt_of_le e2 ho.size, fun hx => by rcases hF g hx with h | h; exact e3 h; omega, (World.cell?_of_block hb).trans e4, (World.cell?_of_block hb).trans e5, e6.step ho hG hF⟩

theorem writes_drop {S Sk : St} {ps : List (Int × Array Value)} {k : Nat} {p : Int × Array Value} (hp : ps[k]? = some p) : Sk.writes (ps.drop k) = if (Sk.doWrite p.1 p.2).1 = 0 then (Sk.doWrite p.1 p.2).2.writes (ps.drop (k + 1)) else Sk.doWrite p.1 p.2 := by
  have hk := (List.getElem?_eq_some_iff.1 hp).1
  have he := (List.getElem?_eq_some_iff.1 hp).2
  rw [List.drop_eq_getElem_cons hk, he]
  rfl

set_option maxHeartbeats 1000000 in
theorem writeAll_any {w : World} {b : Nat} {F : List Nat} {S : St} {lv : Value} {ps : List (Int × Array Value)} (h : DAt w b F S) (hl : PutsAt w F lv ps) (hs : S.steps + ps.length < 1000000000) (hp : S.pend.length + ps.length < 1000000000) :
    Calls Try.prog 71 #[.pointer (some ⟨b, 0, none⟩), lv] w fun e w' => e = .returned (.int .i64 (S.writeAll ps).1) ∧ DPost w w' b F (S.writeAll ps).2 := by
  obtain ⟨a, cap, rfl, hlen, -⟩ := hl.shape
  have HL := Lib.hid hl
  have H0 : Hid (DPost w w b F S) := (⟨F, h, fun x hx => .inl hx, Only.refl _ _⟩ : DPost w w b F S)
  clear hl h
  go_enter Try.func71, Try.ntmps71
  go_wp2
  go_loopw [10] (fun i wr => ∃ (k : Nat) (Sk : St), k ≤ ps.length ∧ i = .int .i64 k ∧ S.writes ps = Sk.writes (ps.drop k) ∧ Sk.steps ≤ S.steps + k ∧ Sk.pend.length ≤ S.pend.length + k ∧ DPost w wr b F Sk) (fun i _ => ps.length - (intOf i).toNat)
  case atStart => exact ⟨0, S, by omega, rfl, rfl, by simp, by simp, H0.out⟩
  case round =>
    obtain ⟨k, Sk, hk, rfl, hw, hst, hpd, F', hd, hF', ho⟩ := hrel
    have hl' := HL.out.step ho (fun x hx => .inl hx) hF'
    by_cases hlt : k < ps.length
    · obtain ⟨p, hp'⟩ : ∃ p, ps[k]? = some p := ⟨_, List.getElem?_eq_getElem hlt⟩
      obtain ⟨a', cap', hsh, -, hall⟩ := hl'.shape
      cases hsh
      obtain ⟨g, o, av, rfl, g1, g2, c0, c1, hv⟩ := hall k p hp'
      have oa := (Only.refl [] wr).alloc (.cells #[.int .i64 p.1, av] 112)
      have WD := Lib.hid (write_do (hd.alloc (.cells #[.int .i64 p.1, av] 112)) p.1 (hv.only oa (by simp)) (by omega) (by omega))
      have HAV : Hid (∃ g o cap, av = .slice (some ⟨g, o, none⟩) 64 cap) := (by obtain ⟨_, g, o, cap, h2, _⟩ := hv; exact ⟨g, o, cap, h2⟩ : ∃ g o cap, av = .slice (some ⟨g, o, none⟩) 64 cap)
      have KEEP := Lib.hid (And.intro hd (And.intro hF' (And.intro ho hw)))
      clear hall hl' hv hd hF' ho hw
      obtain ⟨g3, o3, cap3, rfl⟩ := HAV.out
      clear HAV
      by_cases hz : (Sk.doWrite p.1 p.2).1 = 0
      · go_wp2_with (go_at_call 83; refine WD.out.mono ?_; rintro e w' ⟨rfl, hpost⟩)
        go_roundw
        case rel =>
          obtain ⟨hd, hF', ho, hw⟩ := KEEP.out
          have hd2 := doWrite_zero hz
          refine ⟨k + 1, _, by omega, by go_num, by rw [hw, writes_drop (S := S) hp', if_pos hz], ?_, ?_, DPost.trans (ho.alloc _) hF' hpost⟩
          · rw [hd2]; simp only [St.write, St.written, St.kept, St.stepped]; omega
          · rw [hd2]; simp only [St.write, St.written, St.kept, St.stepped, List.length_append, List.length_singleton]; omega
        case measure => simp [intOf]; omega
      · go_wp2_with (go_at_call 83; refine WD.out.mono ?_; rintro e w' ⟨rfl, hpost⟩)
        go_ret
        obtain ⟨hd, hF', ho, hw⟩ := KEEP.out
        have he : S.writeAll ps = Sk.doWrite p.1 p.2 := by
          have : S.writes ps = Sk.doWrite p.1 p.2 := by rw [hw, writes_drop (S := S) hp', if_neg hz]
          rw [St.writeAll, this, if_neg hz]
        rw [he]
        exact ⟨rfl, DPost.trans (ho.alloc _) hF' hpost⟩
    · have hkl : k = ps.length := by omega
      subst hkl
      have hw' : S.writes ps = (0, Sk) := by rw [hw, List.drop_length]; rfl
      have he : S.writeAll ps = Sk.doBarrier := by rw [St.writeAll, hw']; simp
      have BD := Lib.hid (barrier_do hd (by omega))
      have KEEP := Lib.hid (And.intro hF' (And.intro ho he))
      clear hl' hd hF' ho hw hw' he
      go_wp2_with (go_at_call 84; refine BD.out.mono ?_; rintro e w' ⟨rfl, hpost⟩)
      go_ret
      obtain ⟨hF', ho, he⟩ := KEEP.out
      rw [he]
      exact ⟨rfl, DPost.trans ho hF' hpost⟩

end Go.Proofs.Ytoccnaebckcfmaa
end

section
set_option linter.unusedSimpArgs false
set_option linter.unusedVariables false
set_option maxRecDepth 8000
namespace Go.Proofs.Ytoccnaebckcfmaa
open Go.RowKit

section
variable {o : Oper} {a : Act} {w : World}
theorem run_enter1 {f : FuncId} {x1 : Operand} {v1 : Value} {ts : Array TypeId} (hc : ∀ args w, (callFunc f args).run Try.prog w = .ok (.enter f args) w) (ho : o.op = .call { callee := .value (.func f), args := #[x1], argTypes := ts }) (h1 : a.eval x1 = v1) : (execOp a.eval o).run Try.prog w = .ok (.enter f #[v1]) w := by
  unfold execOp
  simp only [ho]
  have hf : a.eval (.func f) = .func (.func f) #[] #[] := rfl
  simp only [resolve, List.map_toArray, List.map_cons, List.map_nil, h1, hf, Sem.run_bind, Sem.run_pure, Result.andThen_ok]
  first | exact hc _ _ | simp [hc]
theorem run_enter2 {f : FuncId} {x1 x2 : Operand} {v1 v2 : Value} {ts : Array TypeId} (hc : ∀ args w, (callFunc f args).run Try.prog w = .ok (.enter f args) w) (ho : o.op = .call { callee := .value (.func f), args := #[x1, x2], argTypes := ts }) (h1 : a.eval x1 = v1) (h2 : a.eval x2 = v2) : (execOp a.eval o).run Try.prog w = .ok (.enter f #[v1, v2]) w := by
  unfold execOp
  simp only [ho]
  have hf : a.eval (.func f) = .func (.func f) #[] #[] := rfl
  simp only [resolve, List.map_toArray, List.map_cons, List.map_nil, h1, h2, hf, Sem.run_bind, Sem.run_pure, Result.andThen_ok]
  first | exact hc _ _ | simp [hc]
theorem run_enter3 {f : FuncId} {x1 x2 x3 : Operand} {v1 v2 v3 : Value} {ts : Array TypeId} (hc : ∀ args w, (callFunc f args).run Try.prog w = .ok (.enter f args) w) (ho : o.op = .call { callee := .value (.func f), args := #[x1, x2, x3], argTypes := ts }) (h1 : a.eval x1 = v1) (h2 : a.eval x2 = v2) (h3 : a.eval x3 = v3) : (execOp a.eval o).run Try.prog w = .ok (.enter f #[v1, v2, v3]) w := by
  unfold execOp
  simp only [ho]
  have hf : a.eval (.func f) = .func (.func f) #[] #[] := rfl
  simp only [resolve, List.map_toArray, List.map_cons, List.map_nil, h1, h2, h3, hf, Sem.run_bind, Sem.run_pure, Result.andThen_ok]
  first | exact hc _ _ | simp [hc]

theorem build54_run (i : Int) (p : Option Addr) (n c : Nat) (w : World) : (Instr.build 112 #[(0, .int .i64 i), (1, .slice p n c)]).run Try.prog w = .ok (.agg #[.int .i64 i, .slice p n c]) w := by kernel_rfl
theorem run_build54 {x y : Operand} {i : Int} {p : Option Addr} {n c : Nat} (ho : o.op = .build 112 #[(0, x), (1, y)]) (hx : a.eval x = .int .i64 i) (hy : a.eval y = .slice p n c) :
    ∀ w, (execOp a.eval o).run Try.prog w = .ok (.value (.agg #[.int .i64 i, .slice p n c])) w := by
  intro w
  unfold execOp
  simp only [ho, List.map_toArray, List.map_cons, List.map_nil, hx, hy, Sem.run_bind, build54_run i p n c w, Result.andThen_ok, Sem.run_pure]
theorem buildSlice32_run (x y : Value) (hx : x.oneCell' = true) (w : World) : (Instr.buildSlice 79 1 #[(0, .agg #[x, y])]).run Try.prog w = .ok (.slice (some ⟨w.heap.size, 0, none⟩) 1 1) (w.alloc (.cells #[x, y] 112)) := by kernel_rfl
theorem run_buildSlice32 {x : Operand} {u v : Value} (ho : o.op = .buildSlice 79 1 #[(0, x)]) (hx : a.eval x = .agg #[u, v]) (hu : u.oneCell' = true) :
    (execOp a.eval o).run Try.prog w = .ok (.value (.slice (some ⟨w.heap.size, 0, none⟩) 1 1)) (w.alloc (.cells #[u, v] 112)) := by
  unfold execOp
  simp only [ho, List.map_toArray, List.map_cons, List.map_nil, hx, Sem.run_bind, buildSlice32_run u v hu w, Result.andThen_ok, Sem.run_pure]
theorem run_field78 {x : Operand} {b k : Nat} (hk : k < 4) (ho : o.op = .fieldAddr 99 x k) (hx : a.eval x = .pointer (some ⟨b, 0, none⟩)) :
    ∀ w, (execOp a.eval o).run Try.prog w = .ok (.value (.pointer (some ⟨b, k, none⟩))) w := by
  intro w
  unfold execOp
  simp only [ho, hx]
  match k, hk with
  | 0, _ | 1, _ | 2, _ | 3, _ => go_simp
theorem run_load78 {x : Operand} {g : Nat} {v : Array Value} {t : TypeId} (ho : o.op = .load 99 x) (hx : a.eval x = .pointer (some ⟨g, 0, none⟩)) (hb : w.heap[g]? = some (.cells v t (0, 0))) (hv : v.size = 4) :
    (execOp a.eval o).run Try.prog w = .ok (.value (.agg v)) w := by
  unfold execOp
  simp only [ho, hx, Instr.loadAt, Instr.sureAddr, Sem.run_bind, Sem.run_pure, Result.andThen_ok, run_loadVar_row (P := Try.prog) w g t 99 v (0, 0) _ hb Try.underlying99 rfl (by rw [hv]; kernel_rfl)]
end

theorem Only.lat {w w' : World} (h : Only [] w w') : Lat w w' := ⟨h.size, fun k hk => h.block k hk (by simp)⟩

/-- One put in memory. -/
theorem putsAt_one {w : World} {F : List Nat} {g : Nat} {i : Int} {av : Value} {v : Array Value} {t : TypeId} (hb : w.heap[g]? = some (.cells #[.int .i64 i, av] t (0, 0))) (hg : g ∉ F) (hv : Bytes64 w F av v) : PutsAt w F (.slice (some ⟨g, 0, none⟩) 1 1) [(i, v)] := by
  refine ⟨_, _, rfl, by simp, fun j p hp => ?_⟩
  cases j with
  | succ j => simp at hp
  | zero =>
    simp at hp
    subst hp
    exact ⟨g, 0, av, rfl, (Array.getElem?_eq_some_iff.1 hb).1, hg, by rw [cell_of_row _ _ _ _ _ _ hb]; rfl, by rw [cell_of_row _ _ _ _ _ _ hb]; rfl, hv⟩

theorem bytes64_row {w : World} {F : List Nat} {g : Nat} {v : Array Value} {t : TypeId} (hb : w.heap[g]? = some (.cells v t (0, 0))) (hg : g ∉ F) (hv : SecOk v) : Bytes64 w F (.slice (some ⟨g, 0, none⟩) 64 64) v :=
  ⟨hv, g, 0, 64, rfl, (Array.getElem?_eq_some_iff.1 hb).1, hg, fun j u hu => by rw [Nat.zero_add, cell_of_row _ _ _ _ _ _ hb]; simpa using hu⟩

set_option maxHeartbeats 1000000 in
theorem writeHead_any {w : World} {b : Nat} {F : List Nat} {S : St} (h : DAt w b F S) (a s g p : Int) (ha : 0 ≤ a ∧ a ≤ 9223372036854775807) (hs : 0 ≤ s ∧ s ≤ 9223372036854775807) (hg : 0 ≤ g ∧ g ≤ 9223372036854775807) (hp : 0 ≤ p ∧ p ≤ 9223372036854775807)
    (hst : S.steps + 1 < 1000000000) (hpd : S.pend.length + 1 < 1000000000) :
    Calls Try.prog 66 #[.pointer (some ⟨b, 0, none⟩), .agg #[.int .i64 a, .int .i64 s, .int .i64 g, .int .i64 p]] w fun e w' => e = .returned (.int .i64 (S.writeAll [(a, headA a s g p)]).1) ∧ DPost w w' b F (S.writeAll [(a, headA a s g p)]).2 := by
  have H := Lib.hid h
  clear h
  go_enter Try.func66, Try.ntmps66
  go_wp2_with fail
  have hbox : (w.alloc (.cells #[.int .i64 a, .int .i64 s, .int .i64 g, .int .i64 p] 99)).drew.heap[w.heap.size]? = some (.cells #[.int .i64 a, .int .i64 s, .int .i64 g, .int .i64 p] 99 (0, 0)) := heap_alloc_last w _
  have c0 : (w.alloc (.cells #[.int .i64 a, .int .i64 s, .int .i64 g, .int .i64 p] 99)).drew.cell? ⟨w.heap.size, 0, none⟩ = some (.int .i64 a) := by rw [cell_of_row _ _ _ _ _ _ hbox]; rfl
  have d1 := (H.out.alloc (.cells #[.int .i64 a, .int .i64 s, .int .i64 g, .int .i64 p] 99)).drew
  have o1 := ((Only.refl [] w).alloc (.cells #[.int .i64 a, .int .i64 s, .int .i64 g, .int .i64 p] 99)).drew
  refine wp_region_flowR Lat [0, 0, 1, 1, 2, 0, 2, 3, 0] (by kernel_rfl) (by kernel_rfl) Lat.refl Lat.trans ?_
  generalize (w.alloc (.cells #[.int .i64 a, .int .i64 s, .int .i64 g, .int .i64 p] 99)).drew = w1 at *
  refine fr0 (u := .pointer (some ⟨b, 0, none⟩)) rfl (fun _ => rfl) ?_
  refine fr0 (u := .pointer (some ⟨w.heap.size, 0, none⟩)) rfl (run_field78 (by omega) rfl rfl) ?_
  simp only [Act.put, List.setIfInBounds_toArray, List.set_cons_succ, List.set_cons_zero]
  refine fr1 (u := .int .i64 a) rfl (fun x hx => run_load1 rfl rfl (hx.cell c0) isAgg3) ?_
  refine fr1 (u := .agg #[.int .i64 a, .int .i64 s, .int .i64 g, .int .i64 p]) rfl (fun x hx => run_load78 rfl rfl (hx.at hbox) rfl) ?_
  simp only [Act.put, List.setIfInBounds_toArray, List.set_cons_succ, List.set_cons_zero]
  refine fr2c rfl (run_enter1 Try.call59 rfl rfl) (bytes_any w1 a s g p ha hs hg hp) ?_
  rintro e w2 ⟨q, rfl, hq, hqb, o2⟩
  refine ⟨_, rfl, o2.lat, ?_⟩
  simp only [Act.put, List.setIfInBounds_toArray, List.set_cons_succ, List.set_cons_zero]
  refine fr0 (u := .agg #[.int .i64 a, .slice (some ⟨q, 0, none⟩) 64 64]) rfl (run_build54 rfl rfl rfl) ?_
  simp only [Act.put, List.setIfInBounds_toArray, List.set_cons_succ, List.set_cons_zero]
  refine fr2 (u := .slice (some ⟨w2.heap.size, 0, none⟩) 1 1) (w' := w2.alloc (.cells #[.int .i64 a, .slice (some ⟨q, 0, none⟩) 64 64] 112)) rfl (Lat.alloc _ _) (.inl (run_buildSlice32 rfl rfl rfl)) ?_
  simp only [Act.put, List.setIfInBounds_toArray, List.set_cons_succ, List.set_cons_zero]
  have d2 := d1.only o2 (by simp)
  have d3 := d2.alloc (.cells #[.int .i64 a, .slice (some ⟨q, 0, none⟩) 64 64] 112)
  have hb3 := heap_alloc_last w2 (.cells #[.int .i64 a, .slice (some ⟨q, 0, none⟩) 64 64] 112)
  have hq3 : (w2.alloc (.cells #[.int .i64 a, .slice (some ⟨q, 0, none⟩) 64 64] 112)).heap[q]? = some (.cells (headA a s g p) 5 (0, 0)) := by rw [Below.heap_alloc _ _ _ (Array.getElem?_eq_some_iff.1 hqb).1]; exact hqb
  have hqF : q ∉ F := fun hx => by have := dAt_lt d1 q hx; omega
  have hgF : w2.heap.size ∉ F := fun hx => by have := dAt_lt d2 _ hx; omega
  have o3 : Only [] w (w2.alloc (.cells #[.int .i64 a, .slice (some ⟨q, 0, none⟩) 64 64] 112)) := (o1.trans o2 (by simp)).alloc _
  refine fr3c rfl (run_enter2 Try.call71 rfl rfl rfl) (writeAll_any d3 (putsAt_one hb3 hgF (bytes64_row hq3 hqF (headA_ok a s g p))) (by simpa using hst) (by simpa using hpd)) ?_
  rintro e w4 ⟨rfl, hpost⟩
  refine ⟨_, rfl, ?_⟩
  simp only [Act.put, List.setIfInBounds_toArray, List.set_cons_succ, List.set_cons_zero]
  refine fr0 rfl (fun _ => rfl) ?_
  refine frnil ?_
  show Exit.then _ _ _ _ _
  go_wp2
  go_ret
  exact ⟨rfl, DPost.trans (o3.mono (by simp)) (fun x hx => .inl hx) hpost⟩

end Go.Proofs.Ytoccnaebckcfmaa
end

section
set_option linter.unusedSimpArgs false
set_option linter.unusedVariables false
set_option maxRecDepth 8000
namespace Go.Proofs.Ytoccnaebckcfmaa
open Go.RowKit

theorem wrap64 {n : Int} (h1 : -9223372036854775808 ≤ n) (h2 : n ≤ 9223372036854775807) : IntKind.i64.wrap n = n := by
  simp [IntKind.wrap, IntKind.signed, IntKind.bits]
  omega

section
variable {o : Oper} {a : Act} {w : World}
theorem run_field75 {x : Operand} {b k : Nat} (hk : k < 4) (ho : o.op = .fieldAddr 104 x k) (hx : a.eval x = .pointer (some ⟨b, 0, none⟩)) :
    ∀ w, (execOp a.eval o).run Try.prog w = .ok (.value (.pointer (some ⟨b, k, none⟩))) w := by
  intro w
  unfold execOp
  simp only [ho, hx]
  match k, hk with
  | 0, _ | 1, _ | 2, _ | 3, _ => go_simp
theorem run_geq {x y : Operand} {i j : Int} (ho : o.op = .binOp .geq 3 x y 3) (hx : a.eval x = .int .i64 i) (hy : a.eval y = .int .i64 j) : ∀ w, (execOp a.eval o).run Try.prog w = .ok (.value (.bool (decide (j ≤ i)))) w := by
  intro w
  unfold execOp
  simp only [ho, hx, hy]
  go_simp
theorem run_lss {x y : Operand} {i j : Int} (ho : o.op = .binOp .lss 3 x y 3) (hx : a.eval x = .int .i64 i) (hy : a.eval y = .int .i64 j) : ∀ w, (execOp a.eval o).run Try.prog w = .ok (.value (.bool (decide (i < j)))) w := by
  intro w
  unfold execOp
  simp only [ho, hx, hy]
  go_simp
theorem run_gtr {x y : Operand} {i j : Int} (ho : o.op = .binOp .gtr 3 x y 3) (hx : a.eval x = .int .i64 i) (hy : a.eval y = .int .i64 j) : ∀ w, (execOp a.eval o).run Try.prog w = .ok (.value (.bool (decide (j < i)))) w := by
  intro w
  unfold execOp
  simp only [ho, hx, hy]
  go_simp
theorem run_neq {x y : Operand} {i j : Int} (ho : o.op = .binOp .neq 3 x y 3) (hx : a.eval x = .int .i64 i) (hy : a.eval y = .int .i64 j) : ∀ w, (execOp a.eval o).run Try.prog w = .ok (.value (.bool (i != j))) w := by
  intro w
  unfold execOp
  simp only [ho, hx, hy]
  go_simp
theorem run_sub {x y : Operand} {i j : Int} (h1 : -9223372036854775808 ≤ i - j) (h2 : i - j ≤ 9223372036854775807) (ho : o.op = .binOp .sub 3 x y 3) (hx : a.eval x = .int .i64 i) (hy : a.eval y = .int .i64 j) : ∀ w, (execOp a.eval o).run Try.prog w = .ok (.value (.int .i64 (i - j))) w := by
  intro w
  unfold execOp
  simp only [ho, hx, hy]
  go_simp
  exact wrap64 h1 h2
theorem run_add {x y : Operand} {i j : Int} (h1 : -9223372036854775808 ≤ i + j) (h2 : i + j ≤ 9223372036854775807) (ho : o.op = .binOp .add 3 x y 3) (hx : a.eval x = .int .i64 i) (hy : a.eval y = .int .i64 j) : ∀ w, (execOp a.eval o).run Try.prog w = .ok (.value (.int .i64 (i + j))) w := by
  intro w
  unfold execOp
  simp only [ho, hx, hy]
  go_simp
  exact wrap64 h1 h2
theorem isAgg25 (w : World) : (isAgg 25).run Try.prog w = .ok false w := by kernel_rfl
theorem isAgg51 (w : World) : (isAgg 34).run Try.prog w = .ok false w := by kernel_rfl
end

/-- A log in memory. -/
def wrow (b : Nat) (a s g : Int) : Array Value := #[.pointer (some ⟨b, 0, none⟩), .int .i64 a, .int .i64 s, .int .i64 g]
def WalAt (w : World) (wb b : Nat) (a s g : Int) : Prop := w.heap[wb]? = some (.cells (wrow b a s g) 104 (0, 0))
theorem WalAt.cells {w : World} {wb b : Nat} {a s g : Int} (h : WalAt w wb b a s g) : w.cell? ⟨wb, 0, none⟩ = some (.pointer (some ⟨b, 0, none⟩)) ∧ w.cell? ⟨wb, 1, none⟩ = some (.int .i64 a) ∧ w.cell? ⟨wb, 2, none⟩ = some (.int .i64 s) ∧ w.cell? ⟨wb, 3, none⟩ = some (.int .i64 g) ∧ (∀ i, w.frozen? ⟨wb, i, none⟩ = false) := by
  unfold WalAt at h
  refine ⟨?_, ?_, ?_, ?_, fun i => by simp [World.frozen?, h]⟩
  all_goals (rw [cell_of_row _ _ _ _ _ _ h]; rfl)
theorem WalAt.lt {w : World} {wb b : Nat} {a s g : Int} (h : WalAt w wb b a s g) : wb < w.heap.size := (Array.getElem?_eq_some_iff.1 h).1
theorem WalAt.only {w w' : World} {wb b : Nat} {a s g : Int} {G : List Nat} (h : WalAt w wb b a s g) (ho : Only G w w') (hG : wb ∉ G) : WalAt w' wb b a s g := (ho.block wb h.lt hG).trans h

set_option maxHeartbeats 1000000 in
theorem owns_any {w : World} {wb b : Nat} {a s g : Int} (h : WalAt w wb b a s g) (x : Int) (ha : 0 ≤ a) (ha1 : a ≤ 9223372036854775807) (hx1 : x ≤ 9223372036854775807) :
    Calls Try.prog 82 #[.pointer (some ⟨wb, 0, none⟩), .int .i64 x] w fun e w' => e = .returned (.bool (decide (a ≤ x ∧ x - a < s))) ∧ Only [] w w' := by
  obtain ⟨c0, c1, c2, c3, fz⟩ := h.cells
  have hd : ∀ {p : Addr} {u : Value}, w.cell? p = some u → w.drew.cell? p = some u := fun h => h
  by_cases hc : a ≤ x
  · go_enter Try.func82, Try.ntmps82
    go_wp2_with fail
    refine wp_region_flowR Lat [0, 0, 0, 0, 1, 0, 0, 0, 0, 0, 0, 1, 0, 0, 0, 0, 1, 0, 0, 0] (by kernel_rfl) (by kernel_rfl) Lat.refl Lat.trans ?_
    refine fr0 rfl (fun _ => rfl) ?_
    simp only [Act.put, List.setIfInBounds_toArray, List.set_cons_succ, List.set_cons_zero]
    refine fr0 rfl (fun _ => rfl) ?_
    simp only [Act.put, List.setIfInBounds_toArray, List.set_cons_succ, List.set_cons_zero]
    refine fr0 rfl (fun _ => rfl) ?_
    simp only [Act.put, List.setIfInBounds_toArray, List.set_cons_succ, List.set_cons_zero]
    refine fr0 rfl (run_field75 (by omega) rfl rfl) ?_
    simp only [Act.put, List.setIfInBounds_toArray, List.set_cons_succ, List.set_cons_zero]
    refine fr1 (u := .int .i64 a) rfl (fun x hx => run_load1 rfl rfl (hx.cell (hd c1)) isAgg3) ?_
    simp only [Act.put, List.setIfInBounds_toArray, List.set_cons_succ, List.set_cons_zero]
    refine fr0 (u := .bool true) rfl (fun w => (run_geq rfl rfl rfl w).trans (by rw [decide_eq_true hc])) ?_
    simp only [Act.put, List.setIfInBounds_toArray, List.set_cons_succ, List.set_cons_zero]
    refine fr0 rfl (fun _ => rfl) ?_
    simp only [Act.put, List.setIfInBounds_toArray, List.set_cons_succ, List.set_cons_zero]
    refine fr0 (by kernel_rfl) (fun _ => rfl) ?_
    simp only [Act.put, List.setIfInBounds_toArray, List.set_cons_succ, List.set_cons_zero]
    refine fr0 (by kernel_rfl) (fun _ => rfl) ?_
    simp only [Act.put, List.setIfInBounds_toArray, List.set_cons_succ, List.set_cons_zero]
    refine fr0 (by kernel_rfl) (fun _ => rfl) ?_
    simp only [Act.put, List.setIfInBounds_toArray, List.set_cons_succ, List.set_cons_zero]
    refine fr0 (by kernel_rfl) (run_field75 (by omega) rfl rfl) ?_
    simp only [Act.put, List.setIfInBounds_toArray, List.set_cons_succ, List.set_cons_zero]
    refine fr1 (u := .int .i64 a) (by kernel_rfl) (fun x hx => run_load1 rfl rfl (hx.cell (hd c1)) isAgg3) ?_
    simp only [Act.put, List.setIfInBounds_toArray, List.set_cons_succ, List.set_cons_zero]
    refine fr0 (u := .int .i64 (x - a)) (by kernel_rfl) (run_sub (by omega) (by omega) rfl rfl rfl) ?_
    simp only [Act.put, List.setIfInBounds_toArray, List.set_cons_succ, List.set_cons_zero]
    refine fr0 (by kernel_rfl) (fun _ => rfl) ?_
    simp only [Act.put, List.setIfInBounds_toArray, List.set_cons_succ, List.set_cons_zero]
    refine fr0 (by kernel_rfl) (fun _ => rfl) ?_
    simp only [Act.put, List.setIfInBounds_toArray, List.set_cons_succ, List.set_cons_zero]
    refine fr0 (by kernel_rfl) (run_field75 (by omega) rfl rfl) ?_
    simp only [Act.put, List.setIfInBounds_toArray, List.set_cons_succ, List.set_cons_zero]
    refine fr1 (u := .int .i64 s) (by kernel_rfl) (fun x hx => run_load1 rfl rfl (hx.cell (hd c2)) isAgg3) ?_
    simp only [Act.put, List.setIfInBounds_toArray, List.set_cons_succ, List.set_cons_zero]
    refine fr0 (by kernel_rfl) (run_lss rfl rfl rfl) ?_
    simp only [Act.put, List.setIfInBounds_toArray, List.set_cons_succ, List.set_cons_zero]
    refine fr0 rfl (fun _ => rfl) ?_
    simp only [Act.put, List.setIfInBounds_toArray, List.set_cons_succ, List.set_cons_zero]
    refine fr0 rfl (fun _ => rfl) ?_
    simp only [Act.put, List.setIfInBounds_toArray, List.set_cons_succ, List.set_cons_zero]
    refine frnil ?_
    show Exit.then _ _ _ _ _
    go_wp2
    go_ret
    exact ⟨ret_bool (by simp [hc]), (Only.refl [] w).drew⟩
  · go_enter Try.func82, Try.ntmps82
    go_wp2_with fail
    refine wp_region_flowR Lat [0, 0, 0, 0, 1, 0, 0, 0, 0, 0, 0, 1, 0, 0, 0, 0, 1, 0, 0, 0] (by kernel_rfl) (by kernel_rfl) Lat.refl Lat.trans ?_
    refine fr0 rfl (fun _ => rfl) ?_
    simp only [Act.put, List.setIfInBounds_toArray, List.set_cons_succ, List.set_cons_zero]
    refine fr0 rfl (fun _ => rfl) ?_
    simp only [Act.put, List.setIfInBounds_toArray, List.set_cons_succ, List.set_cons_zero]
    refine fr0 rfl (fun _ => rfl) ?_
    simp only [Act.put, List.setIfInBounds_toArray, List.set_cons_succ, List.set_cons_zero]
    refine fr0 rfl (run_field75 (by omega) rfl rfl) ?_
    simp only [Act.put, List.setIfInBounds_toArray, List.set_cons_succ, List.set_cons_zero]
    refine fr1 (u := .int .i64 a) rfl (fun x hx => run_load1 rfl rfl (hx.cell (hd c1)) isAgg3) ?_
    simp only [Act.put, List.setIfInBounds_toArray, List.set_cons_succ, List.set_cons_zero]
    refine fr0 (u := .bool false) rfl (fun w => (run_geq rfl rfl rfl w).trans (by rw [decide_eq_false (show ¬ a ≤ x by omega)])) ?_
    simp only [Act.put, List.setIfInBounds_toArray, List.set_cons_succ, List.set_cons_zero]
    refine fr0 rfl (fun _ => rfl) ?_
    simp only [Act.put, List.setIfInBounds_toArray, List.set_cons_succ, List.set_cons_zero]
    refine frx (by kernel_rfl) ?_
    simp only [Act.put, List.setIfInBounds_toArray, List.set_cons_succ, List.set_cons_zero]
    refine frx (by kernel_rfl) ?_
    simp only [Act.put, List.setIfInBounds_toArray, List.set_cons_succ, List.set_cons_zero]
    refine frx (by kernel_rfl) ?_
    simp only [Act.put, List.setIfInBounds_toArray, List.set_cons_succ, List.set_cons_zero]
    refine frx (by kernel_rfl) ?_
    simp only [Act.put, List.setIfInBounds_toArray, List.set_cons_succ, List.set_cons_zero]
    refine frx (by kernel_rfl) ?_
    simp only [Act.put, List.setIfInBounds_toArray, List.set_cons_succ, List.set_cons_zero]
    refine frx (by kernel_rfl) ?_
    simp only [Act.put, List.setIfInBounds_toArray, List.set_cons_succ, List.set_cons_zero]
    refine frx (by kernel_rfl) ?_
    simp only [Act.put, List.setIfInBounds_toArray, List.set_cons_succ, List.set_cons_zero]
    refine frx (by kernel_rfl) ?_
    simp only [Act.put, List.setIfInBounds_toArray, List.set_cons_succ, List.set_cons_zero]
    refine frx (by kernel_rfl) ?_
    simp only [Act.put, List.setIfInBounds_toArray, List.set_cons_succ, List.set_cons_zero]
    refine frx (by kernel_rfl) ?_
    simp only [Act.put, List.setIfInBounds_toArray, List.set_cons_succ, List.set_cons_zero]
    refine frx (by kernel_rfl) ?_
    simp only [Act.put, List.setIfInBounds_toArray, List.set_cons_succ, List.set_cons_zero]
    refine fr0 rfl (fun _ => rfl) ?_
    simp only [Act.put, List.setIfInBounds_toArray, List.set_cons_succ, List.set_cons_zero]
    refine fr0 rfl (fun _ => rfl) ?_
    simp only [Act.put, List.setIfInBounds_toArray, List.set_cons_succ, List.set_cons_zero]
    refine frnil ?_
    show Exit.then _ _ _ _ _
    go_wp2
    go_ret
    exact ⟨ret_bool (by rw [decide_eq_false (show ¬ a ≤ x by omega)]; rfl), (Only.refl [] w).drew⟩

end Go.Proofs.Ytoccnaebckcfmaa
end

section
set_option linter.unusedSimpArgs false
set_option linter.unusedVariables false
set_option maxRecDepth 8000
namespace Go.Proofs.Ytoccnaebckcfmaa
open Go.RowKit
open Go.ChangeMaps (setBlock)

theorem DAt.lat {w x : World} {b : Nat} {F : List Nat} {S : St} (h : DAt w b F S) (hl : Lat w x) : DAt x b F S := dAt_congr h (fun k hk => hl.2 k (dAt_lt h k hk))

/-! Lists without doubles. -/
theorem length_le_of_nodup : ∀ {K ks : List Int}, K.Nodup → (∀ x ∈ K, x ∈ ks) → K.length ≤ ks.length
  | [], _, _, _ => by simp
  | a :: K, ks, hn, hs => by
    obtain ⟨s, t, rfl⟩ := List.append_of_mem (hs a (by simp))
    obtain ⟨h1, h2⟩ := List.nodup_cons.1 hn
    have := length_le_of_nodup (K := K) (ks := s ++ t) h2 (fun x hx => by
      have h3 := hs x (by simp [hx])
      have : x ≠ a := fun e => h1 (e ▸ hx)
      simp [this] at h3 ⊢
      exact h3)
    simp at this ⊢
    omega
theorem shorter_of_double : ∀ {ks : List Int}, ¬ ks.Nodup → ∃ ks' : List Int, ks'.length < ks.length ∧ ∀ x ∈ ks, x ∈ ks'
  | [], h => absurd List.nodup_nil h
  | a :: ks, h => by
    by_cases ha : a ∈ ks
    · exact ⟨ks, by simp, fun x hx => by rcases List.mem_cons.1 hx with rfl | hx; exact ha; exact hx⟩
    · have : ¬ ks.Nodup := fun hn => h (List.nodup_cons.2 ⟨ha, hn⟩)
      obtain ⟨ks', h1, h2⟩ := shorter_of_double this
      exact ⟨a :: ks', by simp; omega, fun x hx => by rcases List.mem_cons.1 hx with rfl | hx; simp; exact List.mem_cons_of_mem _ (h2 x hx)⟩
theorem length_eq_iff {K ks : List Int} (hn : K.Nodup) (h1 : ∀ x ∈ K, x ∈ ks) (h2 : ∀ x ∈ ks, x ∈ K) : K.length = ks.length ↔ ks.Nodup := by
  constructor
  · intro he
    apply Classical.byContradiction
    intro hd
    obtain ⟨ks', h3, h4⟩ := shorter_of_double hd
    have := length_le_of_nodup hn (fun x hx => h4 x (h1 x hx))
    omega
  · intro hk
    have a := length_le_of_nodup hn h1
    have b := length_le_of_nodup hk h2
    omega

/-! A map that is a set of numbers. -/
def setF (l : List Int) : Int → Option (Array Value) := fun x => if x ∈ l then some #[] else none
theorem setF_add (l : List Int) (x : Int) : updF (setF l) x #[] = setF (l ++ [x]) := by
  funext j
  unfold updF setF
  by_cases h : j = x
  · simp [h]
  · simp [h]
theorem setF_nil : setF [] = fun _ => none := by funext j; simp [setF]
theorem set_len {w : World} {m : Nat} {ks : List Int} (h : MapAt w m (setF ks)) (ty : TypeId) : ∃ n : Nat, (Builtin.len_ #[72] ty #[.map (some m)]).run Try.prog w = .ok (.int .i64 n) w ∧ (n = ks.length ↔ ks.Nodup) := by
  obtain ⟨es, clock, hb, ok⟩ := h
  have hkey : ∀ e ∈ es.toList, ∃ k, e.key = .int .i64 k := fun e he => by obtain ⟨k, v, h1, _⟩ := ok.form e he; exact ⟨k, h1⟩
  let K : List Int := es.toList.map (fun e => intOf e.key)
  have hKn : K.Nodup := by
    rw [List.nodup_iff_pairwise_ne, List.pairwise_map]
    refine ok.keys.imp_of_mem ?_
    intro x y hx hy hne he
    obtain ⟨kx, hx'⟩ := hkey x hx
    obtain ⟨ky, hy'⟩ := hkey y hy
    rw [hx', hy'] at he hne
    simp [intOf] at he
    exact hne (by rw [he])
  have h1 : ∀ x ∈ K, x ∈ ks := fun x hx => by
    obtain ⟨e, he, rfl⟩ := List.mem_map.1 hx
    obtain ⟨k, v, hk, hv⟩ := ok.form e he
    have := (ok.has k v).2 ⟨e, he, hk, hv⟩
    unfold setF at this
    split at this
    · rename_i hm; rw [hk]; exact hm
    · cases this
  have h2 : ∀ x ∈ ks, x ∈ K := fun x hx => by
    obtain ⟨e, he, hk, _⟩ := (ok.has x #[]).1 (by simp [setF, hx])
    exact List.mem_map.2 ⟨e, he, by rw [hk]; rfl⟩
  refine ⟨es.size, ?_, ?_⟩
  · simp [Builtin.len_, run_underlying Try.underlying72, Go.MapKept.run_getObj_map hb, Result.andThen]
    rfl
  · rw [← length_eq_iff hKn h1 h2]
    simp [K]

theorem len51 (ty : TypeId) (p : Option Addr) (n c : Nat) (w : World) : (Builtin.len_ #[34] ty #[.slice p n c]).run Try.prog w = .ok (.int .i64 n) w := by kernel_rfl

section
variable {ops : Array Oper} {rest : List Oper} {o : Oper} {a : Act} {Q : Exit → Act → World → Prop} {w : World}
theorem wpL_update92 {m x y : Operand} {b : Nat} {f : Int → Option (Array Value)} {k : Int} {v : Array Value} (hg : o.guard = none) (ho : o.op = .mapUpdate 72 m x y) (hm : a.eval m = .map (some b)) (hx : a.eval x = .int .i64 k) (hy : a.eval y = .agg v) (hf : MapAt w b f)
    (h : ∀ ob, MapAt (setBlock w b ob) b (updF f k v) → wpList Try.prog ops Q rest (a.put o.dst undef) (setBlock w b ob)) : wpList Try.prog ops Q (o :: rest) a w := by
  obtain ⟨ob, hr, hm'⟩ := hf.update (P := Try.prog) Try.underlying72 Try.underlying3 k v
  refine wpL_skip hg ?_ (h ob hm')
  unfold execOp
  rw [ho]
  simp only [hm, hx, hy, Sem.run_bind, hr, Result.andThen]
  rfl
theorem run_field54 {x : Operand} {b k : Nat} (hk : k < 2) (ho : o.op = .fieldAddr 112 x k) (hx : a.eval x = .pointer (some ⟨b, 0, none⟩)) :
    ∀ w, (execOp a.eval o).run Try.prog w = .ok (.value (.pointer (some ⟨b, k, none⟩))) w := by
  intro w
  unfold execOp
  simp only [ho, hx]
  match k, hk with
  | 0, _ | 1, _ => go_simp
theorem run_len51 {x : Operand} {p : Option Addr} {n c : Nat} (ho : o.op = .call { callee := .builtin .len, args := #[x], argTypes := #[34] }) (hx : a.eval x = .slice p n c) : ∀ w, (execOp a.eval o).run Try.prog w = .ok (.value (.int .i64 n)) w := by
  intro w
  unfold execOp
  simp only [ho, resolve, invoke, builtin, Sem.run_bind, Sem.run_pure, Result.andThen_ok, List.map_toArray, List.map_cons, List.map_nil, hx, len51 _ p n c w]
theorem does_len {x : Operand} {b : Nat} {F : List Nat} {S : St} {t : TypeId} (hd : DAt w b F S) (ho : o.op = .call { callee := .value (.func 45), args := #[x], argTypes := #[t] }) (hx : a.eval x = .pointer (some ⟨b, 0, none⟩)) : Does Try.prog o a w (.int .i64 S.n) w :=
  .inr (.inr ⟨45, _, run_enter1 Try.call45 ho hx, (len_any hd).mono fun e w' h => ⟨h.1, h.2.symm⟩⟩)
end
theorem makeMap92 (n : Nat) (w : World) : (Instr.makeMap 72 (some (.int .i64 n))).run Try.prog w = .ok (.map (some w.heap.size)) (w.alloc (.map #[] 0)) := by kernel_rfl

/-- Puts of whatever kind in memory: their sectors, and how many bytes they have. -/
def RawsAt (w : World) (lv : Value) (rs : List (Int × Nat)) : Prop :=
  ∃ a cap, lv = .slice a rs.length cap ∧ ∀ i r, rs[i]? = some r → r.1 ≤ 9223372036854775807 ∧ ∃ g o ad cap', a = some ⟨g, o, none⟩ ∧ g < w.heap.size ∧ w.cell? ⟨g, o + i * 2, none⟩ = some (.int .i64 r.1) ∧ w.cell? ⟨g, o + i * 2 + 1, none⟩ = some (.slice ad r.2 cap')

/-- A put that may be in a group. -/
def PutOk (a s n : Int) (r : Int × Nat) : Prop := 0 ≤ r.1 ∧ r.1 < n ∧ ¬ (a ≤ r.1 ∧ r.1 - a < s) ∧ r.2 = 64
def GroupOk (a s n : Int) (rs : List (Int × Nat)) : Prop := (rs.length : Int) ≤ roomF s ∧ (∀ r ∈ rs, PutOk a s n r) ∧ (rs.map (·.1)).Nodup

theorem not_group {a s n : Int} {rs : List (Int × Nat)} {r : Int × Nat} (hr : r ∈ rs) (h : ¬ PutOk a s n r) : ¬ GroupOk a s n rs := fun hg => h (hg.2.1 r hr)
def ValidPost (a s n : Int) (rs : List (Int × Nat)) (w : World) (e : Ending) (w' : World) : Prop := ∃ r : Bool, e = .returned (.bool r) ∧ (r = true ↔ GroupOk a s n rs) ∧ Only [] w w'
theorem ValidPost.mk {a s n : Int} {rs : List (Int × Nat)} {w w' : World} {r : Bool} (h : r = true ↔ GroupOk a s n rs) (ho : Only [] w w') : ValidPost a s n rs w (.returned (.bool r)) w' := Exists.intro r ⟨rfl, h, ho⟩
theorem ValidPost.no {a s n : Int} {rs : List (Int × Nat)} {w w' : World} (h : ¬ GroupOk a s n rs) (ho : Only [] w w') : ValidPost a s n rs w (.returned (.bool false)) w' := ValidPost.mk (by simp [h]) ho
set_option maxHeartbeats 2000000 in
theorem valid_any {w : World} {wb b : Nat} {F : List Nat} {S : St} {a s g : Int} {lv : Value} {rs : List (Int × Nat)} (hd : DAt w b F S) (hw : WalAt w wb b a s g) (hl : RawsAt w lv rs) (ha : 0 ≤ a) (ha1 : a ≤ 8192) (hs : 3 ≤ s) (hs1 : s ≤ 8192) :
    Calls Try.prog 70 #[.pointer (some ⟨wb, 0, none⟩), lv] w fun e w' => ValidPost a s S.n rs w e w' := by
  obtain ⟨ad, cap, rfl, hall⟩ := hl
  have R := Lib.hid (room_any s w (by omega))
  have rbd := roomF_bd hs
  obtain ⟨c0, c1, c2, c3, fz⟩ := hw.cells
  by_cases hlen : roomF s < (rs.length : Int)
  · have hlen' : ¬ (rs.length : Int) ≤ roomF s := by omega
    have NG : Hid (¬ GroupOk a s S.n rs) := (fun h : GroupOk a s S.n rs => hlen' h.1)
    clear hall hd hw
    go_enter Try.func70, Try.ntmps70
    go_wp2_with (go_at_call 60; refine R.out.mono ?_; rintro e w' ⟨rfl, rfl⟩)
    go_ret
    exact ValidPost.no NG.out (Only.refl _ _)
  · have hlen' : (rs.length : Int) ≤ roomF s := by omega
    have HALL := Lib.hid hall
    have HD := Lib.hid hd
    have HW := Lib.hid hw
    have C0 := Lib.hid c0
    have hmm := makeMap92 rs.length
    clear hall hd hw c1 c3
    go_enter Try.func70, Try.ntmps70
    go_wp2_with (go_at_call 60; refine R.out.mono ?_; rintro e w' ⟨rfl, rfl⟩)
    go_loopw [28] (fun i wr => ∃ k : Nat, k ≤ rs.length ∧ i = .int .i64 k ∧ MapAt wr w.heap.size (setF ((rs.take k).map (·.1))) ∧ (∀ r ∈ rs.take k, PutOk a s S.n r) ∧ Only [] w wr) (fun i _ => rs.length - (intOf i).toNat)
    case atStart => exact ⟨0, by omega, rfl, by simp only [List.take_zero, List.map_nil, setF_nil]; exact mapAt_made w, by simp, (Only.refl [] w).alloc _⟩
    case round =>
      obtain ⟨k, hk, rfl, hm, hgood, ho⟩ := hrel
      by_cases hlt : k < rs.length
      · obtain ⟨r, hr⟩ : ∃ r, rs[k]? = some r := ⟨_, List.getElem?_eq_getElem hlt⟩
        obtain ⟨hr1, g1, o1, ad1, cap1, rfl, hg1, q0, q1⟩ := HALL.out k r hr
        have p0 : wr.cell? ⟨g1, o1 + k * 2, none⟩ = some (.int .i64 r.1) := (World.cell?_of_block (ho.block g1 hg1 (by simp))).trans q0
        have p1 : wr.cell? ⟨g1, o1 + k * 2 + 1, none⟩ = some (.slice ad1 r.2 cap1) := (World.cell?_of_block (ho.block g1 hg1 (by simp))).trans q1
        have hrm : r ∈ rs := List.mem_of_getElem? hr
        have KEEP := Lib.hid (And.intro hm (And.intro hgood (And.intro ho hr)))
        clear q0 q1 hm hgood ho hr
        go_wp2_with fail
        have oa : Only [] w (wr.alloc (.cells #[.int .i64 r.1, .slice ad1 r.2 cap1] 112)).drew := (KEEP.out.2.2.1.alloc _).drew
        have hblk : (wr.alloc (.cells #[.int .i64 r.1, .slice ad1 r.2 cap1] 112)).drew.heap[wr.heap.size]? = some (.cells #[.int .i64 r.1, .slice ad1 r.2 cap1] 112 (0, 0)) := heap_alloc_last wr _
        have hmm2 : MapAt (wr.alloc (.cells #[.int .i64 r.1, .slice ad1 r.2 cap1] 112)).drew w.heap.size (setF ((rs.take k).map (·.1))) := mapAt_congr KEEP.out.1 (Below.heap_alloc _ _ _ (mapAt_lt KEEP.out.1))
        have e0 : (wr.alloc (.cells #[.int .i64 r.1, .slice ad1 r.2 cap1] 112)).drew.cell? ⟨wr.heap.size, 0, none⟩ = some (.int .i64 r.1) := by rw [cell_of_row _ _ _ _ _ _ hblk]; rfl
        have e1 : (wr.alloc (.cells #[.int .i64 r.1, .slice ad1 r.2 cap1] 112)).drew.cell? ⟨wr.heap.size, 1, none⟩ = some (.slice ad1 r.2 cap1) := by rw [cell_of_row _ _ _ _ _ _ hblk]; rfl
        have f0 : (wr.alloc (.cells #[.int .i64 r.1, .slice ad1 r.2 cap1] 112)).drew.cell? ⟨wb, 0, none⟩ = some (.pointer (some ⟨b, 0, none⟩)) := (HW.out.only oa (by simp)).cells.1
        have hd2 := HD.out.only oa (by simp)
        have hw2 := HW.out.only oa (by simp)
        have hsz : wr.heap.size < (wr.alloc (.cells #[.int .i64 r.1, .slice ad1 r.2 cap1] 112)).drew.heap.size := (Array.getElem?_eq_some_iff.1 hblk).1
        by_cases hc : r.1 < 0
        · have WHY : Hid (¬ PutOk a s S.n r) := (fun h : PutOk a s S.n r => absurd h.1 (by omega))
          refine wp_region_flowR Lat [0, 1, 0, 0, 0, 1, 0, 0, 0, 1, 1, 0, 0, 0, 0, 0, 1, 2, 0, 0, 0, 1, 0, 0, 0] (by kernel_rfl) (by kernel_rfl) Lat.refl Lat.trans ?_
          refine fr0 rfl (run_field54 (by omega) rfl rfl) ?_
          simp only [Act.put, List.setIfInBounds_toArray, List.set_cons_succ, List.set_cons_zero]
          refine fr1 (u := .int .i64 r.1) rfl (fun x hx => run_load1 rfl rfl (hx.cell e0) isAgg3) ?_
          simp only [Act.put, List.setIfInBounds_toArray, List.set_cons_succ, List.set_cons_zero]
          refine fr0 (u := .bool true) rfl (fun w => (run_lss rfl rfl rfl w).trans (by rw [decide_eq_true hc])) ?_
          simp only [Act.put, List.setIfInBounds_toArray, List.set_cons_succ, List.set_cons_zero]
          refine fr0 (u := .bool true) rfl (fun _ => rfl) ?_
          simp only [Act.put, List.setIfInBounds_toArray, List.set_cons_succ, List.set_cons_zero]
          refine frx (by kernel_rfl) ?_
          simp only [Act.put, List.setIfInBounds_toArray, List.set_cons_succ, List.set_cons_zero]
          refine frx (by kernel_rfl) ?_
          simp only [Act.put, List.setIfInBounds_toArray, List.set_cons_succ, List.set_cons_zero]
          refine frx (by kernel_rfl) ?_
          simp only [Act.put, List.setIfInBounds_toArray, List.set_cons_succ, List.set_cons_zero]
          refine frx (by kernel_rfl) ?_
          simp only [Act.put, List.setIfInBounds_toArray, List.set_cons_succ, List.set_cons_zero]
          refine frx (by kernel_rfl) ?_
          simp only [Act.put, List.setIfInBounds_toArray, List.set_cons_succ, List.set_cons_zero]
          refine frx (by kernel_rfl) ?_
          simp only [Act.put, List.setIfInBounds_toArray, List.set_cons_succ, List.set_cons_zero]
          refine frx (by kernel_rfl) ?_
          simp only [Act.put, List.setIfInBounds_toArray, List.set_cons_succ, List.set_cons_zero]
          refine frx (by kernel_rfl) ?_
          simp only [Act.put, List.setIfInBounds_toArray, List.set_cons_succ, List.set_cons_zero]
          refine fr0 (u := .bool true) rfl (fun _ => rfl) ?_
          simp only [Act.put, List.setIfInBounds_toArray, List.set_cons_succ, List.set_cons_zero]
          refine fr0 (u := .bool true) rfl (fun _ => rfl) ?_
          simp only [Act.put, List.setIfInBounds_toArray, List.set_cons_succ, List.set_cons_zero]
          refine frx (by kernel_rfl) ?_
          simp only [Act.put, List.setIfInBounds_toArray, List.set_cons_succ, List.set_cons_zero]
          refine frx (by kernel_rfl) ?_
          simp only [Act.put, List.setIfInBounds_toArray, List.set_cons_succ, List.set_cons_zero]
          refine frx (by kernel_rfl) ?_
          simp only [Act.put, List.setIfInBounds_toArray, List.set_cons_succ, List.set_cons_zero]
          refine frx (by kernel_rfl) ?_
          simp only [Act.put, List.setIfInBounds_toArray, List.set_cons_succ, List.set_cons_zero]
          refine fr0 (u := .bool true) rfl (fun _ => rfl) ?_
          simp only [Act.put, List.setIfInBounds_toArray, List.set_cons_succ, List.set_cons_zero]
          refine fr0 (u := .bool true) rfl (fun _ => rfl) ?_
          simp only [Act.put, List.setIfInBounds_toArray, List.set_cons_succ, List.set_cons_zero]
          refine frx (by kernel_rfl) ?_
          simp only [Act.put, List.setIfInBounds_toArray, List.set_cons_succ, List.set_cons_zero]
          refine frx (by kernel_rfl) ?_
          simp only [Act.put, List.setIfInBounds_toArray, List.set_cons_succ, List.set_cons_zero]
          refine frx (by kernel_rfl) ?_
          simp only [Act.put, List.setIfInBounds_toArray, List.set_cons_succ, List.set_cons_zero]
          refine frx (by kernel_rfl) ?_
          simp only [Act.put, List.setIfInBounds_toArray, List.set_cons_succ, List.set_cons_zero]
          refine fr0 (u := .bool true) rfl (fun _ => rfl) ?_
          simp only [Act.put, List.setIfInBounds_toArray, List.set_cons_succ, List.set_cons_zero]
          refine frnil ?_
          show Exit.then _ _ _ _ _
          go_wp2
          go_ret
          exact ValidPost.no (not_group hrm (WHY.out)) (oa)
        by_cases hc2 : S.n ≤ r.1
        · have WHY : Hid (¬ PutOk a s S.n r) := (fun h : PutOk a s S.n r => absurd h.2.1 (by omega))
          refine wp_region_flowR Lat [0, 1, 0, 0, 0, 1, 0, 0, 0, 1, 1, 0, 0, 0, 0, 0, 1, 2, 0, 0, 0, 1, 0, 0, 0] (by kernel_rfl) (by kernel_rfl) Lat.refl Lat.trans ?_
          refine fr0 rfl (run_field54 (by omega) rfl rfl) ?_
          simp only [Act.put, List.setIfInBounds_toArray, List.set_cons_succ, List.set_cons_zero]
          refine fr1 (u := .int .i64 r.1) rfl (fun x hx => run_load1 rfl rfl (hx.cell e0) isAgg3) ?_
          simp only [Act.put, List.setIfInBounds_toArray, List.set_cons_succ, List.set_cons_zero]
          refine fr0 (u := .bool false) rfl (fun w => (run_lss rfl rfl rfl w).trans (by rw [decide_eq_false (show ¬ r.1 < 0 by omega)])) ?_
          simp only [Act.put, List.setIfInBounds_toArray, List.set_cons_succ, List.set_cons_zero]
          refine fr0 (u := .bool false) rfl (fun _ => rfl) ?_
          simp only [Act.put, List.setIfInBounds_toArray, List.set_cons_succ, List.set_cons_zero]
          refine fr0 (by kernel_rfl) (run_field54 (by omega) rfl rfl) ?_
          simp only [Act.put, List.setIfInBounds_toArray, List.set_cons_succ, List.set_cons_zero]
          refine fr1 (u := .int .i64 r.1) (by kernel_rfl) (fun x hx => run_load1 rfl rfl (hx.cell e0) isAgg3) ?_
          simp only [Act.put, List.setIfInBounds_toArray, List.set_cons_succ, List.set_cons_zero]
          refine fr0 (by kernel_rfl) (fun _ => rfl) ?_
          simp only [Act.put, List.setIfInBounds_toArray, List.set_cons_succ, List.set_cons_zero]
          refine fr0 (by kernel_rfl) (fun _ => rfl) ?_
          simp only [Act.put, List.setIfInBounds_toArray, List.set_cons_succ, List.set_cons_zero]
          refine fr0 (by kernel_rfl) (run_field75 (by omega) rfl rfl) ?_
          simp only [Act.put, List.setIfInBounds_toArray, List.set_cons_succ, List.set_cons_zero]
          refine fr1 (u := .pointer (some ⟨b, 0, none⟩)) (by kernel_rfl) (fun x hx => run_load1 rfl rfl (hx.cell f0) isAgg25) ?_
          simp only [Act.put, List.setIfInBounds_toArray, List.set_cons_succ, List.set_cons_zero]
          refine fr1c (u := .int .i64 S.n) (by kernel_rfl) (fun x hx => does_len (hd2.lat hx) rfl rfl) ?_
          simp only [Act.put, List.setIfInBounds_toArray, List.set_cons_succ, List.set_cons_zero]
          refine fr0 (u := .bool true) (by kernel_rfl) (fun w => (run_geq rfl rfl rfl w).trans (by rw [decide_eq_true hc2])) ?_
          simp only [Act.put, List.setIfInBounds_toArray, List.set_cons_succ, List.set_cons_zero]
          refine fr0 (u := .bool true) rfl (fun _ => rfl) ?_
          simp only [Act.put, List.setIfInBounds_toArray, List.set_cons_succ, List.set_cons_zero]
          refine fr0 (u := .bool true) rfl (fun _ => rfl) ?_
          simp only [Act.put, List.setIfInBounds_toArray, List.set_cons_succ, List.set_cons_zero]
          refine frx (by kernel_rfl) ?_
          simp only [Act.put, List.setIfInBounds_toArray, List.set_cons_succ, List.set_cons_zero]
          refine frx (by kernel_rfl) ?_
          simp only [Act.put, List.setIfInBounds_toArray, List.set_cons_succ, List.set_cons_zero]
          refine frx (by kernel_rfl) ?_
          simp only [Act.put, List.setIfInBounds_toArray, List.set_cons_succ, List.set_cons_zero]
          refine frx (by kernel_rfl) ?_
          simp only [Act.put, List.setIfInBounds_toArray, List.set_cons_succ, List.set_cons_zero]
          refine fr0 (u := .bool true) rfl (fun _ => rfl) ?_
          simp only [Act.put, List.setIfInBounds_toArray, List.set_cons_succ, List.set_cons_zero]
          refine fr0 (u := .bool true) rfl (fun _ => rfl) ?_
          simp only [Act.put, List.setIfInBounds_toArray, List.set_cons_succ, List.set_cons_zero]
          refine frx (by kernel_rfl) ?_
          simp only [Act.put, List.setIfInBounds_toArray, List.set_cons_succ, List.set_cons_zero]
          refine frx (by kernel_rfl) ?_
          simp only [Act.put, List.setIfInBounds_toArray, List.set_cons_succ, List.set_cons_zero]
          refine frx (by kernel_rfl) ?_
          simp only [Act.put, List.setIfInBounds_toArray, List.set_cons_succ, List.set_cons_zero]
          refine frx (by kernel_rfl) ?_
          simp only [Act.put, List.setIfInBounds_toArray, List.set_cons_succ, List.set_cons_zero]
          refine fr0 (u := .bool true) rfl (fun _ => rfl) ?_
          simp only [Act.put, List.setIfInBounds_toArray, List.set_cons_succ, List.set_cons_zero]
          refine frnil ?_
          show Exit.then _ _ _ _ _
          go_wp2
          go_ret
          exact ValidPost.no (not_group hrm (WHY.out)) (oa)
        by_cases hc3 : a ≤ r.1 ∧ r.1 - a < s
        · have WHY : Hid (¬ PutOk a s S.n r) := (fun h : PutOk a s S.n r => h.2.2.1 hc3)
          refine wp_region_flowR Lat [0, 1, 0, 0, 0, 1, 0, 0, 0, 1, 1, 0, 0, 0, 0, 0, 1, 2, 0, 0, 0, 1, 0, 0, 0] (by kernel_rfl) (by kernel_rfl) Lat.refl Lat.trans ?_
          refine fr0 rfl (run_field54 (by omega) rfl rfl) ?_
          simp only [Act.put, List.setIfInBounds_toArray, List.set_cons_succ, List.set_cons_zero]
          refine fr1 (u := .int .i64 r.1) rfl (fun x hx => run_load1 rfl rfl (hx.cell e0) isAgg3) ?_
          simp only [Act.put, List.setIfInBounds_toArray, List.set_cons_succ, List.set_cons_zero]
          refine fr0 (u := .bool false) rfl (fun w => (run_lss rfl rfl rfl w).trans (by rw [decide_eq_false (show ¬ r.1 < 0 by omega)])) ?_
          simp only [Act.put, List.setIfInBounds_toArray, List.set_cons_succ, List.set_cons_zero]
          refine fr0 (u := .bool false) rfl (fun _ => rfl) ?_
          simp only [Act.put, List.setIfInBounds_toArray, List.set_cons_succ, List.set_cons_zero]
          refine fr0 (by kernel_rfl) (run_field54 (by omega) rfl rfl) ?_
          simp only [Act.put, List.setIfInBounds_toArray, List.set_cons_succ, List.set_cons_zero]
          refine fr1 (u := .int .i64 r.1) (by kernel_rfl) (fun x hx => run_load1 rfl rfl (hx.cell e0) isAgg3) ?_
          simp only [Act.put, List.setIfInBounds_toArray, List.set_cons_succ, List.set_cons_zero]
          refine fr0 (by kernel_rfl) (fun _ => rfl) ?_
          simp only [Act.put, List.setIfInBounds_toArray, List.set_cons_succ, List.set_cons_zero]
          refine fr0 (by kernel_rfl) (fun _ => rfl) ?_
          simp only [Act.put, List.setIfInBounds_toArray, List.set_cons_succ, List.set_cons_zero]
          refine fr0 (by kernel_rfl) (run_field75 (by omega) rfl rfl) ?_
          simp only [Act.put, List.setIfInBounds_toArray, List.set_cons_succ, List.set_cons_zero]
          refine fr1 (u := .pointer (some ⟨b, 0, none⟩)) (by kernel_rfl) (fun x hx => run_load1 rfl rfl (hx.cell f0) isAgg25) ?_
          simp only [Act.put, List.setIfInBounds_toArray, List.set_cons_succ, List.set_cons_zero]
          refine fr1c (u := .int .i64 S.n) (by kernel_rfl) (fun x hx => does_len (hd2.lat hx) rfl rfl) ?_
          simp only [Act.put, List.setIfInBounds_toArray, List.set_cons_succ, List.set_cons_zero]
          refine fr0 (u := .bool false) (by kernel_rfl) (fun w => (run_geq rfl rfl rfl w).trans (by rw [decide_eq_false (show ¬ S.n ≤ r.1 by omega)])) ?_
          simp only [Act.put, List.setIfInBounds_toArray, List.set_cons_succ, List.set_cons_zero]
          refine fr0 (u := .bool false) rfl (fun _ => rfl) ?_
          simp only [Act.put, List.setIfInBounds_toArray, List.set_cons_succ, List.set_cons_zero]
          refine fr0 (u := .bool false) rfl (fun _ => rfl) ?_
          simp only [Act.put, List.setIfInBounds_toArray, List.set_cons_succ, List.set_cons_zero]
          refine fr0 (by kernel_rfl) (fun _ => rfl) ?_
          simp only [Act.put, List.setIfInBounds_toArray, List.set_cons_succ, List.set_cons_zero]
          refine fr0 (by kernel_rfl) (run_field54 (by omega) rfl rfl) ?_
          simp only [Act.put, List.setIfInBounds_toArray, List.set_cons_succ, List.set_cons_zero]
          refine fr1 (u := .int .i64 r.1) (by kernel_rfl) (fun x hx => run_load1 rfl rfl (hx.cell e0) isAgg3) ?_
          simp only [Act.put, List.setIfInBounds_toArray, List.set_cons_succ, List.set_cons_zero]
          refine fr2c (by kernel_rfl) (run_enter2 Try.call82 rfl rfl rfl) (owns_any hw2 r.1 ha (by omega) hr1) ?_
          rintro e w3 ⟨rfl, o3⟩
          rw [decide_eq_true hc3]
          refine ⟨_, rfl, o3.lat, ?_⟩
          simp only [Act.put, List.setIfInBounds_toArray, List.set_cons_succ, List.set_cons_zero]
          refine fr0 (u := .bool true) rfl (fun _ => rfl) ?_
          simp only [Act.put, List.setIfInBounds_toArray, List.set_cons_succ, List.set_cons_zero]
          refine fr0 (u := .bool true) rfl (fun _ => rfl) ?_
          simp only [Act.put, List.setIfInBounds_toArray, List.set_cons_succ, List.set_cons_zero]
          refine frx (by kernel_rfl) ?_
          simp only [Act.put, List.setIfInBounds_toArray, List.set_cons_succ, List.set_cons_zero]
          refine frx (by kernel_rfl) ?_
          simp only [Act.put, List.setIfInBounds_toArray, List.set_cons_succ, List.set_cons_zero]
          refine frx (by kernel_rfl) ?_
          simp only [Act.put, List.setIfInBounds_toArray, List.set_cons_succ, List.set_cons_zero]
          refine frx (by kernel_rfl) ?_
          simp only [Act.put, List.setIfInBounds_toArray, List.set_cons_succ, List.set_cons_zero]
          refine fr0 (u := .bool true) rfl (fun _ => rfl) ?_
          simp only [Act.put, List.setIfInBounds_toArray, List.set_cons_succ, List.set_cons_zero]
          refine frnil ?_
          show Exit.then _ _ _ _ _
          go_wp2
          go_ret
          exact ValidPost.no (not_group hrm (WHY.out)) (oa.trans o3 (by simp))
        cases hc4 : ((r.2 : Int) != 64) with
        | true =>
          have WHY : Hid (¬ PutOk a s S.n r) := (fun h : PutOk a s S.n r => by have := h.2.2.2; simp at hc4; omega)
          refine wp_region_flowR Lat [0, 1, 0, 0, 0, 1, 0, 0, 0, 1, 1, 0, 0, 0, 0, 0, 1, 2, 0, 0, 0, 1, 0, 0, 0] (by kernel_rfl) (by kernel_rfl) Lat.refl Lat.trans ?_
          refine fr0 rfl (run_field54 (by omega) rfl rfl) ?_
          simp only [Act.put, List.setIfInBounds_toArray, List.set_cons_succ, List.set_cons_zero]
          refine fr1 (u := .int .i64 r.1) rfl (fun x hx => run_load1 rfl rfl (hx.cell e0) isAgg3) ?_
          simp only [Act.put, List.setIfInBounds_toArray, List.set_cons_succ, List.set_cons_zero]
          refine fr0 (u := .bool false) rfl (fun w => (run_lss rfl rfl rfl w).trans (by rw [decide_eq_false (show ¬ r.1 < 0 by omega)])) ?_
          simp only [Act.put, List.setIfInBounds_toArray, List.set_cons_succ, List.set_cons_zero]
          refine fr0 (u := .bool false) rfl (fun _ => rfl) ?_
          simp only [Act.put, List.setIfInBounds_toArray, List.set_cons_succ, List.set_cons_zero]
          refine fr0 (by kernel_rfl) (run_field54 (by omega) rfl rfl) ?_
          simp only [Act.put, List.setIfInBounds_toArray, List.set_cons_succ, List.set_cons_zero]
          refine fr1 (u := .int .i64 r.1) (by kernel_rfl) (fun x hx => run_load1 rfl rfl (hx.cell e0) isAgg3) ?_
          simp only [Act.put, List.setIfInBounds_toArray, List.set_cons_succ, List.set_cons_zero]
          refine fr0 (by kernel_rfl) (fun _ => rfl) ?_
          simp only [Act.put, List.setIfInBounds_toArray, List.set_cons_succ, List.set_cons_zero]
          refine fr0 (by kernel_rfl) (fun _ => rfl) ?_
          simp only [Act.put, List.setIfInBounds_toArray, List.set_cons_succ, List.set_cons_zero]
          refine fr0 (by kernel_rfl) (run_field75 (by omega) rfl rfl) ?_
          simp only [Act.put, List.setIfInBounds_toArray, List.set_cons_succ, List.set_cons_zero]
          refine fr1 (u := .pointer (some ⟨b, 0, none⟩)) (by kernel_rfl) (fun x hx => run_load1 rfl rfl (hx.cell f0) isAgg25) ?_
          simp only [Act.put, List.setIfInBounds_toArray, List.set_cons_succ, List.set_cons_zero]
          refine fr1c (u := .int .i64 S.n) (by kernel_rfl) (fun x hx => does_len (hd2.lat hx) rfl rfl) ?_
          simp only [Act.put, List.setIfInBounds_toArray, List.set_cons_succ, List.set_cons_zero]
          refine fr0 (u := .bool false) (by kernel_rfl) (fun w => (run_geq rfl rfl rfl w).trans (by rw [decide_eq_false (show ¬ S.n ≤ r.1 by omega)])) ?_
          simp only [Act.put, List.setIfInBounds_toArray, List.set_cons_succ, List.set_cons_zero]
          refine fr0 (u := .bool false) rfl (fun _ => rfl) ?_
          simp only [Act.put, List.setIfInBounds_toArray, List.set_cons_succ, List.set_cons_zero]
          refine fr0 (u := .bool false) rfl (fun _ => rfl) ?_
          simp only [Act.put, List.setIfInBounds_toArray, List.set_cons_succ, List.set_cons_zero]
          refine fr0 (by kernel_rfl) (fun _ => rfl) ?_
          simp only [Act.put, List.setIfInBounds_toArray, List.set_cons_succ, List.set_cons_zero]
          refine fr0 (by kernel_rfl) (run_field54 (by omega) rfl rfl) ?_
          simp only [Act.put, List.setIfInBounds_toArray, List.set_cons_succ, List.set_cons_zero]
          refine fr1 (u := .int .i64 r.1) (by kernel_rfl) (fun x hx => run_load1 rfl rfl (hx.cell e0) isAgg3) ?_
          simp only [Act.put, List.setIfInBounds_toArray, List.set_cons_succ, List.set_cons_zero]
          refine fr2c (by kernel_rfl) (run_enter2 Try.call82 rfl rfl rfl) (owns_any hw2 r.1 ha (by omega) hr1) ?_
          rintro e w3 ⟨rfl, o3⟩
          rw [decide_eq_false hc3]
          have e1b := o3.lat.cell e1
          have e0b := o3.lat.cell e0
          refine ⟨_, rfl, o3.lat, ?_⟩
          simp only [Act.put, List.setIfInBounds_toArray, List.set_cons_succ, List.set_cons_zero]
          refine fr0 (u := .bool false) rfl (fun _ => rfl) ?_
          simp only [Act.put, List.setIfInBounds_toArray, List.set_cons_succ, List.set_cons_zero]
          refine fr0 (u := .bool false) rfl (fun _ => rfl) ?_
          simp only [Act.put, List.setIfInBounds_toArray, List.set_cons_succ, List.set_cons_zero]
          refine fr0 (by kernel_rfl) (run_field54 (by omega) rfl rfl) ?_
          simp only [Act.put, List.setIfInBounds_toArray, List.set_cons_succ, List.set_cons_zero]
          refine fr1 (u := .slice ad1 r.2 cap1) (by kernel_rfl) (fun x hx => run_load1 rfl rfl (hx.cell e1b) isAgg51) ?_
          simp only [Act.put, List.setIfInBounds_toArray, List.set_cons_succ, List.set_cons_zero]
          refine fr0 (u := .int .i64 (r.2 : Int)) (by kernel_rfl) (run_len51 rfl rfl) ?_
          simp only [Act.put, List.setIfInBounds_toArray, List.set_cons_succ, List.set_cons_zero]
          refine fr0 (u := .bool true) (by kernel_rfl) (fun w => (run_neq rfl rfl rfl w).trans (by rw [hc4])) ?_
          simp only [Act.put, List.setIfInBounds_toArray, List.set_cons_succ, List.set_cons_zero]
          refine fr0 (u := .bool true) rfl (fun _ => rfl) ?_
          simp only [Act.put, List.setIfInBounds_toArray, List.set_cons_succ, List.set_cons_zero]
          refine frnil ?_
          show Exit.then _ _ _ _ _
          go_wp2
          go_ret
          exact ValidPost.no (not_group hrm (WHY.out)) (oa.trans o3 (by simp))
        | false =>
          have GOOD : Hid (PutOk a s S.n r) := (⟨by omega, by omega, hc3, by simp at hc4; omega⟩ : PutOk a s S.n r)
          refine wp_region_flowR Lat [0, 1, 0, 0, 0, 1, 0, 0, 0, 1, 1, 0, 0, 0, 0, 0, 1, 2, 0, 0, 0, 1, 0, 0, 0] (by kernel_rfl) (by kernel_rfl) Lat.refl Lat.trans ?_
          refine fr0 rfl (run_field54 (by omega) rfl rfl) ?_
          simp only [Act.put, List.setIfInBounds_toArray, List.set_cons_succ, List.set_cons_zero]
          refine fr1 (u := .int .i64 r.1) rfl (fun x hx => run_load1 rfl rfl (hx.cell e0) isAgg3) ?_
          simp only [Act.put, List.setIfInBounds_toArray, List.set_cons_succ, List.set_cons_zero]
          refine fr0 (u := .bool false) rfl (fun w => (run_lss rfl rfl rfl w).trans (by rw [decide_eq_false (show ¬ r.1 < 0 by omega)])) ?_
          simp only [Act.put, List.setIfInBounds_toArray, List.set_cons_succ, List.set_cons_zero]
          refine fr0 (u := .bool false) rfl (fun _ => rfl) ?_
          simp only [Act.put, List.setIfInBounds_toArray, List.set_cons_succ, List.set_cons_zero]
          refine fr0 (by kernel_rfl) (run_field54 (by omega) rfl rfl) ?_
          simp only [Act.put, List.setIfInBounds_toArray, List.set_cons_succ, List.set_cons_zero]
          refine fr1 (u := .int .i64 r.1) (by kernel_rfl) (fun x hx => run_load1 rfl rfl (hx.cell e0) isAgg3) ?_
          simp only [Act.put, List.setIfInBounds_toArray, List.set_cons_succ, List.set_cons_zero]
          refine fr0 (by kernel_rfl) (fun _ => rfl) ?_
          simp only [Act.put, List.setIfInBounds_toArray, List.set_cons_succ, List.set_cons_zero]
          refine fr0 (by kernel_rfl) (fun _ => rfl) ?_
          simp only [Act.put, List.setIfInBounds_toArray, List.set_cons_succ, List.set_cons_zero]
          refine fr0 (by kernel_rfl) (run_field75 (by omega) rfl rfl) ?_
          simp only [Act.put, List.setIfInBounds_toArray, List.set_cons_succ, List.set_cons_zero]
          refine fr1 (u := .pointer (some ⟨b, 0, none⟩)) (by kernel_rfl) (fun x hx => run_load1 rfl rfl (hx.cell f0) isAgg25) ?_
          simp only [Act.put, List.setIfInBounds_toArray, List.set_cons_succ, List.set_cons_zero]
          refine fr1c (u := .int .i64 S.n) (by kernel_rfl) (fun x hx => does_len (hd2.lat hx) rfl rfl) ?_
          simp only [Act.put, List.setIfInBounds_toArray, List.set_cons_succ, List.set_cons_zero]
          refine fr0 (u := .bool false) (by kernel_rfl) (fun w => (run_geq rfl rfl rfl w).trans (by rw [decide_eq_false (show ¬ S.n ≤ r.1 by omega)])) ?_
          simp only [Act.put, List.setIfInBounds_toArray, List.set_cons_succ, List.set_cons_zero]
          refine fr0 (u := .bool false) rfl (fun _ => rfl) ?_
          simp only [Act.put, List.setIfInBounds_toArray, List.set_cons_succ, List.set_cons_zero]
          refine fr0 (u := .bool false) rfl (fun _ => rfl) ?_
          simp only [Act.put, List.setIfInBounds_toArray, List.set_cons_succ, List.set_cons_zero]
          refine fr0 (by kernel_rfl) (fun _ => rfl) ?_
          simp only [Act.put, List.setIfInBounds_toArray, List.set_cons_succ, List.set_cons_zero]
          refine fr0 (by kernel_rfl) (run_field54 (by omega) rfl rfl) ?_
          simp only [Act.put, List.setIfInBounds_toArray, List.set_cons_succ, List.set_cons_zero]
          refine fr1 (u := .int .i64 r.1) (by kernel_rfl) (fun x hx => run_load1 rfl rfl (hx.cell e0) isAgg3) ?_
          simp only [Act.put, List.setIfInBounds_toArray, List.set_cons_succ, List.set_cons_zero]
          refine fr2c (by kernel_rfl) (run_enter2 Try.call82 rfl rfl rfl) (owns_any hw2 r.1 ha (by omega) hr1) ?_
          rintro e w3 ⟨rfl, o3⟩
          rw [decide_eq_false hc3]
          have e1b := o3.lat.cell e1
          have e0b := o3.lat.cell e0
          refine ⟨_, rfl, o3.lat, ?_⟩
          simp only [Act.put, List.setIfInBounds_toArray, List.set_cons_succ, List.set_cons_zero]
          refine fr0 (u := .bool false) rfl (fun _ => rfl) ?_
          simp only [Act.put, List.setIfInBounds_toArray, List.set_cons_succ, List.set_cons_zero]
          refine fr0 (u := .bool false) rfl (fun _ => rfl) ?_
          simp only [Act.put, List.setIfInBounds_toArray, List.set_cons_succ, List.set_cons_zero]
          refine fr0 (by kernel_rfl) (run_field54 (by omega) rfl rfl) ?_
          simp only [Act.put, List.setIfInBounds_toArray, List.set_cons_succ, List.set_cons_zero]
          refine fr1 (u := .slice ad1 r.2 cap1) (by kernel_rfl) (fun x hx => run_load1 rfl rfl (hx.cell e1b) isAgg51) ?_
          simp only [Act.put, List.setIfInBounds_toArray, List.set_cons_succ, List.set_cons_zero]
          refine fr0 (u := .int .i64 (r.2 : Int)) (by kernel_rfl) (run_len51 rfl rfl) ?_
          simp only [Act.put, List.setIfInBounds_toArray, List.set_cons_succ, List.set_cons_zero]
          refine fr0 (u := .bool false) (by kernel_rfl) (fun w => (run_neq rfl rfl rfl w).trans (by rw [hc4])) ?_
          simp only [Act.put, List.setIfInBounds_toArray, List.set_cons_succ, List.set_cons_zero]
          refine fr0 (u := .bool false) rfl (fun _ => rfl) ?_
          simp only [Act.put, List.setIfInBounds_toArray, List.set_cons_succ, List.set_cons_zero]
          refine frnil ?_
          have hm3 : MapAt w3 w.heap.size (setF ((rs.take k).map (·.1))) := mapAt_congr hmm2 (o3.block _ (mapAt_lt hmm2) (by simp))
          show Exit.then _ _ _ _ _
          go_wp2_with (refine wpL_update92 rfl rfl rfl rfl rfl hm3 ?_; intro ob hm4)
          go_roundw
          case rel =>
            obtain ⟨hm, hgood, ho, hr⟩ := KEEP.out
            have ht : rs.take (k + 1) = rs.take k ++ [r] := by rw [List.take_add_one, hr]; rfl
            refine ⟨k + 1, by omega, by go_num, ?_, ?_, (oa.trans o3 (by simp)).setBlock (by simp) _⟩
            · rw [ht, List.map_append, List.map_cons, List.map_nil, ← setF_add]
              exact hm4
            · rw [ht]
              intro x hx
              rcases List.mem_append.1 hx with hx | hx
              · exact hgood x hx
              · simp at hx; rw [hx]; exact GOOD.out
          case measure => simp [intOf]; omega
      · have hkl : k = rs.length := by omega
        subst hkl
        rw [List.take_length] at hm hgood
        obtain ⟨n, hn1, hn2⟩ := set_len hm 3
        have KEEP := Lib.hid (And.intro hgood (And.intro ho hn2))
        clear hm hgood ho hn2
        go_wp2
        go_ret
        obtain ⟨hgood, ho, hn2⟩ := KEEP.out
        refine ValidPost.mk ?_ ho
        rw [List.length_map] at hn2
        constructor
        · intro h
          refine ⟨hlen', hgood, hn2.1 ?_⟩
          have := of_decide_eq_true h
          omega
        · intro h
          have := hn2.2 h.2.2
          subst this
          simp

end Go.Proofs.Ytoccnaebckcfmaa
end

section
set_option linter.unusedSimpArgs false
set_option linter.unusedVariables false
set_option maxRecDepth 8000
namespace Go.Proofs.Ytoccnaebckcfmaa
open Go.RowKit

def packed (ns : Nat → Int) : Nat → Array Value
  | 0 => Z
  | k + 1 => stored (packed ns k) (k * 2) (ns k) 2
theorem packed_size (ns : Nat → Int) (k : Nat) : (packed ns k).size = 64 := by
  induction k with
  | zero => simp [packed, Z]
  | succ k ih => rw [packed, stored_size, ih]
theorem packed_ge (ns : Nat → Int) (k j : Nat) (h : k * 2 ≤ j) (hj : j < 64) : (packed ns k)[j]? = some (.int .u8 0) := by
  induction k with
  | zero => simp [packed, Z, hj]
  | succ k ih => rw [packed, stored_ge _ _ _ _ _ (by omega)]; exact ih (by omega)
theorem packed_at (ns : Nat → Int) (k i j : Nat) (hi : i < k) (hk : k ≤ 32) (hj : j < 2) : (packed ns k)[i * 2 + j]? = some (.int .u8 (le (ns i) j)) := by
  induction k with
  | zero => omega
  | succ k ih =>
    rw [packed]
    by_cases h : i = k
    · subst h
      rw [stored_at _ _ _ _ _ (by omega) (by omega) (by rw [packed_size]; omega), show i * 2 + j - i * 2 = j by omega]
    · rw [stored_ge _ _ _ _ _ (by omega)]
      exact ih (by omega) (by omega)
theorem packed_byte (ns : Nat → Int) (k j : Nat) (hk : k ≤ 32) (hj : j < 64) : ∃ z, (packed ns k)[j]? = some (.int .u8 z) := by
  by_cases h : k * 2 ≤ j
  · exact ⟨0, packed_ge ns k j h hj⟩
  · have := packed_at ns k (j / 2) (j % 2) (by omega) hk (by omega)
    rw [show j / 2 * 2 + j % 2 = j by omega] at this
    exact ⟨_, this⟩
theorem packed_ok (ns : Nat → Int) (k : Nat) (hk : k ≤ 32) : SecOk (packed ns k) := by
  have := fun j (hj : j < 64) => packed_byte ns k j hk hj
  refine secOk_bytes (packed_size ns k) (fun j => if hj : j < 64 then Classical.choose (this j hj) else 0) (fun j hj => ?_)
  simp only [hj, dif_pos]
  exact Classical.choose_spec (this j hj)
theorem packed_congr {ns ms : Nat → Int} {k : Nat} (h : ∀ i, i < k → ns i = ms i) : packed ns k = packed ms k := by
  induction k with
  | zero => rfl
  | succ k ih => rw [packed, packed, ih (fun i hi => h i (by omega)), h k (by omega)]

set_option maxHeartbeats 1000000 in
theorem pack_any (w : World) (g o L cap : Nat) (ns : Nat → Int) (hL : L ≤ 32) (hc : ∀ j, j < L → w.cell? ⟨g, o + j, none⟩ = some (.int .i64 (ns j))) (hgw : L ≠ 0 → g < w.heap.size) (h0 : ∀ j, j < L → 0 ≤ ns j ∧ ns j ≤ 9223372036854775807) :
    Calls Try.prog 86 #[.slice (some ⟨g, o, none⟩) L cap] w fun e w' => e = .returned (.slice (some ⟨w.heap.size, 0, none⟩) 64 64) ∧ w'.heap[w.heap.size]? = some (.cells (packed ns L) 5 (0, 0)) ∧ Only [] w w' := by
  have hmk := make64
  have HC := Lib.hid hc
  have H0 := Lib.hid h0
  clear hc h0
  go_enter Try.func86, Try.ntmps86
  go_wp2
  go_loopw [9] (fun i wr => ∃ k : Nat, k ≤ L ∧ i = .int .i64 k ∧ wr.heap[w.heap.size]? = some (.cells (packed ns k) 5 (0, 0)) ∧ Only [] w wr) (fun i _ => L - (intOf i).toNat)
  case atStart => exact ⟨0, by omega, rfl, heap_alloc_last w _, (Only.refl [] w).alloc _⟩
  case round =>
    obtain ⟨k, hk, rfl, hb, ho⟩ := hrel
    by_cases hlt : k < L
    · have hcell : wr.cell? ⟨g, o + k, none⟩ = some (.int .i64 (ns k)) := (World.cell?_of_block (ho.block g (hgw (by omega)) (by simp))).trans (HC.out k hlt)
      have hn := H0.out k hlt
      have ST := Lib.hid (store_any wr w.heap.size (k * 2) 2 (64 - k * 2) (packed ns k) 5 (ns k) hb (by omega) (by rw [packed_size]; omega) (fun j hj => ⟨0, packed_ge ns k _ (by omega) (by omega)⟩) hn.1 hn.2)
      have HO := Lib.hid ho
      clear hb ho
      go_wp2_with (go_at_call 80; rw [show (k + 1) * 2 - k * 2 = 2 by omega]; refine ST.out.mono ?_; rintro e w' ⟨rfl, hb', ho'⟩)
      go_roundw
      case rel => exact ⟨k + 1, by omega, by go_num, hb', HO.out.trans ho' (by simp)⟩
      case measure => simp [intOf]; omega
    · have : k = L := by omega
      subst this
      have HO := Lib.hid ho
      have HB := Lib.hid hb
      clear hb ho
      go_wp2
      go_ret
      exact ⟨rfl, HB.out, HO.out⟩

end Go.Proofs.Ytoccnaebckcfmaa
end

section
set_option linter.unusedSimpArgs false
set_option linter.unusedVariables false
set_option maxRecDepth 8000
namespace Go.Proofs.Ytoccnaebckcfmaa
open Go.RowKit

def putCells (q : Int × Value) : List Value := [.int .i64 q.1, q.2]
theorem putCells_len (qs : List (Int × Value)) : (qs.flatMap putCells).length = qs.length * 2 := by
  induction qs with
  | nil => rfl
  | cons q qs ih => rw [List.flatMap_cons, List.length_append, ih]; simp [putCells]; omega
theorem putCells_at : ∀ (qs : List (Int × Value)) (i : Nat) (q : Int × Value), qs[i]? = some q → (qs.flatMap putCells)[i * 2]? = some (.int .i64 q.1) ∧ (qs.flatMap putCells)[i * 2 + 1]? = some q.2
  | [], i, q, h => by simp at h
  | p :: qs, 0, q, h => by simp at h; subst h; simp [putCells]
  | p :: qs, i + 1, q, h => by
    have := putCells_at qs i q (by simpa using h)
    rw [List.flatMap_cons, List.getElem?_append_right (by simp [putCells]; omega), List.getElem?_append_right (by simp [putCells]; omega)]
    have hl : (putCells p).length = 2 := rfl
    rw [hl, show (i + 1) * 2 - 2 = i * 2 by omega, show (i + 1) * 2 + 1 - 2 = i * 2 + 1 by omega]
    exact this

/-- Bytes that stay where they are while a slice of puts is built. -/
def Src (w0 w : World) (F : List Nat) (av : Value) (v : Array Value) : Prop :=
  SecOk v ∧ ∃ g o cap, av = .slice (some ⟨g, o, none⟩) 64 cap ∧ g < w.heap.size ∧ g ∉ F ∧ w.rangeAt g o v.toList ∧ (g < w0.heap.size ∨ ∃ cs, w.heap[g]? = some (.cells cs 5 (0, 0)))
theorem Src.bytes {w0 w : World} {F : List Nat} {av : Value} {v : Array Value} (h : Src w0 w F av v) : Bytes64 w F av v := by
  obtain ⟨h1, g, o, cap, h2, h3, h4, h5, _⟩ := h
  exact ⟨h1, g, o, cap, h2, h3, h4, h5⟩
theorem Src.keep {w0 w w' : World} {F : List Nat} {av : Value} {v : Array Value} (h : Src w0 w F av v) (hs : w.heap.size ≤ w'.heap.size) (hk : ∀ x, x < w.heap.size → (x < w0.heap.size ∨ ∃ cs, w.heap[x]? = some (.cells cs 5 (0, 0))) → w'.heap[x]? = w.heap[x]?) : Src w0 w' F av v := by
  obtain ⟨h1, g, o, cap, h2, h3, h4, h5, h6⟩ := h
  have hg := hk g h3 h6
  refine ⟨h1, g, o, cap, h2, by omega, h4, fun j u hu => (World.cell?_of_block hg).trans (h5 j u hu), ?_⟩
  rcases h6 with h6 | ⟨cs, h6⟩
  · exact .inl h6
  · exact .inr ⟨cs, hg.trans h6⟩

/-- The slice v holds the puts ps; it is the law's own, and lies behind w0. -/
def Building (w0 w : World) (F : List Nat) (v : Value) (ps : List (Int × Array Value)) : Prop :=
  ∃ qs : List (Int × Value), qs.length = ps.length ∧ w.ownsRow w0.heap.size 112 2 v qs.length (qs.flatMap putCells) ∧ ∀ (i : Nat) (q : Int × Value) (p : Int × Array Value), qs[i]? = some q → ps[i]? = some p → q.1 = p.1 ∧ Src w0 w F q.2 p.2

theorem Building.nil (w0 w : World) (F : List Nat) : Building w0 w F (.slice none 0 0) [] := ⟨[], rfl, World.ownsRow_nil _ _ _ _, by simp⟩

theorem ownsRow_congr' {w w' : World} {e : TypeId} {base size n : Nat} {v : Value} {xs : List Value} (h : w.ownsRow base e size v n xs) (he : ∀ g, v.ownBlock = some g → w'.heap[g]? = w.heap[g]?) : w'.ownsRow base e size v n xs := by
  obtain ⟨h1, h2⟩ := h
  refine ⟨h1, ?_⟩
  rcases h2 with h2 | ⟨g, cap, cur, hv, hg, hh, r⟩
  · exact .inl h2
  · exact .inr ⟨g, cap, cur, hv, hg, (he g (by rw [hv]; rfl)).trans hh, r⟩
theorem ownsRow_own {w : World} {e : TypeId} {base size n g : Nat} {v : Value} {xs : List Value} (h : w.ownsRow base e size v n xs) (hg : v.ownBlock = some g) : base ≤ g ∧ g < w.heap.size ∧ ∃ cur, w.heap[g]? = some (.cells cur e (0, 0)) := by
  obtain ⟨h1, h2⟩ := h
  rcases h2 with ⟨h2, _⟩ | ⟨g', cap, cur, hv, hb, hh, _⟩
  · rw [h2] at hg; simp [Value.ownBlock] at hg
  · rw [hv] at hg
    simp [Value.ownBlock] at hg
    subst hg
    exact ⟨hb, (Array.getElem?_eq_some_iff.1 hh).1, cur, hh⟩

theorem Building.keep {w0 w w' : World} {F : List Nat} {v : Value} {ps : List (Int × Array Value)} (h : Building w0 w F v ps) (ho : Only [] w w') : Building w0 w' F v ps := by
  obtain ⟨qs, h1, h2, h3⟩ := h
  refine ⟨qs, h1, ownsRow_congr' h2 (fun g hg => ho.block g (ownsRow_own h2 hg).2.1 (by simp)), fun i q p hq hp => ⟨(h3 i q p hq hp).1, (h3 i q p hq hp).2.keep ho.size (fun x hx _ => ho.block x hx (by simp))⟩⟩

theorem Building.slice {w0 w : World} {F : List Nat} {v : Value} {ps : List (Int × Array Value)} (h : Building w0 w F v ps) : ∃ a cap, v = .slice a ps.length cap := by
  obtain ⟨qs, h1, h2, h3⟩ := h
  rcases h2.2 with ⟨e, hn⟩ | ⟨g, cap, cur, e, _⟩
  · exact ⟨none, 0, by rw [e, ← h1, hn]⟩
  · exact ⟨_, cap, by rw [e, h1]⟩

theorem info54a : (Try.prog.info? 112).map (fun i => (i.zero, i.size, i.bytes)) = some (some (.agg #[.int .i64 0, .slice none 0 0]), 2, 32) := by kernel_rfl

/-- One put more. -/
theorem Building.append {w0 w : World} {F : List Nat} {v : Value} {ps : List (Int × Array Value)} (h : Building w0 w F v ps) (ho : Only [] w0 w) {i : Int} {av : Value} {x : Array Value} (hx : Src w0 w F av x) (hn : ps.length ≤ 100000) (ty : TypeId) :
    ∃ v' w', (Builtin.append_ #[79, 79] ty #[v, .slice (some ⟨w.heap.size, 0, none⟩) 1 1]).run Try.prog (w.alloc (.cells #[.int .i64 i, av] 112)) = .ok v' w' ∧ Building w0 w' F v' (ps ++ [(i, x)]) ∧ Only [] w0 w' ∧
      (∀ y, y < w.heap.size → v.ownBlock ≠ some y → w'.heap[y]? = w.heap[y]?) ∧ w.heap.size ≤ w'.heap.size := by
  obtain ⟨qs, h1, h2, h3⟩ := h
  obtain ⟨i0, hi, hz0, hz1, hz2⟩ := info_parts info54a
  have hav : ∃ g o cap, av = .slice (some ⟨g, o, none⟩) 64 cap := by obtain ⟨_, g, o, cap, e, _⟩ := hx; exact ⟨g, o, cap, e⟩
  have hone : ∀ u ∈ putCells (i, av), u.oneCell' = true := by
    obtain ⟨g, o, cap, rfl⟩ := hav
    intro u hu
    simp [putCells] at hu
    rcases hu with rfl | rfl <;> rfl
  have hblk := heap_alloc_last w (.cells #[.int .i64 i, av] 112)
  have SRC2 : ∀ j u, (putCells (i, av))[j]? = some u → (w.alloc (.cells #[.int .i64 i, av] 112)).cell? ((⟨w.heap.size, 0, none⟩ : Addr).add j) = some u := fun j u hu => by
    rw [Addr.add_mid, Nat.zero_add, cell_of_row _ _ _ _ _ _ hblk]
    simpa [putCells] using hu
  obtain ⟨v', w', hrun, hown, hgrow, hnil, hloc⟩ := run_append_own_at (P := Try.prog) (w.alloc (.cells #[.int .i64 i, av] 112)) w0.heap.size 79 ty 112 i0 _ 2 32 Try.underlying79 hi hz0 hz1 hz2 (by simp [Value.cells]) (by omega)
    v _ _ (World.ownsRow.alloc (w := w) h2 _) ⟨w.heap.size, 0, none⟩ 1 1 (putCells (i, av)) rfl SRC2 hone (by unfold maxLen; omega) (by omega) (by simp; exact Nat.le_succ_of_le ho.size)
  have hkeep : ∀ y, y < w.heap.size → v.ownBlock ≠ some y → w'.heap[y]? = w.heap[y]? := fun y hy hne =>
    (hgrow.block y (by simp; omega) (fun e => hne e.symm)).trans (Below.heap_alloc _ _ _ hy)
  have hsz : w.heap.size ≤ w'.heap.size := by have := hgrow.size; simp at this; omega
  have hown0 : ∀ y, v.ownBlock = some y → w0.heap.size ≤ y := fun y hy => (ownsRow_own h2 hy).1
  have hsrc : ∀ {av : Value} {x : Array Value}, Src w0 w F av x → Src w0 w' F av x := fun hs => hs.keep hsz (fun y hy hc => hkeep y hy (fun e => by
    rcases hc with hc | ⟨cs, hc⟩
    · have := hown0 y e; omega
    · obtain ⟨_, _, cur, hcur⟩ := ownsRow_own h2 e
      rw [hcur] at hc
      simp at hc))
  refine ⟨v', w', hrun, ⟨qs ++ [(i, av)], by simp [h1], ?_, ?_⟩, ?_, hkeep, hsz⟩
  · rw [List.flatMap_append, List.length_append]
    simpa using hown
  · intro j q p hq hp
    by_cases hj : j < qs.length
    · rw [List.getElem?_append_left hj] at hq
      rw [List.getElem?_append_left (by omega)] at hp
      obtain ⟨e1, e2⟩ := h3 j q p hq hp
      exact ⟨e1, hsrc e2⟩
    · rw [List.getElem?_append_right (by omega)] at hq
      rw [List.getElem?_append_right (by omega)] at hp
      have hj0 : j - qs.length = 0 := by
        have := (List.getElem?_eq_some_iff.1 hq).1
        simp at this; omega
      rw [hj0] at hq
      rw [← h1, hj0] at hp
      simp at hq hp
      subst hq hp
      exact ⟨rfl, hsrc hx⟩
  · exact (ho.alloc _).grown hgrow (fun k hk => .inr (hown0 k hk))

theorem Building.puts {w0 w : World} {F : List Nat} {v : Value} {ps : List (Int × Array Value)} (h : Building w0 w F v ps) (hF : ∀ x ∈ F, x < w0.heap.size) (hn : ps.length ≤ 1000000) : PutsAt w F v ps := by
  obtain ⟨qs, h1, h2, h3⟩ := h
  rcases h2.2 with ⟨e, hn0⟩ | ⟨g, cap, cur, e, hg, hh, _, _, hcs, hcur⟩
  · refine ⟨none, 0, by rw [e, ← h1, hn0], hn, fun i p hp => ?_⟩
    have := (List.getElem?_eq_some_iff.1 hp).1
    omega
  · refine ⟨_, cap, by rw [e, h1], hn, fun i p hp => ?_⟩
    have hi := (List.getElem?_eq_some_iff.1 hp).1
    obtain ⟨q, hq⟩ : ∃ q, qs[i]? = some q := ⟨_, List.getElem?_eq_getElem (by omega)⟩
    obtain ⟨e1, e2⟩ := h3 i q p hq hp
    obtain ⟨c0, c1⟩ := putCells_at qs i q hq
    refine ⟨g, 0, q.2, rfl, (Array.getElem?_eq_some_iff.1 hh).1, fun hx => by have := hF g hx; omega, ?_, ?_, e2.bytes⟩
    · rw [cell_of_row _ _ _ _ _ _ hh, ← e1, ← c0, ← hcur, List.getElem?_take_of_lt (by omega)]
      simp
    · rw [cell_of_row _ _ _ _ _ _ hh, ← c1, ← hcur, List.getElem?_take_of_lt (by omega)]
      simp

end Go.Proofs.Ytoccnaebckcfmaa
end

section
set_option linter.unusedSimpArgs false
set_option linter.unusedVariables false
set_option maxRecDepth 8000
namespace Go.Proofs.Ytoccnaebckcfmaa
open Go.RowKit

section
variable {o : Oper} {a : Act} {w : World}
theorem run_slice3 {x y z u : Operand} {g len cap L H : Nat} {l h m : Int} (hl : l = (L : Int)) (hh : h = (H : Int)) (hm : m = (H : Int)) (h1 : L < H) (h2 : H ≤ cap) (ho : o.op = .slice 40 x (some y) (some z) (some u)) (hx : a.eval x = .slice (some ⟨g, 0, none⟩) len cap) (hy : a.eval y = .int .i64 l) (hz : a.eval z = .int .i64 h) (hu : a.eval u = .int .i64 m) :
    ∀ w, (execOp a.eval o).run Try.prog w = .ok (.value (.slice (some ⟨g, L, none⟩) (H - L) (H - L))) w := by
  intro w
  subst hl hh hm
  unfold execOp
  simp only [ho, hx, hy, hz, hu, Option.map_some]
  have hs : (sizeOf 3).run Try.prog w = .ok 1 w := by kernel_rfl
  have h3 : (H : Int) ≤ (cap : Int) := by omega
  have h4 : (L : Int) ≤ (H : Int) := by omega
  go_simp
  intro h; omega
end

def secOf (ps : List (Int × Array Value)) (j : Nat) : Int := (ps.getD j (0, #[])).1
def bytOf (ps : List (Int × Array Value)) (j : Nat) : Array Value := (ps.getD j (0, #[])).2
/-- The sector of numbers i of a group, and the sector of bytes i. -/
def numPut (a : Int) (ps : List (Int × Array Value)) (i : Nat) : Int × Array Value := (a + 1 + i, packed (fun j => secOf ps (i * 32 + j)) (min (i * 32 + 32) ps.length - i * 32))
def bytPut (a : Int) (ps : List (Int × Array Value)) (i : Nat) : Int × Array Value := (a + 1 + numsF ps.length + i, bytOf ps i)
def copiesL (a : Int) (ps : List (Int × Array Value)) : List (Int × Array Value) := (List.range (numsF ps.length)).map (numPut a ps) ++ (List.range ps.length).map (bytPut a ps)
def CopiesPost (a : Int) (ps : List (Int × Array Value)) (F : List Nat) (w : World) (e : Ending) (w' : World) : Prop := ∃ v, e = .returned v ∧ PutsAt w' F v (copiesL a ps) ∧ Only [] w w'

theorem CopiesPost.mk {a : Int} {ps : List (Int × Array Value)} {F : List Nat} {w w' : World} {v : Value} (h : PutsAt w' F v (copiesL a ps)) (ho : Only [] w w') : CopiesPost a ps F w (.returned v) w' := Exists.intro v ⟨rfl, h, ho⟩
theorem at_of {ps : List (Int × Array Value)} {k : Nat} {p : Int × Array Value} (h : ps[k]? = some p) : secOf ps k = p.1 ∧ bytOf ps k = p.2 := by
  simp [secOf, bytOf, List.getD_eq_getElem?_getD, h]
theorem make33 (n : Nat) (hn : n ≤ 10000) (w : World) : (Instr.makeSlice 40 (.int .i64 (n : Int)) (.int .i64 (n : Int))).run Try.prog w = .ok (.slice (some ⟨w.heap.size, 0, none⟩) n n) (w.alloc (.cells (madeCells #[.int .i64 0] n) 3)) :=
  run_make_row' (P := Try.prog) 40 3 (.int .i64 0) 8 Try.underlying40 (by kernel_rfl) rfl .i64 .i64 n (by omega) (by omega) w
theorem made_row (n : Nat) : (madeCells #[.int .i64 0] n).size = n ∧ ∀ j, j < n → (madeCells #[.int .i64 0] n)[j]? = some (.int .i64 0) := by
  have h := toList_madeCells_one (.int .i64 0) n
  have h1 : (madeCells #[.int .i64 0] n).size = n := by rw [← Array.length_toList, h, List.length_replicate]
  refine ⟨h1, fun j hj => ?_⟩
  rw [← Array.getElem?_toList, h, List.getElem?_replicate, if_pos hj]

structure NumRow (ps : List (Int × Array Value)) (A : Array Value) (k : Nat) : Prop where
  size : A.size = ps.length
  got : ∀ j, j < k → A[j]? = some (.int .i64 (secOf ps j))
  zero : ∀ j, k ≤ j → j < ps.length → A[j]? = some (.int .i64 0)

set_option maxHeartbeats 4000000 in
theorem copies_any {w : World} {wb b : Nat} {a s g : Int} {F : List Nat} {lv : Value} {ps : List (Int × Array Value)} (hw : WalAt w wb b a s g) (hl : PutsAt w F lv ps) (hF : ∀ x ∈ F, x < w.heap.size) (hn : ps.length ≤ 10000) (ha : 0 ≤ a) (ha1 : a ≤ 8192) (hsec : ∀ p ∈ ps, 0 ≤ p.1 ∧ p.1 ≤ 8192) :
    Calls Try.prog 72 #[.pointer (some ⟨wb, 0, none⟩), lv] w fun e w' => CopiesPost a ps F w e w' := by
  obtain ⟨ad, cap, rfl, hlen, -⟩ := hl.shape
  have HL := Lib.hid hl
  have HW := Lib.hid hw
  have HF := Lib.hid hF
  have HS := Lib.hid hsec
  have hmk := make33 ps.length hn
  clear hl hw hF hsec
  go_enter Try.func72, Try.ntmps72
  go_wp2
  go_loopw [20] (fun i wr => ∃ (k : Nat) (A : Array Value), k ≤ ps.length ∧ i = .int .i64 k ∧ wr.heap[w.heap.size]? = some (.cells A 3 (0, 0)) ∧ NumRow ps A k ∧ Only [] w wr) (fun i _ => ps.length - (intOf i).toNat)
  case atStart => exact ⟨0, _, by omega, rfl, heap_alloc_last w _, ⟨(made_row _).1, by simp, fun j _ hj => (made_row _).2 j hj⟩, (Only.refl [] w).alloc _⟩
  case round =>
    obtain ⟨k, A, hk, rfl, hb, hA, ho⟩ := hrel
    by_cases hlt : k < ps.length
    · obtain ⟨p, hp'⟩ : ∃ p, ps[k]? = some p := ⟨_, List.getElem?_eq_getElem hlt⟩
      obtain ⟨a', cap', hsh, -, hall⟩ := (HL.out.only ho (by simp)).shape
      cases hsh
      obtain ⟨g1, o1, av, rfl, g1l, g2, c0, c1, hv⟩ := hall k p hp'
      obtain ⟨_, g3, o3, cap3, rfl, _⟩ := hv
      have hcell : wr.cell? ⟨w.heap.size, k, none⟩ = some (.int .i64 0) := by rw [cell_of_row _ _ _ _ _ _ hb]; exact hA.zero k (Nat.le_refl _) hlt
      have hfz : wr.frozen? ⟨w.heap.size, k, none⟩ = false := by simp [World.frozen?, hb]
      have hsz : w.heap.size < wr.heap.size := (Array.getElem?_eq_some_iff.1 hb).1
      have KEEP := Lib.hid (And.intro hb (And.intro hA (And.intro ho hp')))
      clear hall hb hA ho hp'
      go_wp2
      go_roundw
      case rel =>
        obtain ⟨hb, hA, ho, hp'⟩ := KEEP.out
        have hb2 := heap_setCell_row hb k (.int .i64 p.1)
        refine ⟨k + 1, _, by omega, by go_num, (Below.heap_alloc _ _ _ (by simpa using hsz)).trans hb2, ⟨by simpa using hA.size, fun j hj => ?_, fun j h1 h2 => ?_⟩, (ho.setCell (by simp) _).alloc _⟩
        · by_cases hjk : j = k
          · subst hjk
            rw [Array.getElem?_setIfInBounds_self_of_lt (by rw [hA.size]; exact hlt), (at_of hp').1]
          · rw [Array.getElem?_setIfInBounds_ne (by omega)]
            exact hA.got j (by omega)
        · rw [Array.getElem?_setIfInBounds_ne (by omega)]
          exact hA.zero j (by omega) h2
      case measure => simp [intOf]; omega
    · have hkl : k = ps.length := by omega
      subst hkl
      have NS := Lib.hid (nums_any ps.length wr (by omega))
      have KEEP := Lib.hid (And.intro hb (And.intro hA ho))
      clear hb hA ho
      go_wp2_with (go_at_call 85; refine NS.out.mono ?_; rintro e w' ⟨rfl, rfl⟩)
      go_loopw [34, 8] (fun i c wq => ∃ k : Nat, k ≤ numsF ps.length ∧ i = .int .i64 k ∧ Building w wq F c ((List.range k).map (numPut a ps)) ∧ wq.heap[w.heap.size]? = some (.cells A 3 (0, 0)) ∧ Only [] w wq) (fun i _ _ => numsF ps.length - (intOf i).toNat)
      case atStart => exact ⟨0, by omega, rfl, Building.nil _ _ _, KEEP.out.1, KEEP.out.2.2⟩
      case round =>
        obtain ⟨k, hk, rfl, hbl, hb, ho⟩ := hrel
        by_cases hlt2 : k < numsF ps.length
        · have hkn : k * 32 < ps.length := by unfold numsF at hlt2; omega
          have KEEP2 := Lib.hid (And.intro hbl (And.intro hb ho))
          clear hbl hb ho
          have hsec2 : ∀ j, j < ps.length → 0 ≤ secOf ps j ∧ secOf ps j ≤ 9223372036854775807 := fun j hj => by
            obtain ⟨p, hp⟩ : ∃ p, ps[j]? = some p := ⟨_, List.getElem?_eq_getElem hj⟩
            rw [(at_of hp).1]
            have := HS.out p (List.mem_of_getElem? hp)
            omega
          have hbl1 : Building w wr.drew F u8 ((List.range k).map (numPut a ps)) := KEEP2.out.1.keep (Only.refl [] wr).drew
          have hb1 : wr.drew.heap[w.heap.size]? = some (.cells A 3 (0, 0)) := KEEP2.out.2.1
          have o1 : Only [] w wr.drew := KEEP2.out.2.2.drew
          have c1 : wr.drew.cell? ⟨wb, 1, none⟩ = some (.int .i64 a) := (HW.out.only o1 (by simp)).cells.2.1
          have hkn2 : k ≤ 400 := by unfold numsF at hlt2; omega
          by_cases hle : k * 32 + 32 ≤ ps.length
          · go_wp2_with fail
            refine wp_region_flowR Lat [0, 0, 0, 0, 1, 0, 0, 0, 0, 0, 0, 0, 0, 2, 0, 2, 3, 0] (by kernel_rfl) (by kernel_rfl) Lat.refl Lat.trans ?_
            generalize wr.drew = w1 at *
            refine fr0 rfl (fun _ => rfl) ?_
            simp only [Act.put, List.setIfInBounds_toArray, List.set_cons_succ, List.set_cons_zero]
            refine fr0 rfl (fun _ => rfl) ?_
            simp only [Act.put, List.setIfInBounds_toArray, List.set_cons_succ, List.set_cons_zero]
            refine fr0 rfl (fun _ => rfl) ?_
            simp only [Act.put, List.setIfInBounds_toArray, List.set_cons_succ, List.set_cons_zero]
            refine fr0 rfl (run_field75 (by omega) rfl rfl) ?_
            simp only [Act.put, List.setIfInBounds_toArray, List.set_cons_succ, List.set_cons_zero]
            refine fr1 (u := .int .i64 a) rfl (fun x hx => run_load1 rfl rfl (hx.cell c1) isAgg3) ?_
            simp only [Act.put, List.setIfInBounds_toArray, List.set_cons_succ, List.set_cons_zero]
            refine fr0 (u := .int .i64 (a + 1)) rfl (run_add (by omega) (by omega) rfl rfl rfl) ?_
            simp only [Act.put, List.setIfInBounds_toArray, List.set_cons_succ, List.set_cons_zero]
            refine fr0 rfl (fun _ => rfl) ?_
            simp only [Act.put, List.setIfInBounds_toArray, List.set_cons_succ, List.set_cons_zero]
            refine fr0 (u := .int .i64 (a + 1 + (k : Int))) rfl (run_add (by omega) (by omega) rfl rfl rfl) ?_
            simp only [Act.put, List.setIfInBounds_toArray, List.set_cons_succ, List.set_cons_zero]
            refine fr0 rfl (fun _ => rfl) ?_
            simp only [Act.put, List.setIfInBounds_toArray, List.set_cons_succ, List.set_cons_zero]
            refine fr0 rfl (fun _ => rfl) ?_
            simp only [Act.put, List.setIfInBounds_toArray, List.set_cons_succ, List.set_cons_zero]
            refine fr0 rfl (fun _ => rfl) ?_
            simp only [Act.put, List.setIfInBounds_toArray, List.set_cons_succ, List.set_cons_zero]
            refine fr0 rfl (fun _ => rfl) ?_
            simp only [Act.put, List.setIfInBounds_toArray, List.set_cons_succ, List.set_cons_zero]
            refine fr0 (u := .slice (some ⟨w.heap.size, k * 32, none⟩) ((k * 32 + 32) - k * 32) ((k * 32 + 32) - k * 32)) rfl (run_slice3 (by omega) (by omega) (by omega) (by omega) (by omega) rfl rfl rfl rfl rfl) ?_
            simp only [Act.put, List.setIfInBounds_toArray, List.set_cons_succ, List.set_cons_zero]
            refine fr2c rfl (run_enter1 Try.call86 rfl rfl) (pack_any w1 w.heap.size (k * 32) ((k * 32 + 32) - k * 32) ((k * 32 + 32) - k * 32) (fun j => secOf ps (k * 32 + j)) (by omega) (fun j hj => by rw [cell_of_row _ _ _ _ _ _ hb1]; exact KEEP.out.2.1.got _ (by omega)) (fun _ => (Array.getElem?_eq_some_iff.1 hb1).1) (fun j hj => hsec2 _ (by omega))) ?_
            rintro e w2 ⟨rfl, hpk, o2⟩
            refine ⟨_, rfl, o2.lat, ?_⟩
            simp only [Act.put, List.setIfInBounds_toArray, List.set_cons_succ, List.set_cons_zero]
            refine fr0 (u := .agg #[.int .i64 (a + 1 + (k : Int)), .slice (some ⟨w1.heap.size, 0, none⟩) 64 64]) rfl (run_build54 rfl rfl rfl) ?_
            simp only [Act.put, List.setIfInBounds_toArray, List.set_cons_succ, List.set_cons_zero]
            refine fr2 (u := .slice (some ⟨w2.heap.size, 0, none⟩) 1 1) (w' := w2.alloc (.cells #[.int .i64 (a + 1 + (k : Int)), .slice (some ⟨w1.heap.size, 0, none⟩) 64 64] 112)) rfl (Lat.alloc _ _) (.inl (run_buildSlice32 rfl rfl rfl)) ?_
            simp only [Act.put, List.setIfInBounds_toArray, List.set_cons_succ, List.set_cons_zero]
            have hsrc : Src w w2 F (.slice (some ⟨w1.heap.size, 0, none⟩) 64 64) (packed (fun j => secOf ps (k * 32 + j)) ((k * 32 + 32) - k * 32)) := ⟨packed_ok _ _ (by omega), w1.heap.size, 0, 64, rfl, (Array.getElem?_eq_some_iff.1 hpk).1, fun hx => by have := HF.out _ hx; have := o1.size; omega, fun j u hu => by rw [Nat.zero_add, cell_of_row _ _ _ _ _ _ hpk]; simpa using hu, .inr ⟨_, hpk⟩⟩
            obtain ⟨v3, w3, hrun, hbl3, o3, hk3, hs3⟩ := (hbl1.keep o2).append (o1.trans o2 (by simp)) (i := a + 1 + (k : Int)) hsrc (by simp; omega) 79
            refine fr3 (u := v3) (w' := w3) rfl (.inl (run_builtin_append rfl rfl rfl hrun)) ?_
            simp only [Act.put, List.setIfInBounds_toArray, List.set_cons_succ, List.set_cons_zero]
            refine fr0 (u := v3) rfl (fun _ => rfl) ?_
            simp only [Act.put, List.setIfInBounds_toArray, List.set_cons_succ, List.set_cons_zero]
            refine frnil ?_
            have hb3 : w3.heap[w.heap.size]? = some (.cells A 3 (0, 0)) := by
              have h2 := (o2.block _ (Array.getElem?_eq_some_iff.1 hb1).1 (by simp)).trans hb1
              rw [hk3 _ (Array.getElem?_eq_some_iff.1 h2).1 (fun e => ?_)]
              · exact h2
              · obtain ⟨qs, _, q2, _⟩ := hbl1.keep o2
                obtain ⟨_, _, cur, hcur⟩ := ownsRow_own q2 e
                rw [hcur] at h2
                simp at h2
            have hnp : (List.range (k + 1)).map (numPut a ps) = (List.range k).map (numPut a ps) ++ [(a + 1 + (k : Int), packed (fun j => secOf ps (k * 32 + j)) ((k * 32 + 32) - k * 32))] := by
              rw [List.range_succ, List.map_append, List.map_cons, List.map_nil]
              congr 2
              unfold numPut
              rw [show min (k * 32 + 32) ps.length = (k * 32 + 32) by omega]
            rw [← hnp] at hbl3
            have FIN := Lib.hid (And.intro hbl3 (And.intro hb3 o3))
            clear hbl3 hb3 o3 hrun hk3 hs3 hsrc
            go_wp2
            go_roundw
            case rel => exact ⟨k + 1, by omega, by go_num, FIN.out.1, FIN.out.2.1, FIN.out.2.2⟩
            case measure => simp [intOf]; omega
          · go_wp2_with fail
            refine wp_region_flowR Lat [0, 0, 0, 0, 1, 0, 0, 0, 0, 0, 0, 0, 0, 2, 0, 2, 3, 0] (by kernel_rfl) (by kernel_rfl) Lat.refl Lat.trans ?_
            generalize wr.drew = w1 at *
            refine fr0 rfl (fun _ => rfl) ?_
            simp only [Act.put, List.setIfInBounds_toArray, List.set_cons_succ, List.set_cons_zero]
            refine fr0 rfl (fun _ => rfl) ?_
            simp only [Act.put, List.setIfInBounds_toArray, List.set_cons_succ, List.set_cons_zero]
            refine fr0 rfl (fun _ => rfl) ?_
            simp only [Act.put, List.setIfInBounds_toArray, List.set_cons_succ, List.set_cons_zero]
            refine fr0 rfl (run_field75 (by omega) rfl rfl) ?_
            simp only [Act.put, List.setIfInBounds_toArray, List.set_cons_succ, List.set_cons_zero]
            refine fr1 (u := .int .i64 a) rfl (fun x hx => run_load1 rfl rfl (hx.cell c1) isAgg3) ?_
            simp only [Act.put, List.setIfInBounds_toArray, List.set_cons_succ, List.set_cons_zero]
            refine fr0 (u := .int .i64 (a + 1)) rfl (run_add (by omega) (by omega) rfl rfl rfl) ?_
            simp only [Act.put, List.setIfInBounds_toArray, List.set_cons_succ, List.set_cons_zero]
            refine fr0 rfl (fun _ => rfl) ?_
            simp only [Act.put, List.setIfInBounds_toArray, List.set_cons_succ, List.set_cons_zero]
            refine fr0 (u := .int .i64 (a + 1 + (k : Int))) rfl (run_add (by omega) (by omega) rfl rfl rfl) ?_
            simp only [Act.put, List.setIfInBounds_toArray, List.set_cons_succ, List.set_cons_zero]
            refine fr0 rfl (fun _ => rfl) ?_
            simp only [Act.put, List.setIfInBounds_toArray, List.set_cons_succ, List.set_cons_zero]
            refine fr0 rfl (fun _ => rfl) ?_
            simp only [Act.put, List.setIfInBounds_toArray, List.set_cons_succ, List.set_cons_zero]
            refine fr0 rfl (fun _ => rfl) ?_
            simp only [Act.put, List.setIfInBounds_toArray, List.set_cons_succ, List.set_cons_zero]
            refine fr0 rfl (fun _ => rfl) ?_
            simp only [Act.put, List.setIfInBounds_toArray, List.set_cons_succ, List.set_cons_zero]
            refine fr0 (u := .slice (some ⟨w.heap.size, k * 32, none⟩) (ps.length - k * 32) (ps.length - k * 32)) rfl (run_slice3 (by omega) (by omega) (by omega) (by omega) (by omega) rfl rfl rfl rfl rfl) ?_
            simp only [Act.put, List.setIfInBounds_toArray, List.set_cons_succ, List.set_cons_zero]
            refine fr2c rfl (run_enter1 Try.call86 rfl rfl) (pack_any w1 w.heap.size (k * 32) (ps.length - k * 32) (ps.length - k * 32) (fun j => secOf ps (k * 32 + j)) (by omega) (fun j hj => by rw [cell_of_row _ _ _ _ _ _ hb1]; exact KEEP.out.2.1.got _ (by omega)) (fun _ => (Array.getElem?_eq_some_iff.1 hb1).1) (fun j hj => hsec2 _ (by omega))) ?_
            rintro e w2 ⟨rfl, hpk, o2⟩
            refine ⟨_, rfl, o2.lat, ?_⟩
            simp only [Act.put, List.setIfInBounds_toArray, List.set_cons_succ, List.set_cons_zero]
            refine fr0 (u := .agg #[.int .i64 (a + 1 + (k : Int)), .slice (some ⟨w1.heap.size, 0, none⟩) 64 64]) rfl (run_build54 rfl rfl rfl) ?_
            simp only [Act.put, List.setIfInBounds_toArray, List.set_cons_succ, List.set_cons_zero]
            refine fr2 (u := .slice (some ⟨w2.heap.size, 0, none⟩) 1 1) (w' := w2.alloc (.cells #[.int .i64 (a + 1 + (k : Int)), .slice (some ⟨w1.heap.size, 0, none⟩) 64 64] 112)) rfl (Lat.alloc _ _) (.inl (run_buildSlice32 rfl rfl rfl)) ?_
            simp only [Act.put, List.setIfInBounds_toArray, List.set_cons_succ, List.set_cons_zero]
            have hsrc : Src w w2 F (.slice (some ⟨w1.heap.size, 0, none⟩) 64 64) (packed (fun j => secOf ps (k * 32 + j)) (ps.length - k * 32)) := ⟨packed_ok _ _ (by omega), w1.heap.size, 0, 64, rfl, (Array.getElem?_eq_some_iff.1 hpk).1, fun hx => by have := HF.out _ hx; have := o1.size; omega, fun j u hu => by rw [Nat.zero_add, cell_of_row _ _ _ _ _ _ hpk]; simpa using hu, .inr ⟨_, hpk⟩⟩
            obtain ⟨v3, w3, hrun, hbl3, o3, hk3, hs3⟩ := (hbl1.keep o2).append (o1.trans o2 (by simp)) (i := a + 1 + (k : Int)) hsrc (by simp; omega) 79
            refine fr3 (u := v3) (w' := w3) rfl (.inl (run_builtin_append rfl rfl rfl hrun)) ?_
            simp only [Act.put, List.setIfInBounds_toArray, List.set_cons_succ, List.set_cons_zero]
            refine fr0 (u := v3) rfl (fun _ => rfl) ?_
            simp only [Act.put, List.setIfInBounds_toArray, List.set_cons_succ, List.set_cons_zero]
            refine frnil ?_
            have hb3 : w3.heap[w.heap.size]? = some (.cells A 3 (0, 0)) := by
              have h2 := (o2.block _ (Array.getElem?_eq_some_iff.1 hb1).1 (by simp)).trans hb1
              rw [hk3 _ (Array.getElem?_eq_some_iff.1 h2).1 (fun e => ?_)]
              · exact h2
              · obtain ⟨qs, _, q2, _⟩ := hbl1.keep o2
                obtain ⟨_, _, cur, hcur⟩ := ownsRow_own q2 e
                rw [hcur] at h2
                simp at h2
            have hnp : (List.range (k + 1)).map (numPut a ps) = (List.range k).map (numPut a ps) ++ [(a + 1 + (k : Int), packed (fun j => secOf ps (k * 32 + j)) (ps.length - k * 32))] := by
              rw [List.range_succ, List.map_append, List.map_cons, List.map_nil]
              congr 2
              unfold numPut
              rw [show min (k * 32 + 32) ps.length = ps.length by omega]
            rw [← hnp] at hbl3
            have FIN := Lib.hid (And.intro hbl3 (And.intro hb3 o3))
            clear hbl3 hb3 o3 hrun hk3 hs3 hsrc
            go_wp2
            go_roundw
            case rel => exact ⟨k + 1, by omega, by go_num, FIN.out.1, FIN.out.2.1, FIN.out.2.2⟩
            case measure => simp [intOf]; omega
        · have hkl2 : k = numsF ps.length := by omega
          subst hkl2
          obtain ⟨ca, ccap, hc8⟩ := hbl.slice
          simp only [List.length_map, List.length_range] at hc8
          subst hc8
          have c1 : wr.cell? ⟨wb, 1, none⟩ = some (.int .i64 a) := (HW.out.only ho (by simp)).cells.2.1
          have hnn : numsF ps.length ≤ 400 := by unfold numsF; omega
          have KEEP3 := Lib.hid (And.intro hbl ho)
          clear hbl hb ho
          go_wp2
          go_loopw [72, 8] (fun i c wq => ∃ k : Nat, k ≤ ps.length ∧ i = .int .i64 k ∧ Building w wq F c ((List.range (numsF ps.length)).map (numPut a ps) ++ (List.range k).map (bytPut a ps)) ∧ Only [] w wq) (fun i _ _ => ps.length - (intOf i).toNat)
          case atStart => exact ⟨0, by omega, rfl, by simpa using KEEP3.out.1, KEEP3.out.2⟩
          case round =>
            obtain ⟨k, hk, rfl, hbl, ho⟩ := hrel
            by_cases hlt3 : k < ps.length
            · obtain ⟨p, hp'⟩ : ∃ p, ps[k]? = some p := ⟨_, List.getElem?_eq_getElem hlt3⟩
              obtain ⟨a', cap', hsh, -, hall⟩ := HL.out.shape
              cases hsh
              obtain ⟨g1, o1, av, rfl, g1l, g2, q0, q1, hv⟩ := hall k p hp'
              have p0 : wr.cell? ⟨g1, o1 + k * 2, none⟩ = some (.int .i64 p.1) := (World.cell?_of_block (ho.block g1 g1l (by simp))).trans q0
              have p1 : wr.cell? ⟨g1, o1 + k * 2 + 1, none⟩ = some av := (World.cell?_of_block (ho.block g1 g1l (by simp))).trans q1
              have hsrc0 : Src w w F av p.2 := by
                obtain ⟨h1, g, o, cap, h2, h3, h4, h5⟩ := hv
                exact ⟨h1, g, o, cap, h2, h3, h4, h5, .inl h3⟩
              obtain ⟨_, g3, o3, cap3, rfl, _⟩ := hv
              have oal : Only [] wr (wr.alloc (.cells #[.int .i64 p.1, .slice (some ⟨g3, o3, none⟩) 64 cap3] 112)) := (Only.refl [] wr).alloc _
              have hsrc := hsrc0.keep (ho.trans oal (by simp)).size (fun x hx _ => (ho.trans oal (by simp)).block x hx (by simp))
              obtain ⟨v3, w3, hrun, hbl3, o3', hk3, hs3⟩ := (hbl.keep oal).append (ho.trans oal (by simp)) (i := a + 1 + (numsF ps.length : Int) + (k : Int)) hsrc (by simp; omega) 79
              rw [World.size_alloc] at hrun
              have hbp : ((List.range (numsF ps.length)).map (numPut a ps) ++ (List.range k).map (bytPut a ps)) ++ [(a + 1 + (numsF ps.length : Int) + (k : Int), p.2)] = (List.range (numsF ps.length)).map (numPut a ps) ++ (List.range (k + 1)).map (bytPut a ps) := by
                rw [List.range_succ, List.map_append, List.map_cons, List.map_nil, List.append_assoc]
                congr 3
                unfold bytPut
                rw [(at_of hp').2]
              rw [hbp] at hbl3
              have RUN := Lib.hid hrun
              have FIN := Lib.hid (And.intro hbl3 o3')
              clear hall hbl ho hp' q0 q1 hrun hbl3 o3' hk3 hs3 hsrc hsrc0 oal hbp
              go_wp2_with (refine wpL_value rfl (run_builtin_append rfl rfl rfl RUN.out) ?_)
              go_roundw
              case rel => exact ⟨k + 1, by omega, by go_num, FIN.out.1, FIN.out.2⟩
              case measure => simp [intOf]; omega
            · have hkl3 : k = ps.length := by omega
              subst hkl3
              have FIN := Lib.hid (And.intro hbl ho)
              clear hbl ho
              go_wp2
              go_ret
              refine CopiesPost.mk ?_ FIN.out.2
              exact FIN.out.1.puts HF.out (by simp; omega)

end Go.Proofs.Ytoccnaebckcfmaa
end

section
set_option linter.unusedSimpArgs false
set_option linter.unusedVariables false
set_option maxRecDepth 8000
namespace Go.Proofs.Ytoccnaebckcfmaa
open Go.RowKit

section
variable {o : Oper} {a : Act} {w : World}
theorem build78_run4 (i j k l : Int) (w : World) : (Instr.build 99 #[(0, .int .i64 i), (1, .int .i64 j), (2, .int .i64 k), (3, .int .i64 l)]).run Try.prog w = .ok (.agg #[.int .i64 i, .int .i64 j, .int .i64 k, .int .i64 l]) w := by kernel_rfl
theorem build78_run3 (i j k : Int) (w : World) : (Instr.build 99 #[(0, .int .i64 i), (1, .int .i64 j), (2, .int .i64 k)]).run Try.prog w = .ok (.agg #[.int .i64 i, .int .i64 j, .int .i64 k, .int .i64 0]) w := by kernel_rfl
theorem run_build78_4 {x y z u : Operand} {i j k l : Int} (ho : o.op = .build 99 #[(0, x), (1, y), (2, z), (3, u)]) (hx : a.eval x = .int .i64 i) (hy : a.eval y = .int .i64 j) (hz : a.eval z = .int .i64 k) (hu : a.eval u = .int .i64 l) :
    ∀ w, (execOp a.eval o).run Try.prog w = .ok (.value (.agg #[.int .i64 i, .int .i64 j, .int .i64 k, .int .i64 l])) w := by
  intro w
  unfold execOp
  simp only [ho, List.map_toArray, List.map_cons, List.map_nil, hx, hy, hz, hu, Sem.run_bind, build78_run4 i j k l w, Result.andThen_ok, Sem.run_pure]
theorem run_build78_3 {x y z : Operand} {i j k : Int} (ho : o.op = .build 99 #[(0, x), (1, y), (2, z)]) (hx : a.eval x = .int .i64 i) (hy : a.eval y = .int .i64 j) (hz : a.eval z = .int .i64 k) :
    ∀ w, (execOp a.eval o).run Try.prog w = .ok (.value (.agg #[.int .i64 i, .int .i64 j, .int .i64 k, .int .i64 0])) w := by
  intro w
  unfold execOp
  simp only [ho, List.map_toArray, List.map_cons, List.map_nil, hx, hy, hz, Sem.run_bind, build78_run3 i j k w, Result.andThen_ok, Sem.run_pure]
theorem zero78 (w : World) : (zeroValue 99).run Try.prog w = .ok (.agg #[.int .i64 0, .int .i64 0, .int .i64 0, .int .i64 0]) w := by kernel_rfl
theorem info78 : (Try.prog.info? 99).map (·.size) = some 4 := by kernel_rfl
theorem run_alloc78 (ho : o.op = .alloc 99) : (execOp a.eval o).run Try.prog w = .ok (.value (.pointer (some ⟨w.heap.size, 0, none⟩))) (w.alloc (.cells #[.int .i64 0, .int .i64 0, .int .i64 0, .int .i64 0] 99)) := by
  unfold execOp
  rw [ho]
  simp only [Instr.alloc, Sem.run_bind, zero78, Result.andThen, newVar, newRow, Value.cells]
  rfl
theorem run_store78 {x y : Operand} {c c' : Array Value} (hc : c.size = 4) (hc' : c'.size = 4) (h1 : c'.all (·.oneCell') = true) (ho : o.op = .store 99 x y) (hx : a.eval x = .pointer (some ⟨w.heap.size, 0, none⟩)) (hy : a.eval y = .agg c') :
    (execOp a.eval o).run Try.prog (w.alloc (.cells c 99)) = .ok .skip (w.alloc (.cells c' 99)) := by
  unfold execOp
  rw [ho]
  simp only [hx, hy, Sem.run_bind, run_storeAt_new (P := Try.prog) w 99 c c' (by rw [info78, hc']) (by rw [hc, hc']) h1, Result.andThen]
  rfl
theorem len32 (ty : TypeId) (p : Option Addr) (n c : Nat) (w : World) : (Builtin.len_ #[79] ty #[.slice p n c]).run Try.prog w = .ok (.int .i64 n) w := by kernel_rfl
theorem run_len32 {x : Operand} {p : Option Addr} {n c : Nat} (ho : o.op = .call { callee := .builtin .len, args := #[x], argTypes := #[79] }) (hx : a.eval x = .slice p n c) : ∀ w, (execOp a.eval o).run Try.prog w = .ok (.value (.int .i64 n)) w := by
  intro w
  unfold execOp
  simp only [ho, resolve, invoke, builtin, Sem.run_bind, Sem.run_pure, Result.andThen_ok, List.map_toArray, List.map_cons, List.map_nil, hx, len32 _ p n c w]
end

/-! How many steps. -/
theorem doWrite_bd (S : St) (i : Int) (v : Array Value) : (S.doWrite i v).2.steps ≤ S.steps + 1 ∧ (S.doWrite i v).2.pend.length ≤ S.pend.length + 1 := by
  unfold St.doWrite
  split
  · constructor <;> simp <;> omega
  · split
    · simp [St.fallen]; omega
    · simp [St.write, St.written, St.kept, St.stepped]
theorem writes_bd : ∀ (ps : List (Int × Array Value)) (S : St), (S.writes ps).2.steps ≤ S.steps + ps.length ∧ (S.writes ps).2.pend.length ≤ S.pend.length + ps.length
  | [], S => by simp [St.writes]
  | p :: ps, S => by
    have h1 := doWrite_bd S p.1 p.2
    unfold St.writes
    split
    · have h2 := writes_bd ps (S.doWrite p.1 p.2).2
      simp only [List.length_cons]
      constructor <;> omega
    · simp only [List.length_cons]
      constructor <;> omega
theorem doBarrier_bd (S : St) : S.doBarrier.2.steps ≤ S.steps + 1 ∧ S.doBarrier.2.pend.length ≤ S.pend.length := by
  unfold St.doBarrier
  split
  · simp; omega
  · split
    · simp [St.fallen]; omega
    · simp [St.settled, St.stepped]
theorem writeAll_bd (ps : List (Int × Array Value)) (S : St) : (S.writeAll ps).2.steps ≤ S.steps + ps.length + 1 ∧ (S.writeAll ps).2.pend.length ≤ S.pend.length + ps.length := by
  have h := writes_bd ps S
  unfold St.writeAll
  split
  · have h2 := doBarrier_bd (S.writes ps).2
    constructor <;> omega
  · constructor <;> omega

def St.finish (S : St) (a s : Int) (ps : List (Int × Array Value)) (g : Int) : Int × St := if (S.writeAll ps).1 = 0 then (S.writeAll ps).2.writeAll [(a, headA a s g 0)] else S.writeAll ps
theorem finish_bd (S : St) (a s : Int) (ps : List (Int × Array Value)) (g : Int) : (S.finish a s ps g).2.steps ≤ S.steps + ps.length + 3 ∧ (S.finish a s ps g).2.pend.length ≤ S.pend.length + ps.length + 1 := by
  have h := writeAll_bd ps S
  unfold St.finish
  split
  · have h2 := writeAll_bd [(a, headA a s g 0)] (S.writeAll ps).2
    simp only [List.length_singleton] at h2
    constructor <;> omega
  · constructor <;> omega

set_option maxHeartbeats 1000000 in
theorem finish_any {w : World} {wb b : Nat} {F : List Nat} {S : St} {a s g0 g : Int} {lv : Value} {ps : List (Int × Array Value)} (h : DAt w b F S) (hw : WalAt w wb b a s g0) (hwb : wb ∉ F) (hl : PutsAt w F lv ps) (ha : 0 ≤ a ∧ a ≤ 9223372036854775807) (hs : 0 ≤ s ∧ s ≤ 9223372036854775807) (hg : 0 ≤ g ∧ g ≤ 9223372036854775807)
    (hst : S.steps + ps.length + 10 < 1000000000) (hpd : S.pend.length + ps.length + 10 < 1000000000) :
    Calls Try.prog 73 #[.pointer (some ⟨wb, 0, none⟩), lv, .int .i64 g] w fun e w' => e = .returned (.int .i64 (S.finish a s ps g).1) ∧ DPost w w' b F (S.finish a s ps g).2 := by
  obtain ⟨c0, c1, c2, c3, fz⟩ := hw.cells
  have bd := writeAll_bd ps S
  have WA := Lib.hid (writeAll_any h hl (by omega) (by omega))
  have HW := Lib.hid hw
  clear h hl hw
  by_cases hz : (S.writeAll ps).1 = 0
  · go_enter Try.func73, Try.ntmps73
    go_wp2_with (go_at_call 71; refine WA.out.mono ?_; rintro e w1 ⟨rfl, hpost⟩)
    obtain ⟨F1, d1, f1, o1⟩ := hpost
    obtain ⟨x0, x1, x2, x3, -⟩ := (HW.out.only o1 hwb).cells
    have d1' := d1.drew
    have hd : ∀ {p : Addr} {u : Value}, w1.cell? p = some u → w1.drew.cell? p = some u := fun h => h
    have WH := Lib.hid (writeHead_any d1' a s g 0 ha hs hg (by omega) (by omega) (by omega))
    refine wp_region_flowR Lat [0, 0, 0, 1, 0, 0, 0, 1, 0, 0, 0, 1, 0, 0, 3, 0] (by kernel_rfl) (by kernel_rfl) Lat.refl Lat.trans ?_
    refine fr0 rfl (fun _ => rfl) ?_
    simp only [Act.put, List.setIfInBounds_toArray, List.set_cons_succ, List.set_cons_zero]
    refine fr0 rfl (fun _ => rfl) ?_
    simp only [Act.put, List.setIfInBounds_toArray, List.set_cons_succ, List.set_cons_zero]
    refine fr0 rfl (run_field75 (by omega) rfl rfl) ?_
    simp only [Act.put, List.setIfInBounds_toArray, List.set_cons_succ, List.set_cons_zero]
    refine fr1 (u := .pointer (some ⟨b, 0, none⟩)) rfl (fun x hx => run_load1 rfl rfl (hx.cell (hd x0)) isAgg25) ?_
    simp only [Act.put, List.setIfInBounds_toArray, List.set_cons_succ, List.set_cons_zero]
    refine fr0 rfl (fun _ => rfl) ?_
    simp only [Act.put, List.setIfInBounds_toArray, List.set_cons_succ, List.set_cons_zero]
    refine fr0 rfl (fun _ => rfl) ?_
    simp only [Act.put, List.setIfInBounds_toArray, List.set_cons_succ, List.set_cons_zero]
    refine fr0 rfl (run_field75 (by omega) rfl rfl) ?_
    simp only [Act.put, List.setIfInBounds_toArray, List.set_cons_succ, List.set_cons_zero]
    refine fr1 (u := .int .i64 a) rfl (fun x hx => run_load1 rfl rfl (hx.cell (hd x1)) isAgg3) ?_
    simp only [Act.put, List.setIfInBounds_toArray, List.set_cons_succ, List.set_cons_zero]
    refine fr0 rfl (fun _ => rfl) ?_
    simp only [Act.put, List.setIfInBounds_toArray, List.set_cons_succ, List.set_cons_zero]
    refine fr0 rfl (fun _ => rfl) ?_
    simp only [Act.put, List.setIfInBounds_toArray, List.set_cons_succ, List.set_cons_zero]
    refine fr0 rfl (run_field75 (by omega) rfl rfl) ?_
    simp only [Act.put, List.setIfInBounds_toArray, List.set_cons_succ, List.set_cons_zero]
    refine fr1 (u := .int .i64 s) rfl (fun x hx => run_load1 rfl rfl (hx.cell (hd x2)) isAgg3) ?_
    simp only [Act.put, List.setIfInBounds_toArray, List.set_cons_succ, List.set_cons_zero]
    refine fr0 rfl (fun _ => rfl) ?_
    simp only [Act.put, List.setIfInBounds_toArray, List.set_cons_succ, List.set_cons_zero]
    refine fr0 (u := .agg #[.int .i64 a, .int .i64 s, .int .i64 g, .int .i64 0]) rfl (run_build78_3 rfl rfl rfl rfl) ?_
    simp only [Act.put, List.setIfInBounds_toArray, List.set_cons_succ, List.set_cons_zero]
    refine fr3c rfl (run_enter2 Try.call66 rfl rfl rfl) WH.out ?_
    rintro e w2 ⟨rfl, hpost2⟩
    refine ⟨_, rfl, ?_⟩
    simp only [Act.put, List.setIfInBounds_toArray, List.set_cons_succ, List.set_cons_zero]
    refine fr0 rfl (fun _ => rfl) ?_
    simp only [Act.put, List.setIfInBounds_toArray, List.set_cons_succ, List.set_cons_zero]
    refine frnil ?_
    show Exit.then _ _ _ _ _
    go_wp2
    go_ret
    have he : S.finish a s ps g = (S.writeAll ps).2.writeAll [(a, headA a s g 0)] := by rw [St.finish, if_pos hz]
    rw [he]
    exact ⟨rfl, DPost.trans o1.drew f1 hpost2⟩
  · go_enter Try.func73, Try.ntmps73
    go_wp2_with (go_at_call 71; refine WA.out.mono ?_; rintro e w1 ⟨rfl, hpost⟩)
    go_ret
    have he : S.finish a s ps g = S.writeAll ps := by rw [St.finish, if_neg hz]
    rw [he]
    exact ⟨rfl, hpost⟩

end Go.Proofs.Ytoccnaebckcfmaa
end
