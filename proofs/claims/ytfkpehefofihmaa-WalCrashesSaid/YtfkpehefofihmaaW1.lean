/- What the log's small functions of numbers do. -/
import Derived.Test.YtfkpehefofihmaaC6
set_option linter.unusedSimpArgs false
set_option maxRecDepth 8000
namespace Go.Proofs.Ytfkpehefofihmaa
open Go.RowKit

def roomF (size : Int) : Int := if size < 3 then 0 else size - 1 - (size - 1 - 1) / 33 - 1
theorem roomF_lt {n : Int} (h : n < 3) : roomF n = 0 := if_pos h
theorem roomF_bd {n : Int} (h : 3 ≤ n) : 1 ≤ roomF n ∧ roomF n ≤ n - 2 := by
  rw [roomF, if_neg (by omega)]; omega
theorem roomF_nn (n : Int) : 0 ≤ roomF n := by
  rw [roomF]; split <;> omega
theorem ret_int {k : IntKind} {a b : Int} (h : a = b) : Ending.returned (.int k a) = .returned (.int k b) := by rw [h]
theorem ret_bool {a b : Bool} (h : a = b) : Ending.returned (.bool a) = .returned (.bool b) := by rw [h]

set_option maxHeartbeats 400000 in
theorem room_any (n : Int) (w : World) (h1 : n ≤ 9223372036854775807) :
    Calls Try.prog 24 #[.int .i64 n] w fun e w' => e = .returned (.int .i64 (roomF n)) ∧ w = w' := by
  by_cases h : n < 3
  · go_enter Try.func24, Try.ntmps24
    go_wp2
    go_ret
    exact ⟨ret_int (roomF_lt h).symm, rfl⟩
  · have HK : Hid (n - 1 - (n - 1 - 1) / 33 - 1 = roomF n) := by
      show n - 1 - (n - 1 - 1) / 33 - 1 = roomF n
      rw [roomF, if_neg h]
    go_enter Try.func24, Try.ntmps24
    go_wp2
    go_ret
    exact ⟨ret_int HK.out, rfl⟩

def numsF (n : Nat) : Nat := (n + 31) / 32

set_option maxHeartbeats 400000 in
theorem nums_any (n : Nat) (w : World) (h1 : n ≤ 1000000000) :
    Calls Try.prog 45 #[.int .i64 n] w fun e w' => e = .returned (.int .i64 (numsF n)) ∧ w = w' := by
  have HK : Hid (((n : Int) + 32 - 1) / 32 = (numsF n : Int)) := by
    show ((n : Int) + 32 - 1) / 32 = (numsF n : Int)
    rw [numsF]; omega
  go_enter Try.func45, Try.ntmps45
  go_wp2
  go_ret
  exact ⟨ret_int HK.out, rfl⟩

def amongF (c n : Int) : Int := (if c < 0 then -(c + 1) else c) % n
theorem amongF_bd (c n : Int) (h : 0 < n) : 0 ≤ amongF c n ∧ amongF c n < n := ⟨Int.emod_nonneg _ (by omega), Int.emod_lt_of_pos _ h⟩

set_option maxHeartbeats 400000 in
theorem among_any (c n : Int) (w : World) (h0 : -9223372036854775808 ≤ c) (h1 : c ≤ 9223372036854775807) (hn : 0 < n) (hn1 : n ≤ 100) :
    Calls Try.prog 9 #[.int .i64 c, .int .i64 n] w fun e w' => e = .returned (.int .i64 (amongF c n)) ∧ w = w' := by
  by_cases hc : c < 0
  · have HK : Hid (-(c + 1).tmod n = amongF c n) := by
      show -(c + 1).tmod n = amongF c n
      rw [amongF, if_pos hc, ← Int.neg_tmod, Int.tmod_eq_emod_of_nonneg (by omega)]
    go_enter Try.func9, Try.ntmps9
    go_wp2
    go_ret
    exact ⟨ret_int HK.out, rfl⟩
  · have HK : Hid (c % n = amongF c n) := by
      show c % n = amongF c n
      rw [amongF, if_neg hc]
    go_enter Try.func9, Try.ntmps9
    go_wp2
    go_ret
    exact ⟨ret_int HK.out, rfl⟩

/-- A sector of one byte, and another one at its end. -/
def fullB (c l : Int) : Array Value := (fullA c).setIfInBounds 63 (.int .u8 l)
theorem fullB_ok (c l : Int) : SecOk (fullB c l) := ⟨by simp [fullB, fullA], by
  rw [Array.all_eq_true_iff_forall_mem]; intro x hx
  rcases Array.mem_or_eq_of_mem_setIfInBounds hx with hx | hx
  · simp [fullA] at hx; rw [hx]; rfl
  · rw [hx]; rfl⟩

set_option maxHeartbeats 400000 in
theorem full_any (c l : Int) (w : World) : Calls Try.prog 25 #[.int .u8 c, .int .u8 l] w fun e w' => e = .returned (.slice (some ⟨w.heap.size, 0, none⟩) 64 64) ∧ w' = w.alloc (.cells (fullB c l) 5) := by
  have hmk := make64
  go_enter Try.func25, Try.ntmps25
  go_wp2
  go_loopw [6] (fun i wr => ∃ k : Nat, k ≤ 64 ∧ i = .int .i64 k ∧ wr = w.alloc (.cells (filling c k) 5)) (fun i _ => 64 - (intOf i).toNat)
  case atStart => exact ⟨0, by omega, rfl, rfl⟩
  case round =>
    obtain ⟨k, hk, rfl, rfl⟩ := hrel
    by_cases hlt : k < 64
    · have hcell := filling_at c k hlt
      have HS := Lib.hid (filling_step c k hlt)
      go_wp2
      go_roundw
      case rel => exact ⟨k + 1, by omega, by go_num, by rw [← HS.out]⟩
      case measure => simp [intOf]; omega
    · have : k = 64 := by omega
      subst this
      have hcell : (filling c 64)[63]? = some (.int .u8 c) := by rw [filling_end]; simp [fullA]
      have HE : Hid ((filling c 64).setIfInBounds 63 (.int .u8 l) = fullB c l) := by
        show (filling c 64).setIfInBounds 63 (.int .u8 l) = fullB c l
        rw [filling_end]; rfl
      go_wp2
      go_ret
      exact ⟨rfl, by rw [← HE.out]⟩

set_option maxHeartbeats 400000 in
theorem possible_any {w : World} {b : Nat} {F : List Nat} {S : St} (h : DAt w b F S) (at' size : Int) (h0 : -9223372036854775808 ≤ at') (h1 : at' ≤ 9223372036854775807) (h2 : -9223372036854775808 ≤ size) (h3 : size ≤ 9223372036854775807) :
    Calls Try.prog 33 #[.pointer (some ⟨b, 0, none⟩), .int .i64 at', .int .i64 size] w fun e w' => e = .returned (.bool (decide (3 ≤ size ∧ 0 ≤ at' ∧ at' ≤ S.n - size))) ∧ w = w' := by
  have R := Lib.hid (room_any size w h3)
  have L := Lib.hid (len_any h)
  obtain ⟨mn, ms, pv, h, -⟩ := h
  have n0 := h.ok.n0
  have n1 := h.ok.n1
  clear h
  by_cases c1 : size < 3
  · have e1 : ¬ 0 < roomF size := by rw [roomF_lt c1]; omega
    go_enter Try.func33, Try.ntmps33
    go_wp2_with (first | (go_at_call 24; refine R.out.mono ?_; rintro e w' ⟨rfl, rfl⟩))
    go_ret
    exact ⟨ret_bool (by simp; omega), rfl⟩
  · have e1 : 0 < roomF size := by have := roomF_bd (n := size) (by omega); omega
    by_cases c2 : 0 ≤ at'
    · by_cases c3 : at' ≤ S.n - size
      · go_enter Try.func33, Try.ntmps33
        go_wp2_with (first | (go_at_call 24; refine R.out.mono ?_; rintro e w' ⟨rfl, rfl⟩) | (go_at_call 15; refine L.out.mono ?_; rintro e w' ⟨rfl, rfl⟩))
        go_ret
        exact ⟨ret_bool (by simp; omega), rfl⟩
      · go_enter Try.func33, Try.ntmps33
        go_wp2_with (first | (go_at_call 24; refine R.out.mono ?_; rintro e w' ⟨rfl, rfl⟩) | (go_at_call 15; refine L.out.mono ?_; rintro e w' ⟨rfl, rfl⟩))
        go_ret
        exact ⟨ret_bool (by have : ¬ (3 ≤ size ∧ 0 ≤ at' ∧ at' ≤ S.n - size) := by omega
                            rw [decide_eq_false this, decide_eq_false (by omega)]), rfl⟩
    · go_enter Try.func33, Try.ntmps33
      go_wp2_with (first | (go_at_call 24; refine R.out.mono ?_; rintro e w' ⟨rfl, rfl⟩))
      go_ret
      exact ⟨ret_bool (by simp; omega), rfl⟩

end Go.Proofs.Ytfkpehefofihmaa
