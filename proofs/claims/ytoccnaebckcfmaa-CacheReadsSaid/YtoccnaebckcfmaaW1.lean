/- What the log's small functions of numbers do. -/
import Derived.Test.YtoccnaebckcfmaaC6
set_option linter.unusedSimpArgs false
set_option maxRecDepth 8000
namespace Go.Proofs.Ytoccnaebckcfmaa
open Go.RowKit

def roomF (size : Int) : Int := if size < 3 then 0 else size - 1 - (size - 1 - 1) / 33 - 1
theorem roomF_lt {n : Int} (h : n < 3) : roomF n = 0 := if_pos h
theorem roomF_bd {n : Int} (h : 3 ≤ n) : 1 ≤ roomF n ∧ roomF n ≤ n - 2 := by
  rw [roomF, if_neg (by omega)]; omega
theorem roomF_nn (n : Int) : 0 ≤ roomF n := by
  rw [roomF]; split <;> omega
theorem ret_int {k : IntKind} {a b : Int} (h : a = b) : Ending.returned (.int k a) = .returned (.int k b) := by rw [h]
theorem ret_bool {a b : Bool} (h : a = b) : Ending.returned (.bool a) = .returned (.bool b) := by rw [h]

set_option maxHeartbeats 400000 in
theorem room_any (n : Int) (w : World) (h1 : n ≤ 9223372036854775807) :
    Calls Try.prog 60 #[.int .i64 n] w fun e w' => e = .returned (.int .i64 (roomF n)) ∧ w = w' := by
  by_cases h : n < 3
  · go_enter Try.func60, Try.ntmps60
    go_wp2
    go_ret
    exact ⟨ret_int (roomF_lt h).symm, rfl⟩
  · have HK : Hid (n - 1 - (n - 1 - 1) / 33 - 1 = roomF n) := by
      show n - 1 - (n - 1 - 1) / 33 - 1 = roomF n
      rw [roomF, if_neg h]
    go_enter Try.func60, Try.ntmps60
    go_wp2
    go_ret
    exact ⟨ret_int HK.out, rfl⟩

def numsF (n : Nat) : Nat := (n + 31) / 32

set_option maxHeartbeats 400000 in
theorem nums_any (n : Nat) (w : World) (h1 : n ≤ 1000000000) :
    Calls Try.prog 85 #[.int .i64 n] w fun e w' => e = .returned (.int .i64 (numsF n)) ∧ w = w' := by
  have HK : Hid (((n : Int) + 32 - 1) / 32 = (numsF n : Int)) := by
    show ((n : Int) + 32 - 1) / 32 = (numsF n : Int)
    rw [numsF]; omega
  go_enter Try.func85, Try.ntmps85
  go_wp2
  go_ret
  exact ⟨ret_int HK.out, rfl⟩

def amongF (c n : Int) : Int := (if c < 0 then -(c + 1) else c) % n
theorem amongF_bd (c n : Int) (h : 0 < n) : 0 ≤ amongF c n ∧ amongF c n < n := ⟨Int.emod_nonneg _ (by omega), Int.emod_lt_of_pos _ h⟩

/-- A sector of one byte, and another one at its end. -/
def fullB (c l : Int) : Array Value := (fullA c).setIfInBounds 63 (.int .u8 l)
theorem fullB_ok (c l : Int) : SecOk (fullB c l) := ⟨by simp [fullB, fullA], by
  rw [Array.all_eq_true_iff_forall_mem]; intro x hx
  rcases Array.mem_or_eq_of_mem_setIfInBounds hx with hx | hx
  · simp [fullA] at hx; rw [hx]; rfl
  · rw [hx]; rfl⟩

set_option maxHeartbeats 400000 in
theorem possible_any {w : World} {b : Nat} {F : List Nat} {S : St} (h : DAt w b F S) (at' size : Int) (h0 : -9223372036854775808 ≤ at') (h1 : at' ≤ 9223372036854775807) (h2 : -9223372036854775808 ≤ size) (h3 : size ≤ 9223372036854775807) :
    Calls Try.prog 56 #[.pointer (some ⟨b, 0, none⟩), .int .i64 at', .int .i64 size] w fun e w' => e = .returned (.bool (decide (3 ≤ size ∧ 0 ≤ at' ∧ at' ≤ S.n - size))) ∧ w = w' := by
  have R := Lib.hid (room_any size w h3)
  have L := Lib.hid (len_any h)
  obtain ⟨mn, ms, pv, h, -⟩ := h
  have n0 := h.ok.n0
  have n1 := h.ok.n1
  clear h
  by_cases c1 : size < 3
  · have e1 : ¬ 0 < roomF size := by rw [roomF_lt c1]; omega
    go_enter Try.func56, Try.ntmps56
    go_wp2_with (first | (go_at_call 60; refine R.out.mono ?_; rintro e w' ⟨rfl, rfl⟩))
    go_ret
    exact ⟨ret_bool (by simp; omega), rfl⟩
  · have e1 : 0 < roomF size := by have := roomF_bd (n := size) (by omega); omega
    by_cases c2 : 0 ≤ at'
    · by_cases c3 : at' ≤ S.n - size
      · go_enter Try.func56, Try.ntmps56
        go_wp2_with (first | (go_at_call 60; refine R.out.mono ?_; rintro e w' ⟨rfl, rfl⟩) | (go_at_call 45; refine L.out.mono ?_; rintro e w' ⟨rfl, rfl⟩))
        go_ret
        exact ⟨ret_bool (by simp; omega), rfl⟩
      · go_enter Try.func56, Try.ntmps56
        go_wp2_with (first | (go_at_call 60; refine R.out.mono ?_; rintro e w' ⟨rfl, rfl⟩) | (go_at_call 45; refine L.out.mono ?_; rintro e w' ⟨rfl, rfl⟩))
        go_ret
        exact ⟨ret_bool (by have : ¬ (3 ≤ size ∧ 0 ≤ at' ∧ at' ≤ S.n - size) := by omega
                            rw [decide_eq_false this, decide_eq_false (by omega)]), rfl⟩
    · go_enter Try.func56, Try.ntmps56
      go_wp2_with (first | (go_at_call 60; refine R.out.mono ?_; rintro e w' ⟨rfl, rfl⟩))
      go_ret
      exact ⟨ret_bool (by simp; omega), rfl⟩

end Go.Proofs.Ytoccnaebckcfmaa
