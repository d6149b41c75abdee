/- WalArgs, walked where there is no room for the log -/
import Derived.Test.YtfkpehefofihmaaA0
set_option linter.unusedSimpArgs false
set_option linter.unusedVariables false
set_option maxRecDepth 8000
namespace Go.Proofs.Ytfkpehefofihmaa
open Go.RowKit

set_option maxHeartbeats 2000000 in
theorem args_no (w : World) (n at' many : Int) (h : n < 1 ∨ 8192 < n) :
    Calls Try.prog 4 #[.int .i64 n, .int .i64 at', .int .i64 many] w fun e w' => e = .returned (.bool true) ∧ Only [] w w' := by
  have SH := Lib.hid (shown_any w)
  go_enter Try.func4, Try.ntmps4
  go_wp2_with fail
  refine SH.out.mono ?_
  rintro e w1 ⟨rfl, o1⟩
  have NE := Lib.hid (new_no w1 n h)
  have O1 := Lib.hid o1
  clear SH o1 h
  go_wp2_with (go_at_call 23; refine NE.out.mono ?_; rintro e w' ⟨rfl, rfl⟩)
  go_ret
  exact ⟨rfl, O1.out⟩

set_option maxHeartbeats 4000000 in
theorem args_b1 (w : World) (n at' many : Int) (h1 : 1 ≤ n) (h2 : n ≤ 8192) (a0 : -9223372036854775808 ≤ at') (a1 : at' ≤ 9223372036854775807) (m0 : -9223372036854775808 ≤ many) (m1 : many ≤ 9223372036854775807) (hm : many < 3) :
    Calls Try.prog 4 #[.int .i64 n, .int .i64 at', .int .i64 many] w fun e w' => e = .returned (.bool true) ∧ Only [] w w' := by
  have SH := Lib.hid (shown_any w)
  go_enter Try.func4, Try.ntmps4
  go_wp2_with fail
  refine SH.out.mono ?_
  rintro e w1 ⟨rfl, o1⟩
  have NE := Lib.hid (has_new ((Has.start w).later o1) n h1 h2)
  clear SH o1
  go_wp2_with fail
  refine NE.out.mono ?_
  rintro e w2 ⟨b, F, rfl, hh⟩
  have RO := Lib.hid (room_any many w2 m1)
  have OP := Lib.hid (open_no hh.dat at' many a0 a1 m0 m1 (by simp only [St.new]; omega))
  have FO := Lib.hid (format_no hh.dat at' many a0 a1 m0 m1 (by simp only [St.new]; omega))
  have O := Lib.hid hh.only
  clear NE hh
  go_wp2_with (first | (go_at_call 24; refine RO.out.mono ?_; rintro e w' ⟨rfl, rfl⟩) | (go_at_call 17; refine OP.out.mono ?_; rintro e w' ⟨rfl, rfl⟩) | (go_at_call 20; refine FO.out.mono ?_; rintro e w' ⟨rfl, rfl⟩))
  go_ret
  exact ⟨rfl, O.out⟩

set_option maxHeartbeats 4000000 in
theorem args_b2 (w : World) (n at' many : Int) (h1 : 1 ≤ n) (h2 : n ≤ 8192) (a0 : -9223372036854775808 ≤ at') (a1 : at' ≤ 9223372036854775807) (m0 : -9223372036854775808 ≤ many) (m1 : many ≤ 9223372036854775807) (hm : 3 ≤ many) (ha : at' < 0) :
    Calls Try.prog 4 #[.int .i64 n, .int .i64 at', .int .i64 many] w fun e w' => e = .returned (.bool true) ∧ Only [] w w' := by
  have SH := Lib.hid (shown_any w)
  obtain ⟨f1, f2, f3, f4, f5⟩ := room_facts (m := many) (by omega) (by omega)
  go_enter Try.func4, Try.ntmps4
  go_wp2_with fail
  refine SH.out.mono ?_
  rintro e w1 ⟨rfl, o1⟩
  have NE := Lib.hid (has_new ((Has.start w).later o1) n h1 h2)
  clear SH o1
  go_wp2_with fail
  refine NE.out.mono ?_
  rintro e w2 ⟨b, F, rfl, hh⟩
  have RO := Lib.hid (room_any many w2 m1)
  have OP := Lib.hid (open_no hh.dat at' many a0 a1 m0 m1 (by simp only [St.new]; omega))
  have FO := Lib.hid (format_no hh.dat at' many a0 a1 m0 m1 (by simp only [St.new]; omega))
  have O := Lib.hid hh.only
  clear NE hh
  go_wp2_with (first | (go_at_call 24; refine RO.out.mono ?_; rintro e w' ⟨rfl, rfl⟩) | (go_at_call 17; refine OP.out.mono ?_; rintro e w' ⟨rfl, rfl⟩) | (go_at_call 20; refine FO.out.mono ?_; rintro e w' ⟨rfl, rfl⟩))
  go_ret
  exact ⟨rfl, O.out⟩

set_option maxHeartbeats 4000000 in
theorem args_b3 (w : World) (n at' many : Int) (h1 : 1 ≤ n) (h2 : n ≤ 8192) (a0 : -9223372036854775808 ≤ at') (a1 : at' ≤ 9223372036854775807) (m0 : -9223372036854775808 ≤ many) (m1 : many ≤ 9223372036854775807) (hm : 3 ≤ many) (ha : 0 ≤ at') (hn : n < many) :
    Calls Try.prog 4 #[.int .i64 n, .int .i64 at', .int .i64 many] w fun e w' => e = .returned (.bool true) ∧ Only [] w w' := by
  have SH := Lib.hid (shown_any w)
  obtain ⟨f1, f2, f3, f4, f5⟩ := room_facts (m := many) (by omega) (by omega)
  go_enter Try.func4, Try.ntmps4
  go_wp2_with fail
  refine SH.out.mono ?_
  rintro e w1 ⟨rfl, o1⟩
  have NE := Lib.hid (has_new ((Has.start w).later o1) n h1 h2)
  clear SH o1
  go_wp2_with fail
  refine NE.out.mono ?_
  rintro e w2 ⟨b, F, rfl, hh⟩
  have RO := Lib.hid (room_any many w2 m1)
  have OP := Lib.hid (open_no hh.dat at' many a0 a1 m0 m1 (by simp only [St.new]; omega))
  have FO := Lib.hid (format_no hh.dat at' many a0 a1 m0 m1 (by simp only [St.new]; omega))
  have O := Lib.hid hh.only
  clear NE hh
  go_wp2_with (first | (go_at_call 24; refine RO.out.mono ?_; rintro e w' ⟨rfl, rfl⟩) | (go_at_call 17; refine OP.out.mono ?_; rintro e w' ⟨rfl, rfl⟩) | (go_at_call 20; refine FO.out.mono ?_; rintro e w' ⟨rfl, rfl⟩))
  go_ret
  exact ⟨rfl, O.out⟩

set_option maxHeartbeats 4000000 in
theorem args_b4 (w : World) (n at' many : Int) (h1 : 1 ≤ n) (h2 : n ≤ 8192) (a0 : -9223372036854775808 ≤ at') (a1 : at' ≤ 9223372036854775807) (m0 : -9223372036854775808 ≤ many) (m1 : many ≤ 9223372036854775807) (hm : 3 ≤ many) (ha : 0 ≤ at') (hn : many ≤ n) (hx : n - many < at') :
    Calls Try.prog 4 #[.int .i64 n, .int .i64 at', .int .i64 many] w fun e w' => e = .returned (.bool true) ∧ Only [] w w' := by
  have SH := Lib.hid (shown_any w)
  obtain ⟨f1, f2, f3, f4, f5⟩ := room_facts (m := many) (by omega) (by omega)
  have hdf : decide (at' ≤ n - many) = false := decide_eq_false (by omega)
  go_enter Try.func4, Try.ntmps4
  go_wp2_with fail
  refine SH.out.mono ?_
  rintro e w1 ⟨rfl, o1⟩
  have NE := Lib.hid (has_new ((Has.start w).later o1) n h1 h2)
  clear SH o1
  go_wp2_with fail
  refine NE.out.mono ?_
  rintro e w2 ⟨b, F, rfl, hh⟩
  have RO := Lib.hid (room_any many w2 m1)
  have OP := Lib.hid (open_no hh.dat at' many a0 a1 m0 m1 (by simp only [St.new]; omega))
  have FO := Lib.hid (format_no hh.dat at' many a0 a1 m0 m1 (by simp only [St.new]; omega))
  have O := Lib.hid hh.only
  clear NE hh
  go_wp2_with (first | (go_at_call 24; refine RO.out.mono ?_; rintro e w' ⟨rfl, rfl⟩) | (go_at_call 17; refine OP.out.mono ?_; rintro e w' ⟨rfl, rfl⟩) | (go_at_call 20; refine FO.out.mono ?_; rintro e w' ⟨rfl, rfl⟩))
  go_ret
  exact ⟨rfl, O.out⟩



end Go.Proofs.Ytfkpehefofihmaa
