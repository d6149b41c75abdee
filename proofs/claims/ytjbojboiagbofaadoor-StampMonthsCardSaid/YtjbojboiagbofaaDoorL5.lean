/- StampBack's walk. -/
import Derived.Test.YtjbojboiagbofaaDoorQ4
set_option linter.unusedSimpArgs false
set_option linter.unusedVariables false
namespace Go.Proofs.YtjbojboiagbofaaDoor
open Go.RowKit Go.Shelf

theorem internalL_len (k j d s : Nat) (hj : j < 12) : (internalL k j d s).length = 26 := by
  have h1 := dgp_len 32 (d + 1)
  have h2 := mon_len j hj
  have h3 : (dg4 (1999 + k)).length = 4 := rfl
  have h4 := clockL_len (s % 86400 / 3600) (s % 3600 / 60) (s % 60)
  unfold internalL
  simp only [List.length_append, List.length_cons, List.length_nil, h1, h2, h3, h4]
theorem headerL_len (k j d s : Nat) (hj : j < 12) : (headerL k j d s).length = 31 := by
  have h1 : (dg2 (d + 1)).length = 2 := rfl
  have h2 := mon_len j hj
  have h3 : (dg4 (1999 + k)).length = 4 := rfl
  have h4 := clockL_len (s % 86400 / 3600) (s % 3600 / 60) (s % 60)
  have h5 := wdl_len ((s / 86400 + 6) % 7) (by omega)
  unfold headerL
  simp only [List.length_append, List.length_cons, List.length_nil, h1, h2, h3, h4, h5]
theorem second_tm (k j d s : Nat) (hs : s < 4294967296) (hD : IsDate (s / 86400 + 365) k j d) {y m dd h mi se wd : Int} (T : Tm k j d s y m dd h mi se wd) (w : World) (hd : Days w) :
    Calls Tryd.prog 16 #[.agg #[.int .i64 y, .int .i64 m, .int .i64 dd, .int .i64 h, .int .i64 mi, .int .i64 se, .int .i64 wd]] w fun e w' => e = .returned (.tuple #[.int .i64 s, .int .i64 0]) ∧ Below w.heap.size w w' := by
  have c := second_any y m dd h mi se wd w hd
  have hv := secV_some (sec_tm k j d s hs hD) (by omega)
  rw [show ((1999 + k : Nat) : Int) = y by have := T.yr.1; omega, show ((j + 1 : Nat) : Int) = m by have := T.mo.1; omega, ← T.da.1, ← T.hr.1, ← T.mn.1, ← T.sc.1] at hv
  rw [hv] at c
  exact c
set_option maxHeartbeats 4000000 in
set_option maxRecDepth 100000 in
theorem back_some (s : Nat) (hs : s < 4294967296) (w : World) (hT : Tabs w) (hw0 : 0 < w.heap.size) : Calls Tryd.prog 5 #[.int .i64 s] w fun e w' => e = .returned (.bool true) ∧ Below w.heap.size w w' := by
  obtain ⟨k, j, d, hD⟩ := date_ex (s / 86400 + 365)
  have cA := fun w hT => of_any s k j d hs hD w hT
  have cH := fun w hT => header_any s k j d hs hD w hT
  have cI := fun w hT => internal_any s k j d hs hD w hT
  obtain ⟨y, m, dd, h, mi, se, wd, T⟩ := tm_ex k j d s hs hD
  have cS := fun w hd => second_tm k j d s hs hD T w hd
  rw [T.eq] at cA
  have cP := fun w hT hw => par_at (internalL k j d s) _ (internal_back k j d s hs hD) (by rw [internalL_len k j d s hD.mon]; omega) w hT hw
  have z1 : (⟨(headerL k j d s).toArray⟩ : ByteArray).size = 31 := headerL_len k j d s hD.mon
  have z2 : (⟨(internalL k j d s).toArray⟩ : ByteArray).size = 26 := internalL_len k j d s hD.mon
  clear T hD
  generalize (⟨(headerL k j d s).toArray⟩ : ByteArray) = sh at *
  generalize (⟨(internalL k j d s).toArray⟩ : ByteArray) = si at *
  go_enter Tryd.func5, Tryd.ntmps5
  go_wp2_with fail
  refine (shown_any _ hT hw0).mono ?_; rintro e w0 ⟨rfl, b0⟩
  have T0 := hT.below b0
  go_wp2_with fail
  refine (cA _ T0.days).mono ?_; rintro e w1 ⟨rfl, b1⟩
  have B1 := below_al (b0.trans (b1.mono b0.size)) (b0.trans (b1.mono b0.size)).size (.cells #[.int .i64 y, .int .i64 m, .int .i64 dd, .int .i64 h, .int .i64 mi, .int .i64 se, .int .i64 wd] 24)
  clear b0 b1 T0
  go_wp2_with fail
  refine (cS _ (hT.below B1).days).mono ?_; rintro e w2 ⟨rfl, b2⟩
  have B2 := B1.trans (b2.mono B1.size)
  clear b2 B1
  go_wp2_with fail
  refine (cI _ (hT.below B2)).mono ?_; rintro e w3 ⟨rfl, b3⟩
  have B3 := B2.trans (b3.mono B2.size)
  clear b3 B2
  go_wp2_with fail
  refine (cP _ (hT.below B3) (Nat.lt_of_lt_of_le hw0 B3.size)).mono ?_; rintro e w4 ⟨rfl, b4⟩
  have B4 := B3.trans (b4.mono B3.size)
  clear b4 B3
  go_wp2_with fail
  refine (cI _ (hT.below B4)).mono ?_; rintro e w5 ⟨rfl, b5⟩
  have B5 := B4.trans (b5.mono B4.size)
  clear b5 B4
  go_wp2_with fail
  refine (cH _ (hT.below B5)).mono ?_; rintro e w6 ⟨rfl, b6⟩
  have B6 := B5.trans (b6.mono B5.size)
  clear b6 B5
  go_wp2
  go_ret
  exact ⟨rfl, B6⟩
set_option maxHeartbeats 4000000 in
set_option maxRecDepth 100000 in
theorem back_none (n : Int) (hn : n < 0 ∨ (¬ n < 0 ∧ 4294967296 ≤ n)) (w : World) (hT : Tabs w) (hw0 : 0 < w.heap.size) : Calls Tryd.prog 5 #[.int .i64 n] w fun e w' => e = .returned (.bool true) ∧ Below w.heap.size w w' := by
  rcases hn with h1 | ⟨h1, h2⟩
  all_goals
    go_enter Tryd.func5, Tryd.ntmps5
    go_wp2_with fail
    refine (shown_any _ hT hw0).mono ?_; rintro e w0 ⟨rfl, b0⟩
    go_wp2
    go_ret
    exact ⟨rfl, b0⟩
theorem back_any (n : Int) (w : World) (bn : -9223372036854775808 ≤ n ∧ n ≤ 9223372036854775807) (hT : Tabs w) (hw0 : 0 < w.heap.size) : Calls Tryd.prog 5 #[.int .i64 n] w fun e w' => e = .returned (.bool true) ∧ Below w.heap.size w w' := by
  by_cases hn : 0 ≤ n ∧ n < 4294967296
  · obtain ⟨s, rfl⟩ : ∃ s : Nat, n = s := ⟨n.toNat, by omega⟩
    exact back_some s (by omega) w hT hw0
  · exact back_none n (by omega) w hT hw0
end Go.Proofs.YtjbojboiagbofaaDoor
