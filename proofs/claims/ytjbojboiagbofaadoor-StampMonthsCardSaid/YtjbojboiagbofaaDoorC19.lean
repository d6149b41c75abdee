/- The document's Header, Internal. -/
import Derived.Test.YtjbojboiagbofaaDoorC18
set_option linter.unusedSimpArgs false
set_option linter.unusedVariables false
namespace Go.Proofs.YtjbojboiagbofaaDoor
open Go.RowKit Go.Shelf

set_option maxHeartbeats 4000000 in
theorem rheader_any (s k j d : Nat) (hs : s < 4294967296) (hD : IsDate (s / 86400 + 365) k j d) (w : World) :
    Calls Tryd.prog 13 #[.int .i64 s] w fun e w' => e = .returned (.string ⟨(headerL k j d s).toArray⟩) ∧ Below w.heap.size w w' := by
  have cO := rof_any s k j d hs hD w
  obtain ⟨y, m, dd, h, mi, se, wd, T⟩ := tm_ex k j d s hs hD
  rw [T.eq] at cO
  have c1 := fun w => wide_two (d + 1) T.da.2 w
  rw [← T.da.1] at c1
  have c2 := fun w => wide_year y k T.yr.1 T.yr.2 w
  have c3 := fun w => rclock_any y m dd h mi se wd _ _ _ T.hr.1 T.mn.1 T.sc.1 T.hr.2 T.mn.2 T.sc.2 w
  have cm := fun w => month_any m j T.mo.1 T.mo.2 w
  have cw := fun w => weekday_any wd _ T.wk.1 T.wk.2 w
  have hj12 : j < 12 := T.mo.2
  have hwi := T.wk.2
  unfold headerL
  clear T hD
  have z1 : (⟨(dg2 (d + 1)).toArray⟩ : ByteArray).size = 2 := rfl
  have z2 : (⟨(dg4 (1999 + k)).toArray⟩ : ByteArray).size = 4 := rfl
  have z3 : (⟨(clockL (s % 86400 / 3600) (s % 3600 / 60) (s % 60)).toArray⟩ : ByteArray).size = 14 := rfl
  have z4 : (⟨(mon j).toArray⟩ : ByteArray).size = 3 := mon_len j hj12
  have z5 : (⟨(wdl ((s / 86400 + 6) % 7)).toArray⟩ : ByteArray).size = 3 := wdl_len _ hwi
  simp only [← str_app]
  generalize (⟨(dg2 (d + 1)).toArray⟩ : ByteArray) = s1 at *
  generalize (⟨(dg4 (1999 + k)).toArray⟩ : ByteArray) = s2 at *
  generalize (⟨(clockL (s % 86400 / 3600) (s % 3600 / 60) (s % 60)).toArray⟩ : ByteArray) = s3 at *
  generalize (⟨(mon j).toArray⟩ : ByteArray) = s4 at *
  generalize (⟨(wdl ((s / 86400 + 6) % 7)).toArray⟩ : ByteArray) = s5 at *
  clear hwi hj12
  go_enter Tryd.func13, Tryd.ntmps13
  go_wp2_with fail
  refine cO.mono ?_; rintro e w1 ⟨rfl, b1⟩
  have H0 : (w1.alloc (.cells #[.int .i64 y, .int .i64 m, .int .i64 dd, .int .i64 h, .int .i64 mi, .int .i64 se, .int .i64 wd] 24)).drew.heap[w1.heap.size]? = some (.cells #[.int .i64 y, .int .i64 m, .int .i64 dd, .int .i64 h, .int .i64 mi, .int .i64 se, .int .i64 wd] 24) := heap_alloc_new w1 _
  have b0 : Below w1.heap.size w1 (w1.alloc (.cells #[.int .i64 y, .int .i64 m, .int .i64 dd, .int .i64 h, .int .i64 mi, .int .i64 se, .int .i64 wd] 24)).drew := below_dn _ 1
  have B0 : Below w.heap.size w (w1.alloc (.cells #[.int .i64 y, .int .i64 m, .int .i64 dd, .int .i64 h, .int .i64 mi, .int .i64 se, .int .i64 wd] 24)).drew := b1.trans (b0.mono b1.size)
  have Z0 : w1.heap.size < (w1.alloc (.cells #[.int .i64 y, .int .i64 m, .int .i64 dd, .int .i64 h, .int .i64 mi, .int .i64 se, .int .i64 wd] 24)).drew.heap.size := by show _ < (w1.alloc _).heap.size; simp
  clear b0 b1
  go_wp2_with fail
  have r0 := cellsT H0 0 _ rfl
  have r1 := cellsT H0 1 _ rfl
  have r2 := cellsT H0 2 _ rfl
  have r3 := cellsT H0 3 _ rfl
  have r4 := cellsT H0 4 _ rfl
  have r5 := cellsT H0 5 _ rfl
  have r6 := cellsT H0 6 _ rfl
  go_region_held3 (fun W => W.cell? ⟨w1.heap.size, 0, none⟩ = some (.int .i64 y) ∧ W.cell? ⟨w1.heap.size, 1, none⟩ = some (.int .i64 m) ∧ W.cell? ⟨w1.heap.size, 2, none⟩ = some (.int .i64 dd) ∧ W.cell? ⟨w1.heap.size, 3, none⟩ = some (.int .i64 h) ∧ W.cell? ⟨w1.heap.size, 4, none⟩ = some (.int .i64 mi) ∧ W.cell? ⟨w1.heap.size, 5, none⟩ = some (.int .i64 se) ∧ W.cell? ⟨w1.heap.size, 6, none⟩ = some (.int .i64 wd)) (go_keep) (first
    | (go_at_call 26; refine (cw _).mono ?_; rintro e' w2 ⟨rfl, hw2⟩; subst hw2)
    | (go_at_call_of 27 (Value.int IntKind.i64 dd); refine (c1 _).mono ?_; rintro e' w3 ⟨rfl, b3⟩; have H3 := (b3.block _ Z0).trans H0; have Z3 := Nat.lt_of_lt_of_le Z0 b3.size; have B3 := B0.trans (b3.mono B0.size); have r0 := cellsT H3 0 _ rfl; have r1 := cellsT H3 1 _ rfl; have r2 := cellsT H3 2 _ rfl; have r3 := cellsT H3 3 _ rfl; have r4 := cellsT H3 4 _ rfl; have r5 := cellsT H3 5 _ rfl; have r6 := cellsT H3 6 _ rfl)
    | (go_at_call 28; refine (cm _).mono ?_; rintro e' w4 ⟨rfl, hw4⟩; subst hw4)
    | (go_at_call_of 27 (Value.int IntKind.i64 y); refine (c2 _).mono ?_; rintro e' w5 ⟨rfl, b5⟩; have H5 := (b5.block _ Z3).trans H3; have Z5 := Nat.lt_of_lt_of_le Z3 b5.size; have B5 := B3.trans (b5.mono B3.size); have r0 := cellsT H5 0 _ rfl; have r1 := cellsT H5 1 _ rfl; have r2 := cellsT H5 2 _ rfl; have r3 := cellsT H5 3 _ rfl; have r4 := cellsT H5 4 _ rfl; have r5 := cellsT H5 5 _ rfl; have r6 := cellsT H5 6 _ rfl)
    | (go_at_call 29; refine (c3 _).mono ?_; rintro e' w6 ⟨rfl, b6⟩; have H6 := (b6.block _ Z5).trans H5; have Z6 := Nat.lt_of_lt_of_le Z5 b6.size; have B6 := B5.trans (b6.mono B5.size); have r0 := cellsT H6 0 _ rfl; have r1 := cellsT H6 1 _ rfl; have r2 := cellsT H6 2 _ rfl; have r3 := cellsT H6 3 _ rfl; have r4 := cellsT H6 4 _ rfl; have r5 := cellsT H6 5 _ rfl; have r6 := cellsT H6 6 _ rfl))
  clear r0 r1 r2 r3 r4 r5 r6 H3 H5 H6 b3 b5 b6
  go_wp2
  go_ret
  refine ⟨ret_str ?_, B6⟩
  simp only [ByteArray.append_assoc]
set_option maxHeartbeats 4000000 in
theorem rinternal_s (s k j d : Nat) (hs : s < 4294967296) (hD : IsDate (s / 86400 + 365) k j d) (hd : d + 1 < 10) (w : World) :
    Calls Tryd.prog 15 #[.int .i64 s] w fun e w' => e = .returned (.string ⟨(internalL k j d s).toArray⟩) ∧ Below w.heap.size w w' := by
  have cO := rof_any s k j d hs hD w
  obtain ⟨y, m, dd, h, mi, se, wd, T⟩ := tm_ex k j d s hs hD
  rw [T.eq] at cO
  have c1 := fun w => rdigits_any (d + 1) (by have := T.da.2; omega) w
  rw [← T.da.1, digs_small hd] at c1
  have c2 := fun w => wide_year y k T.yr.1 T.yr.2 w
  have c3 := fun w => rclock_any y m dd h mi se wd _ _ _ T.hr.1 T.mn.1 T.sc.1 T.hr.2 T.mn.2 T.sc.2 w
  have cm := fun w => month_any m j T.mo.1 T.mo.2 w
  have hj12 : j < 12 := T.mo.2
  have hdd : dd < 10 := by have := T.da.1; omega
  unfold internalL
  rw [show dgp 32 (d + 1) = [32] ++ [UInt8.ofNat (48 + (d + 1))] by unfold dgp dgt; rw [if_pos hd, Nat.mod_eq_of_lt hd]; rfl]
  clear T hD hd
  have z1 : (⟨[UInt8.ofNat (48 + (d + 1))].toArray⟩ : ByteArray).size = 1 := rfl
  have z2 : (⟨(dg4 (1999 + k)).toArray⟩ : ByteArray).size = 4 := rfl
  have z3 : (⟨(clockL (s % 86400 / 3600) (s % 3600 / 60) (s % 60)).toArray⟩ : ByteArray).size = 14 := rfl
  have z4 : (⟨(mon j).toArray⟩ : ByteArray).size = 3 := mon_len j hj12
  simp only [← str_app]
  generalize (⟨[UInt8.ofNat (48 + (d + 1))].toArray⟩ : ByteArray) = s1 at *
  generalize (⟨(dg4 (1999 + k)).toArray⟩ : ByteArray) = s2 at *
  generalize (⟨(clockL (s % 86400 / 3600) (s % 3600 / 60) (s % 60)).toArray⟩ : ByteArray) = s3 at *
  generalize (⟨(mon j).toArray⟩ : ByteArray) = s4 at *
  clear hj12
  go_enter Tryd.func15, Tryd.ntmps15
  go_wp2_with fail
  refine cO.mono ?_; rintro e w1 ⟨rfl, b1⟩
  have H9 : (w1.alloc (.cells #[.int .i64 y, .int .i64 m, .int .i64 dd, .int .i64 h, .int .i64 mi, .int .i64 se, .int .i64 wd] 24)).heap[w1.heap.size]? = some (.cells #[.int .i64 y, .int .i64 m, .int .i64 dd, .int .i64 h, .int .i64 mi, .int .i64 se, .int .i64 wd] 24) := heap_alloc_new w1 _
  have b9 : Below w1.heap.size w1 (w1.alloc (.cells #[.int .i64 y, .int .i64 m, .int .i64 dd, .int .i64 h, .int .i64 mi, .int .i64 se, .int .i64 wd] 24)) := (Below.refl _ _).alloc (Nat.le_refl _) _
  have B9 : Below w.heap.size w (w1.alloc (.cells #[.int .i64 y, .int .i64 m, .int .i64 dd, .int .i64 h, .int .i64 mi, .int .i64 se, .int .i64 wd] 24)) := b1.trans (b9.mono b1.size)
  have Z9 : w1.heap.size < (w1.alloc (.cells #[.int .i64 y, .int .i64 m, .int .i64 dd, .int .i64 h, .int .i64 mi, .int .i64 se, .int .i64 wd] 24)).heap.size := by simp
  clear b9 b1
  go_wp2_with fail
  refine (c1 _).mono ?_; rintro e w2 ⟨rfl, b2⟩
  have H0 : w2.drew.heap[w1.heap.size]? = some (.cells #[.int .i64 y, .int .i64 m, .int .i64 dd, .int .i64 h, .int .i64 mi, .int .i64 se, .int .i64 wd] 24) := (b2.block _ Z9).trans H9
  have Z0 : w1.heap.size < w2.drew.heap.size := Nat.lt_of_lt_of_le Z9 b2.size
  have B0 : Below w.heap.size w w2.drew := (B9.trans (b2.mono B9.size)).trans ⟨rfl, rfl, rfl, Nat.le_refl _, fun _ _ => rfl⟩
  have H8 : w2.heap[w1.heap.size]? = some (.cells #[.int .i64 y, .int .i64 m, .int .i64 dd, .int .i64 h, .int .i64 mi, .int .i64 se, .int .i64 wd] 24) := (b2.block _ Z9).trans H9
  have u2 := cellsT H8 2 _ rfl
  clear b2 B9 Z9 H9 H8
  have r0 := cellsT H0 0 _ rfl
  have r1 := cellsT H0 1 _ rfl
  have r2 := cellsT H0 2 _ rfl
  have r3 := cellsT H0 3 _ rfl
  have r4 := cellsT H0 4 _ rfl
  have r5 := cellsT H0 5 _ rfl
  have r6 := cellsT H0 6 _ rfl
  go_wp2_with fail
  go_region_held3 (fun W => W.cell? ⟨w1.heap.size, 0, none⟩ = some (.int .i64 y) ∧ W.cell? ⟨w1.heap.size, 1, none⟩ = some (.int .i64 m) ∧ W.cell? ⟨w1.heap.size, 2, none⟩ = some (.int .i64 dd) ∧ W.cell? ⟨w1.heap.size, 3, none⟩ = some (.int .i64 h) ∧ W.cell? ⟨w1.heap.size, 4, none⟩ = some (.int .i64 mi) ∧ W.cell? ⟨w1.heap.size, 5, none⟩ = some (.int .i64 se) ∧ W.cell? ⟨w1.heap.size, 6, none⟩ = some (.int .i64 wd)) (go_keep) (first
    | (go_at_call 28; refine (cm _).mono ?_; rintro e' w4 ⟨rfl, hw4⟩; subst hw4)
    | (go_at_call_of 27 (Value.int IntKind.i64 y); refine (c2 _).mono ?_; rintro e' w5 ⟨rfl, b5⟩; have H5 := (b5.block _ Z0).trans H0; have Z5 := Nat.lt_of_lt_of_le Z0 b5.size; have B5 := B0.trans (b5.mono B0.size); have r0 := cellsT H5 0 _ rfl; have r1 := cellsT H5 1 _ rfl; have r2 := cellsT H5 2 _ rfl; have r3 := cellsT H5 3 _ rfl; have r4 := cellsT H5 4 _ rfl; have r5 := cellsT H5 5 _ rfl; have r6 := cellsT H5 6 _ rfl)
    | (go_at_call 29; refine (c3 _).mono ?_; rintro e' w6 ⟨rfl, b6⟩; have H6 := (b6.block _ Z5).trans H5; have Z6 := Nat.lt_of_lt_of_le Z5 b6.size; have B6 := B5.trans (b6.mono B5.size); have r0 := cellsT H6 0 _ rfl; have r1 := cellsT H6 1 _ rfl; have r2 := cellsT H6 2 _ rfl; have r3 := cellsT H6 3 _ rfl; have r4 := cellsT H6 4 _ rfl; have r5 := cellsT H6 5 _ rfl; have r6 := cellsT H6 6 _ rfl))
  clear r0 r1 r2 r3 r4 r5 r6 H5 H6 b5 b6
  go_wp2
  go_ret
  refine ⟨ret_str ?_, B6⟩
  simp only [ByteArray.append_assoc]
set_option maxHeartbeats 4000000 in
theorem rinternal_b (s k j d : Nat) (hs : s < 4294967296) (hD : IsDate (s / 86400 + 365) k j d) (hd : ¬ d + 1 < 10) (w : World) :
    Calls Tryd.prog 15 #[.int .i64 s] w fun e w' => e = .returned (.string ⟨(internalL k j d s).toArray⟩) ∧ Below w.heap.size w w' := by
  have cO := rof_any s k j d hs hD w
  obtain ⟨y, m, dd, h, mi, se, wd, T⟩ := tm_ex k j d s hs hD
  rw [T.eq] at cO
  have c1 := fun w => rdigits_any (d + 1) (by have := T.da.2; omega) w
  rw [← T.da.1, digs_two (by omega) T.da.2] at c1
  have c2 := fun w => wide_year y k T.yr.1 T.yr.2 w
  have c3 := fun w => rclock_any y m dd h mi se wd _ _ _ T.hr.1 T.mn.1 T.sc.1 T.hr.2 T.mn.2 T.sc.2 w
  have cm := fun w => month_any m j T.mo.1 T.mo.2 w
  have hj12 : j < 12 := T.mo.2
  have hdd : ¬ dd < 10 := by have := T.da.1; omega
  unfold internalL
  rw [show dgp 32 (d + 1) = dg2 (d + 1) by unfold dgp; rw [if_neg hd]]
  clear T hD hd
  have z1 : (⟨(dg2 (d + 1)).toArray⟩ : ByteArray).size = 2 := rfl
  have z2 : (⟨(dg4 (1999 + k)).toArray⟩ : ByteArray).size = 4 := rfl
  have z3 : (⟨(clockL (s % 86400 / 3600) (s % 3600 / 60) (s % 60)).toArray⟩ : ByteArray).size = 14 := rfl
  have z4 : (⟨(mon j).toArray⟩ : ByteArray).size = 3 := mon_len j hj12
  simp only [← str_app]
  generalize (⟨(dg2 (d + 1)).toArray⟩ : ByteArray) = s1 at *
  generalize (⟨(dg4 (1999 + k)).toArray⟩ : ByteArray) = s2 at *
  generalize (⟨(clockL (s % 86400 / 3600) (s % 3600 / 60) (s % 60)).toArray⟩ : ByteArray) = s3 at *
  generalize (⟨(mon j).toArray⟩ : ByteArray) = s4 at *
  clear hj12
  go_enter Tryd.func15, Tryd.ntmps15
  go_wp2_with fail
  refine cO.mono ?_; rintro e w1 ⟨rfl, b1⟩
  have H9 : (w1.alloc (.cells #[.int .i64 y, .int .i64 m, .int .i64 dd, .int .i64 h, .int .i64 mi, .int .i64 se, .int .i64 wd] 24)).heap[w1.heap.size]? = some (.cells #[.int .i64 y, .int .i64 m, .int .i64 dd, .int .i64 h, .int .i64 mi, .int .i64 se, .int .i64 wd] 24) := heap_alloc_new w1 _
  have b9 : Below w1.heap.size w1 (w1.alloc (.cells #[.int .i64 y, .int .i64 m, .int .i64 dd, .int .i64 h, .int .i64 mi, .int .i64 se, .int .i64 wd] 24)) := (Below.refl _ _).alloc (Nat.le_refl _) _
  have B9 : Below w.heap.size w (w1.alloc (.cells #[.int .i64 y, .int .i64 m, .int .i64 dd, .int .i64 h, .int .i64 mi, .int .i64 se, .int .i64 wd] 24)) := b1.trans (b9.mono b1.size)
  have Z9 : w1.heap.size < (w1.alloc (.cells #[.int .i64 y, .int .i64 m, .int .i64 dd, .int .i64 h, .int .i64 mi, .int .i64 se, .int .i64 wd] 24)).heap.size := by simp
  clear b9 b1
  go_wp2_with fail
  refine (c1 _).mono ?_; rintro e w2 ⟨rfl, b2⟩
  have H0 : w2.drew.heap[w1.heap.size]? = some (.cells #[.int .i64 y, .int .i64 m, .int .i64 dd, .int .i64 h, .int .i64 mi, .int .i64 se, .int .i64 wd] 24) := (b2.block _ Z9).trans H9
  have Z0 : w1.heap.size < w2.drew.heap.size := Nat.lt_of_lt_of_le Z9 b2.size
  have B0 : Below w.heap.size w w2.drew := (B9.trans (b2.mono B9.size)).trans ⟨rfl, rfl, rfl, Nat.le_refl _, fun _ _ => rfl⟩
  have H8 : w2.heap[w1.heap.size]? = some (.cells #[.int .i64 y, .int .i64 m, .int .i64 dd, .int .i64 h, .int .i64 mi, .int .i64 se, .int .i64 wd] 24) := (b2.block _ Z9).trans H9
  have u2 := cellsT H8 2 _ rfl
  clear b2 B9 Z9 H9 H8
  have r0 := cellsT H0 0 _ rfl
  have r1 := cellsT H0 1 _ rfl
  have r2 := cellsT H0 2 _ rfl
  have r3 := cellsT H0 3 _ rfl
  have r4 := cellsT H0 4 _ rfl
  have r5 := cellsT H0 5 _ rfl
  have r6 := cellsT H0 6 _ rfl
  go_wp2_with fail
  go_region_held3 (fun W => W.cell? ⟨w1.heap.size, 0, none⟩ = some (.int .i64 y) ∧ W.cell? ⟨w1.heap.size, 1, none⟩ = some (.int .i64 m) ∧ W.cell? ⟨w1.heap.size, 2, none⟩ = some (.int .i64 dd) ∧ W.cell? ⟨w1.heap.size, 3, none⟩ = some (.int .i64 h) ∧ W.cell? ⟨w1.heap.size, 4, none⟩ = some (.int .i64 mi) ∧ W.cell? ⟨w1.heap.size, 5, none⟩ = some (.int .i64 se) ∧ W.cell? ⟨w1.heap.size, 6, none⟩ = some (.int .i64 wd)) (go_keep) (first
    | (go_at_call 28; refine (cm _).mono ?_; rintro e' w4 ⟨rfl, hw4⟩; subst hw4)
    | (go_at_call_of 27 (Value.int IntKind.i64 y); refine (c2 _).mono ?_; rintro e' w5 ⟨rfl, b5⟩; have H5 := (b5.block _ Z0).trans H0; have Z5 := Nat.lt_of_lt_of_le Z0 b5.size; have B5 := B0.trans (b5.mono B0.size); have r0 := cellsT H5 0 _ rfl; have r1 := cellsT H5 1 _ rfl; have r2 := cellsT H5 2 _ rfl; have r3 := cellsT H5 3 _ rfl; have r4 := cellsT H5 4 _ rfl; have r5 := cellsT H5 5 _ rfl; have r6 := cellsT H5 6 _ rfl)
    | (go_at_call 29; refine (c3 _).mono ?_; rintro e' w6 ⟨rfl, b6⟩; have H6 := (b6.block _ Z5).trans H5; have Z6 := Nat.lt_of_lt_of_le Z5 b6.size; have B6 := B5.trans (b6.mono B5.size); have r0 := cellsT H6 0 _ rfl; have r1 := cellsT H6 1 _ rfl; have r2 := cellsT H6 2 _ rfl; have r3 := cellsT H6 3 _ rfl; have r4 := cellsT H6 4 _ rfl; have r5 := cellsT H6 5 _ rfl; have r6 := cellsT H6 6 _ rfl))
  clear r0 r1 r2 r3 r4 r5 r6 H5 H6 b5 b6
  go_wp2
  go_ret
  refine ⟨ret_str ?_, B6⟩
  simp only [ByteArray.append_assoc]
theorem rinternal_any (s k j d : Nat) (hs : s < 4294967296) (hD : IsDate (s / 86400 + 365) k j d) (w : World) :
    Calls Tryd.prog 15 #[.int .i64 s] w fun e w' => e = .returned (.string ⟨(internalL k j d s).toArray⟩) ∧ Below w.heap.size w w' := by
  by_cases hd : d + 1 < 10
  · exact rinternal_s s k j d hs hD hd w
  · exact rinternal_b s k j d hs hD hd w
theorem rinternal_none (n : Int) (hn : ¬ (0 ≤ n ∧ n < 4294967296)) (w : World) :
    Calls Tryd.prog 15 #[.int .i64 n] w fun e w' => e = .returned (.string ⟨#[]⟩) ∧ Below w.heap.size w w' := by
  have cO := rof_none n hn w
  unfold noT at cO
  clear hn
  go_enter Tryd.func15, Tryd.ntmps15
  go_wp2_with fail
  refine cO.mono ?_; rintro e w1 ⟨rfl, b1⟩
  go_wp2_with fail
  go_ret
  exact ⟨rfl, b1.alloc b1.size _⟩
theorem rheader_none (n : Int) (hn : ¬ (0 ≤ n ∧ n < 4294967296)) (w : World) :
    Calls Tryd.prog 13 #[.int .i64 n] w fun e w' => e = .returned (.string ⟨#[]⟩) ∧ Below w.heap.size w w' := by
  have cO := rof_none n hn w
  unfold noT at cO
  clear hn
  go_enter Tryd.func13, Tryd.ntmps13
  go_wp2_with fail
  refine cO.mono ?_; rintro e w1 ⟨rfl, b1⟩
  go_wp2_with fail
  go_ret
  exact ⟨rfl, b1.alloc b1.size _⟩
end Go.Proofs.YtjbojboiagbofaaDoor
