/- Header. -/
import Derived.Test.YtjbojboiagbofaaDoorC17
set_option linter.unusedSimpArgs false
set_option linter.unusedVariables false
namespace Go.Proofs.YtjbojboiagbofaaDoor
open Go.RowKit Go.Shelf

set_option maxHeartbeats 4000000 in
theorem header_any (s k j d : Nat) (hs : s < 4294967296) (hD : IsDate (s / 86400 + 365) k j d) (w : World) (hT : Tabs w) :
    Calls Tryd.prog 12 #[.int .i64 s] w fun e w' => e = .returned (.string ⟨(headerL k j d s).toArray⟩) ∧ Below w.heap.size w w' := by
  have cO := of_any s k j d hs hD w hT.days
  obtain ⟨y, m, dd, h, mi, se, wd, T⟩ := tm_ex k j d s hs hD
  rw [T.eq] at cO
  have c1 := fun w => two_any (d + 1) T.da.2 48 w
  rw [dgp_zero T.da.2] at c1
  rw [← T.da.1] at c1
  have c2 := fun w hT => itoa_year y k T.yr.1 T.yr.2 w hT
  have c3 := fun w => clock_any y m dd h mi se wd _ _ _ T.hr.1 T.mn.1 T.sc.1 T.hr.2 T.mn.2 T.sc.2 w
  have cm : ∀ W, Tabs W → W.cell? ⟨0, j, none⟩ = some (.string ⟨(mon j).toArray⟩) := fun W hW => hW.mons.at j T.mo.2
  have cw : ∀ W, Tabs W → W.cell? ⟨1, (s / 86400 + 6) % 7, none⟩ = some (.string ⟨(wdl ((s / 86400 + 6) % 7)).toArray⟩) := fun W hW => hW.wds.at _ T.wk.2
  have hwd : wd = ((s / 86400 + 6) % 7 : Nat) := T.wk.1
  have hwi : (s / 86400 + 6) % 7 < 7 := T.wk.2
  have hmj : m = j + 1 := T.mo.1
  have hj12 : j < 12 := T.mo.2
  subst hmj
  subst hwd
  unfold headerL
  clear T hD
  have z1 : (⟨(dg2 (d + 1)).toArray⟩ : ByteArray).size = 2 := rfl
  have z2 : (⟨(dg4 (1999 + k)).toArray⟩ : ByteArray).size = 4 := rfl
  have z3 : (⟨(clockL (s % 86400 / 3600) (s % 3600 / 60) (s % 60)).toArray⟩ : ByteArray).size = 14 := rfl
  have z5 : (⟨(wdl ((s / 86400 + 6) % 7)).toArray⟩ : ByteArray).size = 3 := wdl_len _ hwi
  have z4 : (⟨(mon j).toArray⟩ : ByteArray).size = 3 := mon_len j hj12
  simp only [← str_app]
  generalize (⟨(dg2 (d + 1)).toArray⟩ : ByteArray) = s1 at *
  generalize (⟨(dg4 (1999 + k)).toArray⟩ : ByteArray) = s2 at *
  generalize (⟨(clockL (s % 86400 / 3600) (s % 3600 / 60) (s % 60)).toArray⟩ : ByteArray) = s3 at *
  generalize (⟨(mon j).toArray⟩ : ByteArray) = s4 at *
  generalize (⟨(wdl ((s / 86400 + 6) % 7)).toArray⟩ : ByteArray) = s5 at *
  generalize (s / 86400 + 6) % 7 = wk at *
  have i3 : (0 : Int) ≤ wk := by omega
  have i4 : (wk : Int) < 7 := by omega
  have x3 : IntKind.i64.wrap (wk : Int) = wk := wrapI (by omega) (by omega)
  have i1 : (0 : Int) ≤ j := by omega
  have i2 : (j : Int) < 12 := by omega
  have x1 : IntKind.i64.wrap ((j : Int) + 1 - 1) = j := by rw [wrapI (by omega) (by omega)]; omega
  have x2 : IntKind.i64.wrap (j : Int) = j := wrapI (by omega) (by omega)
  go_enter Tryd.func12, Tryd.ntmps12
  go_wp2_with fail
  refine cO.mono ?_; rintro e w1 ⟨rfl, b1⟩
  have T1 := hT.below b1
  have hh0 : (w1.alloc (.cells #[.int .i64 y, .int .i64 (j + 1), .int .i64 dd, .int .i64 h, .int .i64 mi, .int .i64 se, .int .i64 wk] 24)).drew.heap[w1.heap.size]? = some (.cells #[.int .i64 y, .int .i64 (j + 1), .int .i64 dd, .int .i64 h, .int .i64 mi, .int .i64 se, .int .i64 wk] 24) := heap_alloc_new w1 _
  have b0 : Below w1.heap.size w1 (w1.alloc (.cells #[.int .i64 y, .int .i64 (j + 1), .int .i64 dd, .int .i64 h, .int .i64 mi, .int .i64 se, .int .i64 wk] 24)).drew := below_dn _ 1
  have hb0 : Below w.heap.size w (w1.alloc (.cells #[.int .i64 y, .int .i64 (j + 1), .int .i64 dd, .int .i64 h, .int .i64 mi, .int .i64 se, .int .i64 wk] 24)).drew := b1.trans (b0.mono b1.size)
  have hz0 : w1.heap.size < (w1.alloc (.cells #[.int .i64 y, .int .i64 (j + 1), .int .i64 dd, .int .i64 h, .int .i64 mi, .int .i64 se, .int .i64 wk] 24)).drew.heap.size := by show _ < (w1.alloc _).heap.size; simp
  have T0 := T1.below b0
  clear b0 b1 T1 hT
  go_wp2_with fail
  have r0 := cellsT hh0 0 _ rfl
  have r1 := cellsT hh0 1 _ rfl
  have r2 := cellsT hh0 2 _ rfl
  have r3 := cellsT hh0 3 _ rfl
  have r4 := cellsT hh0 4 _ rfl
  have r5 := cellsT hh0 5 _ rfl
  have r6 := cellsT hh0 6 _ rfl
  have rm := cm _ T0
  go_region_held3 (fun W => W.cell? ⟨w1.heap.size, 0, none⟩ = some (.int .i64 y) ∧ W.cell? ⟨w1.heap.size, 1, none⟩ = some (.int .i64 (j + 1)) ∧ W.cell? ⟨w1.heap.size, 2, none⟩ = some (.int .i64 dd) ∧ W.cell? ⟨w1.heap.size, 3, none⟩ = some (.int .i64 h) ∧ W.cell? ⟨w1.heap.size, 4, none⟩ = some (.int .i64 mi) ∧ W.cell? ⟨w1.heap.size, 5, none⟩ = some (.int .i64 se) ∧ W.cell? ⟨w1.heap.size, 6, none⟩ = some (.int .i64 wk) ∧ W.cell? ⟨0, j, none⟩ = some (.string s4)) (go_keep) (first
    | (go_at_call 23; refine (c1 _).mono ?_; rintro e' w2 ⟨rfl, hw2⟩; subst hw2)
    | (go_at_call 24; refine (c2 _ ?_).mono ?_; exact T0.tab; rintro e' w3 ⟨rfl, b3⟩; have H3 := (b3.block _ hz0).trans hh0; have Z3 := Nat.lt_of_lt_of_le hz0 b3.size; have B3 := hb0.trans (b3.mono hb0.size); have T3 := T0.below b3; have r0 := cellsT H3 0 _ rfl; have r1 := cellsT H3 1 _ rfl; have r2 := cellsT H3 2 _ rfl; have r3 := cellsT H3 3 _ rfl; have r4 := cellsT H3 4 _ rfl; have r5 := cellsT H3 5 _ rfl; have r6 := cellsT H3 6 _ rfl; have rm := cm w3 T3))
  have H5 : w3.drew.heap[w1.heap.size]? = some (.cells #[.int .i64 y, .int .i64 (j + 1), .int .i64 dd, .int .i64 h, .int .i64 mi, .int .i64 se, .int .i64 wk] 24) := H3
  have Z5 : w1.heap.size < w3.drew.heap.size := Z3
  have B5 : Below w.heap.size w w3.drew := B3.trans ⟨rfl, rfl, rfl, Nat.le_refl _, fun _ _ => rfl⟩
  have T5 : Tabs w3.drew := T3.below ⟨rfl, rfl, rfl, Nat.le_refl _, fun _ _ => rfl⟩
  clear r0 r1 r2 r3 r4 r5 r6 rm H3 Z3 B3 T3 b3 cm
  have r0 := cellsT H5 0 _ rfl
  have r1 := cellsT H5 1 _ rfl
  have r2 := cellsT H5 2 _ rfl
  have r3 := cellsT H5 3 _ rfl
  have r4 := cellsT H5 4 _ rfl
  have r5 := cellsT H5 5 _ rfl
  have r6 := cellsT H5 6 _ rfl
  have rw1 := cw _ T5
  go_wp2_with fail
  go_region_held3 (fun W => W.cell? ⟨w1.heap.size, 0, none⟩ = some (.int .i64 y) ∧ W.cell? ⟨w1.heap.size, 1, none⟩ = some (.int .i64 (j + 1)) ∧ W.cell? ⟨w1.heap.size, 2, none⟩ = some (.int .i64 dd) ∧ W.cell? ⟨w1.heap.size, 3, none⟩ = some (.int .i64 h) ∧ W.cell? ⟨w1.heap.size, 4, none⟩ = some (.int .i64 mi) ∧ W.cell? ⟨w1.heap.size, 5, none⟩ = some (.int .i64 se) ∧ W.cell? ⟨w1.heap.size, 6, none⟩ = some (.int .i64 wk) ∧ W.cell? ⟨1, wk, none⟩ = some (.string s5)) (go_keep) (first
    | (go_at_call 25; refine (c3 _).mono ?_; rintro e' w4 ⟨rfl, b4⟩; have H4 := (b4.block _ Z5).trans H5; have B4 := B5.trans (b4.mono B5.size); have T4 := T5.below b4; have r0 := cellsT H4 0 _ rfl; have r1 := cellsT H4 1 _ rfl; have r2 := cellsT H4 2 _ rfl; have r3 := cellsT H4 3 _ rfl; have r4 := cellsT H4 4 _ rfl; have r5 := cellsT H4 5 _ rfl; have r6 := cellsT H4 6 _ rfl; have rw1 := cw w4 T4))
  clear r0 r1 r2 r3 r4 r5 r6 rw1 H4 b4 cw
  go_wp2
  go_ret
  refine ⟨ret_str ?_, B4⟩
  simp only [ByteArray.append_assoc]
theorem header_none (n : Int) (hn : ¬ (0 ≤ n ∧ n < 4294967296)) (w : World) :
    Calls Tryd.prog 12 #[.int .i64 n] w fun e w' => e = .returned (.string ⟨#[]⟩) ∧ Below w.heap.size w w' := by
  have cO := of_none n hn w
  unfold noT at cO
  clear hn
  go_enter Tryd.func12, Tryd.ntmps12
  go_wp2_with fail
  refine cO.mono ?_; rintro e w1 ⟨rfl, b1⟩
  go_wp2_with fail
  go_ret
  exact ⟨rfl, b1.alloc b1.size _⟩
end Go.Proofs.YtjbojboiagbofaaDoor
