/- The document's Parse: a text of the form (two digits). -/
import Derived.Test.YtjbojboiagbofaaDoorC31
set_option linter.unusedSimpArgs false
set_option linter.unusedVariables false
namespace Go.Proofs.YtjbojboiagbofaaDoor
open Go.RowKit Go.Shelf

set_option maxHeartbeats 4000000 in
set_option maxRecDepth 20000 in
theorem rparse_yes_d43 (l : List UInt8) (hM : marksR l) (hB : digsR l) (h0 : at0 l 0 ≠ 32) (hs : at0 l 21 = 43) (w : World) :
    Calls Tryd.prog 19 #[.string ⟨l.toArray⟩] w fun e w' => e = .returned (.tuple #[.int .i64 (secZ (dV (sl l 7 11)) (monV (sl l 3 6)) (dV (sl l 0 2)) (dV (sl l 12 14)) (dV (sl l 15 17)) (dV (sl l 18 20)) (3600 * (dV (sl l 22 24) : Int) + 60 * dV (sl l 24 26))).1, .int .i64 (secZ (dV (sl l 7 11)) (monV (sl l 3 6)) (dV (sl l 0 2)) (dV (sl l 12 14)) (dV (sl l 15 17)) (dV (sl l 18 20)) (3600 * (dV (sl l 22 24) : Int) + 60 * dV (sl l 24 26))).2]) ∧ Below w.heap.size w w' := by
  obtain ⟨hlen, e0, e1, e2, e3, e4, e5, e6⟩ := hM
  have hz : (⟨l.toArray⟩ : ByteArray).size = 26 := hlen
  have A := str_at l
  have X := str_sl l
  have a0 := A 0
  have a2 := A 2
  have a6 := A 6
  have a11 := A 11
  have a14 := A 14
  have a17 := A 17
  have a20 := A 20
  have a21 := A 21
  have n2 : (at0 l 2).toNat = 45 := by rw [e0]; rfl
  have n6 : (at0 l 6).toNat = 45 := by rw [e1]; rfl
  have n11 : (at0 l 11).toNat = 32 := by rw [e2]; rfl
  have n14 : (at0 l 14).toNat = 58 := by rw [e3]; rfl
  have n17 : (at0 l 17).toNat = 58 := by rw [e4]; rfl
  have n20 : (at0 l 20).toNat = 32 := by rw [e5]; rfl
  have x0 := X 0 2
  have x1 := X 1 2
  have x36 := X 3 6
  have x7 := X 7 11
  have x12 := X 12 14
  have x15 := X 15 17
  have x18 := X 18 20
  have x22 := X 22 24
  have x24 := X 24 26
  have c7 := fun w => rdig_any (sl l 7 11) (by have := sl_len l 7 11; omega) w
  have c12 := fun w => rdig_any (sl l 12 14) (by have := sl_len l 12 14; omega) w
  have c15 := fun w => rdig_any (sl l 15 17) (by have := sl_len l 15 17; omega) w
  have c18 := fun w => rdig_any (sl l 18 20) (by have := sl_len l 18 20; omega) w
  have c22 := fun w => rdig_any (sl l 22 24) (by have := sl_len l 22 24; omega) w
  have c24 := fun w => rdig_any (sl l 24 26) (by have := sl_len l 24 26; omega) w
  have cd := fun w => rdig_any (dayR l) (by unfold dayR; have h1 := sl_len l 1 2; have h2 := sl_len l 0 2; split <;> omega) w
  generalize at0 l 2 = k2 at *
  generalize at0 l 6 = k6 at *
  generalize at0 l 11 = k11 at *
  generalize at0 l 14 = k14 at *
  generalize at0 l 17 = k17 at *
  generalize at0 l 20 = k20 at *
  have hn : (at0 l 21).toNat = 43 := by rw [hs]; rfl
  have hd : dayR l = sl l 0 2 := by unfold dayR; rw [if_neg h0]
  have hk : ¬ ((at0 l 0).toNat : Int) = 32 := toNat_ne h0
  have hk' : (((at0 l 0).toNat : Int) == 32) = false := by simpa using hk
  have k48 : at0 l 0 ≠ 48 → ¬ ((at0 l 0).toNat : Int) = 48 := fun h => toNat_ne h
  have hml := monV_le (sl l 3 6)
  have hlm := last_mon (sl l 3 6)
  have hb7 := dV4 l 7
  have hbd : dV (dayR l) < 10000 := by
    have h1 := dV_lt (dayR l)
    have h2 := pw_mono (k := (dayR l).length) (j := 4) (by unfold dayR; have h1 := sl_len l 1 2; have h2 := sl_len l 0 2; split <;> omega)
    have h3 : pw 4 = 10000 := by decide
    omega
  rw [hd] at hbd
  have hb12 := dV2 l 12
  have hb15 := dV2 l 15
  have hb18 := dV2 l 18
  have hb22 := dV2 l 22
  have hb24 := dV2 l 24
  have hx36 : ∀ (y : List UInt8), (⟨(sl l 3 6).toArray⟩ : ByteArray).toList = sl l 3 6 := fun _ => Lib.toList_data _
  unfold digsR at hB
  rw [hd] at cd hB
  generalize dV (sl l 0 2) = vd at *
  generalize dB (sl l 0 2) = fd at *
  generalize dV (sl l 7 11) = v7 at *
  generalize dB (sl l 7 11) = f7 at *
  generalize dV (sl l 12 14) = v12 at *
  generalize dB (sl l 12 14) = f12 at *
  generalize dV (sl l 15 17) = v15 at *
  generalize dB (sl l 15 17) = f15 at *
  generalize dV (sl l 18 20) = v18 at *
  generalize dB (sl l 18 20) = f18 at *
  generalize dV (sl l 22 24) = v22 at *
  generalize dB (sl l 22 24) = f22 at *
  generalize dV (sl l 24 26) = v24 at *
  generalize dB (sl l 24 26) = f24 at *
  generalize (⟨(sl l 0 2).toArray⟩ : ByteArray) = E0 at *
  generalize (⟨(sl l 1 2).toArray⟩ : ByteArray) = E1 at *
  clear hx36
  generalize hx : sl l 3 6 = x at *
  generalize (⟨(sl l 7 11).toArray⟩ : ByteArray) = E7 at *
  generalize (⟨(sl l 12 14).toArray⟩ : ByteArray) = E12 at *
  generalize (⟨(sl l 15 17).toArray⟩ : ByteArray) = E15 at *
  generalize (⟨(sl l 18 20).toArray⟩ : ByteArray) = E18 at *
  generalize (⟨(sl l 22 24).toArray⟩ : ByteArray) = E22 at *
  generalize (⟨(sl l 24 26).toArray⟩ : ByteArray) = E24 at *
  generalize at0 l 0 = k0 at *
  generalize at0 l 21 = k21 at *
  generalize (⟨l.toArray⟩ : ByteArray) = S at *
  have b0 := a0 (by omega)
  have b2 := a2 (by omega)
  have b6 := a6 (by omega)
  have b11 := a11 (by omega)
  have b14 := a14 (by omega)
  have b17 := a17 (by omega)
  have b20 := a20 (by omega)
  have b21 := a21 (by omega)
  clear a0 a2 a6 a11 a14 a17 a20 a21 A X
  obtain ⟨rfl, rfl, rfl, rfl, rfl, rfl, rfl, q0, q1, q2⟩ := hB
  have g1 : ¬ (14 : Int) < v22 := by omega
  have g2 : ¬ (59 : Int) < v24 := by omega
  have g48 := k48 q0
  have g48' : ((k0.toNat : Int) == 48) = false := by simpa using g48
  have hcm : ∀ i : Nat, i < 12 → ∀ w, Calls Tryd.prog 28 #[.int .i64 (i + 1)] w fun e w' => e = .returned (.string ⟨(mon i).toArray⟩) ∧ w' = w := fun i hi w => month_any (i + 1) i rfl hi w
  clear hd h0 hs e0 e1 e2 e3 e4 e5 e6 hlen q0 q1 q2 k48 hx
  have HL := Lib.hid hlm
  have HM := Lib.hid hml
  clear hlm hml
  have T0 : TSt w (w.alloc newT) #[.int .i64 0, .int .i64 0, .int .i64 0, .int .i64 0, .int .i64 0, .int .i64 0, .int .i64 0] := ⟨heap_alloc_new w _, (Below.refl _ _).alloc (Nat.le_refl _) _⟩
  go_enter Tryd.func19, Tryd.ntmps19
  go_wp2_with (go_at_call 35; with_reducible first | (refine (cd _).mono ?_; rintro e w' ⟨rfl, hw⟩; rw [hw]) | (refine (c7 _).mono ?_; rintro e w' ⟨rfl, hw⟩; rw [hw]) | (refine (c12 _).mono ?_; rintro e w' ⟨rfl, hw⟩; rw [hw]) | (refine (c15 _).mono ?_; rintro e w' ⟨rfl, hw⟩; rw [hw]) | (refine (c18 _).mono ?_; rintro e w' ⟨rfl, hw⟩; rw [hw]) | (refine (c22 _).mono ?_; rintro e w' ⟨rfl, hw⟩; rw [hw]) | (refine (c24 _).mono ?_; rintro e w' ⟨rfl, hw⟩; rw [hw]))
  change Code.wp _ _ _ _ (w.alloc newT)
  generalize w.alloc newT = w1 at T0 ⊢
  have HT0 := Lib.hid T0
  clear T0 cd c7 c12 c15 c18 c22 c24
  go_loopw [20] (fun iv wr => ∃ (i : Nat), iv = .int .i64 (i + 1) ∧ i ≤ 12 ∧ Hid (TSt w wr #[.int .i64 0, .int .i64 (lastM x i), .int .i64 0, .int .i64 0, .int .i64 0, .int .i64 0, .int .i64 0])) (fun iv wr => (13 - intOf iv).toNat)
  case atStart => exact ⟨0, rfl, by omega, HT0⟩
  case round =>
    obtain ⟨i, rfl, hi, hTS⟩ := hrel
    by_cases hlt : i < 12
    · have cm := hcm i hlt
      by_cases he : mon i = x
      · have hE : (mon i == x) = true := by rw [beq_iff_eq]; exact he
        have hlast : lastM x (i + 1) = i + 1 := by rw [lastM, if_pos he]
        generalize mon i = mi at cm hE
        clear he
        go_wp2
        go_quiet ((go_at_call 28; exact qSame cm))
        have hTS2 := Lib.hid (hTS.out.drewN nq)
        generalize wr.drewN nq = wq at hTS2 ⊢
        have f1 := hTS2.out.frozen 1
        have c1 := cellsT hTS2.out.ts 1 _ rfl
        go_wp2
        have hS := hTS2.out.set 1 (.int .i64 (i + 1))
        simp only [List.setIfInBounds_toArray, List.set_cons_succ, List.set_cons_zero] at hS
        refine ⟨⟨i + 1, by go_num, by omega, Lib.hid (by rw [hlast]; exact hS)⟩, by simp [intOf]; omega⟩
      · have hE : (mon i == x) = false := by rw [beq_eq_false_iff_ne]; exact he
        have hlast : lastM x (i + 1) = lastM x i := by rw [lastM, if_neg he]
        generalize mon i = mi at cm hE
        clear he
        go_wp2
        go_quiet ((go_at_call 28; exact qSame cm))
        have hTS2 := Lib.hid (hTS.out.drewN nq)
        generalize wr.drewN nq = wq at hTS2 ⊢
        go_wp2
        refine ⟨⟨i + 1, by go_num, by omega, Lib.hid (by rw [hlast]; exact hTS2.out)⟩, by simp [intOf]; omega⟩
    · obtain rfl : i = 12 := by omega
      have T1 : TSt w wr #[.int .i64 0, .int .i64 (monV x), .int .i64 0, .int .i64 0, .int .i64 0, .int .i64 0, .int .i64 0] := by
        have := hTS.out
        rwa [HL.out] at this
      clear hlt hcm hTS
      have hmx := HM.out
      have hB5 := (((((T1.set 0 (.int .i64 v7)).set 2 (.int .i64 vd)).set 3 (.int .i64 v12)).set 4 (.int .i64 v15)).set 5 (.int .i64 v18)).bel
      have HB5 := Lib.hid hB5
      have c0 := cellsT T1.ts 0 _ rfl
      have c1 := cellsT T1.ts 1 _ rfl
      have c2 := cellsT T1.ts 2 _ rfl
      have c3 := cellsT T1.ts 3 _ rfl
      have c4 := cellsT T1.ts 4 _ rfl
      have c5 := cellsT T1.ts 5 _ rfl
      have c6 := cellsT T1.ts 6 _ rfl
      have f0 := T1.frozen 0
      have f2 := T1.frozen 2
      have f3 := T1.frozen 3
      have f4 := T1.frozen 4
      have f5 := T1.frozen 5
      have hz5 : w.heap.size ≤ (((((wr.setCell ⟨w.heap.size, 0, none⟩ (.int .i64 v7)).setCell ⟨w.heap.size, 2, none⟩ (.int .i64 vd)).setCell ⟨w.heap.size, 3, none⟩ (.int .i64 v12)).setCell ⟨w.heap.size, 4, none⟩ (.int .i64 v15)).setCell ⟨w.heap.size, 5, none⟩ (.int .i64 v18)).heap.size := hB5.size
      have HZ5 := Lib.hid hz5
      clear T1 hB5 hz5 HT0 HL
      by_cases hS : ∃ v, Sec 2137 v7 (monV x : Nat) vd v12 v15 v18 v
      · obtain ⟨v, hv⟩ := hS
        have hB := hv.bound (by omega)
        have cA := fun w => rat_sec 0 hv w
        have HV := Lib.hid hv
        clear hv
        rcases (show (v - 3600 * (v22 : Int) - 60 * v24) < 0 ∨ (¬ (v - 3600 * (v22 : Int) - 60 * v24) < 0 ∧ 4294967296 ≤ (v - 3600 * (v22 : Int) - 60 * v24)) ∨ (¬ (v - 3600 * (v22 : Int) - 60 * v24) < 0 ∧ ¬ 4294967296 ≤ (v - 3600 * (v22 : Int) - 60 * v24)) by omega) with g3 | ⟨g3, g4⟩ | ⟨g3, g4⟩
        · have HR := Lib.hid (secZ_none (y := v7) (m := (monV x : Nat)) (d := vd) (h := v12) (mi := v15) (se := v18) (z := (3600 * (v22 : Int) + 60 * v24)) (fun ⟨v', q1, q2⟩ => by have := HV.out.fun (q1.mono (l2 := 2137) (by omega)); omega))
          go_wp2_with fail
          refine (cA _).mono ?_; rintro e w2 ⟨rfl, b2⟩
          have HB6 := Lib.hid (HB5.out.trans (b2.mono HZ5.out))
          clear b2 HB5 HZ5 c0 c1 c2 c3 c4 c5 c6 f0 f2 f3 f4 f5 cA
          go_wp2
          go_ret2
          refine ⟨?_, HB6.out⟩
          rw [HR.out]
          rfl
        · have HR := Lib.hid (secZ_none (y := v7) (m := (monV x : Nat)) (d := vd) (h := v12) (mi := v15) (se := v18) (z := (3600 * (v22 : Int) + 60 * v24)) (fun ⟨v', q1, q2⟩ => by have := HV.out.fun (q1.mono (l2 := 2137) (by omega)); omega))
          go_wp2_with fail
          refine (cA _).mono ?_; rintro e w2 ⟨rfl, b2⟩
          have HB6 := Lib.hid (HB5.out.trans (b2.mono HZ5.out))
          clear b2 HB5 HZ5 c0 c1 c2 c3 c4 c5 c6 f0 f2 f3 f4 f5 cA
          go_wp2
          go_ret2
          refine ⟨?_, HB6.out⟩
          rw [HR.out]
          rfl
        · have HR := Lib.hid (secZ_some (z := (3600 * (v22 : Int) + 60 * v24)) (HV.out.last2 (by omega)) (by omega))
          go_wp2_with fail
          refine (cA _).mono ?_; rintro e w2 ⟨rfl, b2⟩
          have HB6 := Lib.hid (HB5.out.trans (b2.mono HZ5.out))
          clear b2 HB5 HZ5 c0 c1 c2 c3 c4 c5 c6 f0 f2 f3 f4 f5 cA
          go_wp2
          go_ret2
          refine ⟨?_, HB6.out⟩
          rw [HR.out]
          refine congrArg (fun p => Ending.returned (.tuple #[.int .i64 p, .int .i64 0])) ?_
          omega
      · have cA := fun w => rat_none 0 hS w
        have HR := Lib.hid (secZ_none (y := v7) (m := (monV x : Nat)) (d := vd) (h := v12) (mi := v15) (se := v18) (z := (3600 * (v22 : Int) + 60 * v24)) (fun ⟨v', q1, q2⟩ => hS ⟨v', q1.mono (by omega)⟩))
        clear hS
        go_wp2_with fail
        refine (cA _).mono ?_; rintro e w2 ⟨rfl, b2⟩
        have HB6 := Lib.hid (HB5.out.trans (b2.mono HZ5.out))
        clear b2 HB5 HZ5 c0 c1 c2 c3 c4 c5 c6 f0 f2 f3 f4 f5 cA
        go_wp2
        go_ret2
        refine ⟨?_, HB6.out⟩
        rw [HR.out]
        rfl
set_option maxHeartbeats 4000000 in
set_option maxRecDepth 20000 in
theorem rparse_yes_d45 (l : List UInt8) (hM : marksR l) (hB : digsR l) (h0 : at0 l 0 ≠ 32) (hs : at0 l 21 = 45) (w : World) :
    Calls Tryd.prog 19 #[.string ⟨l.toArray⟩] w fun e w' => e = .returned (.tuple #[.int .i64 (secZ (dV (sl l 7 11)) (monV (sl l 3 6)) (dV (sl l 0 2)) (dV (sl l 12 14)) (dV (sl l 15 17)) (dV (sl l 18 20)) (-(3600 * (dV (sl l 22 24) : Int) + 60 * dV (sl l 24 26)))).1, .int .i64 (secZ (dV (sl l 7 11)) (monV (sl l 3 6)) (dV (sl l 0 2)) (dV (sl l 12 14)) (dV (sl l 15 17)) (dV (sl l 18 20)) (-(3600 * (dV (sl l 22 24) : Int) + 60 * dV (sl l 24 26)))).2]) ∧ Below w.heap.size w w' := by
  obtain ⟨hlen, e0, e1, e2, e3, e4, e5, e6⟩ := hM
  have hz : (⟨l.toArray⟩ : ByteArray).size = 26 := hlen
  have A := str_at l
  have X := str_sl l
  have a0 := A 0
  have a2 := A 2
  have a6 := A 6
  have a11 := A 11
  have a14 := A 14
  have a17 := A 17
  have a20 := A 20
  have a21 := A 21
  have n2 : (at0 l 2).toNat = 45 := by rw [e0]; rfl
  have n6 : (at0 l 6).toNat = 45 := by rw [e1]; rfl
  have n11 : (at0 l 11).toNat = 32 := by rw [e2]; rfl
  have n14 : (at0 l 14).toNat = 58 := by rw [e3]; rfl
  have n17 : (at0 l 17).toNat = 58 := by rw [e4]; rfl
  have n20 : (at0 l 20).toNat = 32 := by rw [e5]; rfl
  have x0 := X 0 2
  have x1 := X 1 2
  have x36 := X 3 6
  have x7 := X 7 11
  have x12 := X 12 14
  have x15 := X 15 17
  have x18 := X 18 20
  have x22 := X 22 24
  have x24 := X 24 26
  have c7 := fun w => rdig_any (sl l 7 11) (by have := sl_len l 7 11; omega) w
  have c12 := fun w => rdig_any (sl l 12 14) (by have := sl_len l 12 14; omega) w
  have c15 := fun w => rdig_any (sl l 15 17) (by have := sl_len l 15 17; omega) w
  have c18 := fun w => rdig_any (sl l 18 20) (by have := sl_len l 18 20; omega) w
  have c22 := fun w => rdig_any (sl l 22 24) (by have := sl_len l 22 24; omega) w
  have c24 := fun w => rdig_any (sl l 24 26) (by have := sl_len l 24 26; omega) w
  have cd := fun w => rdig_any (dayR l) (by unfold dayR; have h1 := sl_len l 1 2; have h2 := sl_len l 0 2; split <;> omega) w
  generalize at0 l 2 = k2 at *
  generalize at0 l 6 = k6 at *
  generalize at0 l 11 = k11 at *
  generalize at0 l 14 = k14 at *
  generalize at0 l 17 = k17 at *
  generalize at0 l 20 = k20 at *
  have hn : (at0 l 21).toNat = 45 := by rw [hs]; rfl
  have hd : dayR l = sl l 0 2 := by unfold dayR; rw [if_neg h0]
  have hk : ¬ ((at0 l 0).toNat : Int) = 32 := toNat_ne h0
  have hk' : (((at0 l 0).toNat : Int) == 32) = false := by simpa using hk
  have k48 : at0 l 0 ≠ 48 → ¬ ((at0 l 0).toNat : Int) = 48 := fun h => toNat_ne h
  have hml := monV_le (sl l 3 6)
  have hlm := last_mon (sl l 3 6)
  have hb7 := dV4 l 7
  have hbd : dV (dayR l) < 10000 := by
    have h1 := dV_lt (dayR l)
    have h2 := pw_mono (k := (dayR l).length) (j := 4) (by unfold dayR; have h1 := sl_len l 1 2; have h2 := sl_len l 0 2; split <;> omega)
    have h3 : pw 4 = 10000 := by decide
    omega
  rw [hd] at hbd
  have hb12 := dV2 l 12
  have hb15 := dV2 l 15
  have hb18 := dV2 l 18
  have hb22 := dV2 l 22
  have hb24 := dV2 l 24
  have hx36 : ∀ (y : List UInt8), (⟨(sl l 3 6).toArray⟩ : ByteArray).toList = sl l 3 6 := fun _ => Lib.toList_data _
  unfold digsR at hB
  rw [hd] at cd hB
  generalize dV (sl l 0 2) = vd at *
  generalize dB (sl l 0 2) = fd at *
  generalize dV (sl l 7 11) = v7 at *
  generalize dB (sl l 7 11) = f7 at *
  generalize dV (sl l 12 14) = v12 at *
  generalize dB (sl l 12 14) = f12 at *
  generalize dV (sl l 15 17) = v15 at *
  generalize dB (sl l 15 17) = f15 at *
  generalize dV (sl l 18 20) = v18 at *
  generalize dB (sl l 18 20) = f18 at *
  generalize dV (sl l 22 24) = v22 at *
  generalize dB (sl l 22 24) = f22 at *
  generalize dV (sl l 24 26) = v24 at *
  generalize dB (sl l 24 26) = f24 at *
  generalize (⟨(sl l 0 2).toArray⟩ : ByteArray) = E0 at *
  generalize (⟨(sl l 1 2).toArray⟩ : ByteArray) = E1 at *
  clear hx36
  generalize hx : sl l 3 6 = x at *
  generalize (⟨(sl l 7 11).toArray⟩ : ByteArray) = E7 at *
  generalize (⟨(sl l 12 14).toArray⟩ : ByteArray) = E12 at *
  generalize (⟨(sl l 15 17).toArray⟩ : ByteArray) = E15 at *
  generalize (⟨(sl l 18 20).toArray⟩ : ByteArray) = E18 at *
  generalize (⟨(sl l 22 24).toArray⟩ : ByteArray) = E22 at *
  generalize (⟨(sl l 24 26).toArray⟩ : ByteArray) = E24 at *
  generalize at0 l 0 = k0 at *
  generalize at0 l 21 = k21 at *
  generalize (⟨l.toArray⟩ : ByteArray) = S at *
  have b0 := a0 (by omega)
  have b2 := a2 (by omega)
  have b6 := a6 (by omega)
  have b11 := a11 (by omega)
  have b14 := a14 (by omega)
  have b17 := a17 (by omega)
  have b20 := a20 (by omega)
  have b21 := a21 (by omega)
  clear a0 a2 a6 a11 a14 a17 a20 a21 A X
  obtain ⟨rfl, rfl, rfl, rfl, rfl, rfl, rfl, q0, q1, q2⟩ := hB
  have g1 : ¬ (14 : Int) < v22 := by omega
  have g2 : ¬ (59 : Int) < v24 := by omega
  have g48 := k48 q0
  have g48' : ((k0.toNat : Int) == 48) = false := by simpa using g48
  have hcm : ∀ i : Nat, i < 12 → ∀ w, Calls Tryd.prog 28 #[.int .i64 (i + 1)] w fun e w' => e = .returned (.string ⟨(mon i).toArray⟩) ∧ w' = w := fun i hi w => month_any (i + 1) i rfl hi w
  clear hd h0 hs e0 e1 e2 e3 e4 e5 e6 hlen q0 q1 q2 k48 hx
  have HL := Lib.hid hlm
  have HM := Lib.hid hml
  clear hlm hml
  have T0 : TSt w (w.alloc newT) #[.int .i64 0, .int .i64 0, .int .i64 0, .int .i64 0, .int .i64 0, .int .i64 0, .int .i64 0] := ⟨heap_alloc_new w _, (Below.refl _ _).alloc (Nat.le_refl _) _⟩
  go_enter Tryd.func19, Tryd.ntmps19
  go_wp2_with (go_at_call 35; with_reducible first | (refine (cd _).mono ?_; rintro e w' ⟨rfl, hw⟩; rw [hw]) | (refine (c7 _).mono ?_; rintro e w' ⟨rfl, hw⟩; rw [hw]) | (refine (c12 _).mono ?_; rintro e w' ⟨rfl, hw⟩; rw [hw]) | (refine (c15 _).mono ?_; rintro e w' ⟨rfl, hw⟩; rw [hw]) | (refine (c18 _).mono ?_; rintro e w' ⟨rfl, hw⟩; rw [hw]) | (refine (c22 _).mono ?_; rintro e w' ⟨rfl, hw⟩; rw [hw]) | (refine (c24 _).mono ?_; rintro e w' ⟨rfl, hw⟩; rw [hw]))
  change Code.wp _ _ _ _ (w.alloc newT)
  generalize w.alloc newT = w1 at T0 ⊢
  have HT0 := Lib.hid T0
  clear T0 cd c7 c12 c15 c18 c22 c24
  go_loopw [20] (fun iv wr => ∃ (i : Nat), iv = .int .i64 (i + 1) ∧ i ≤ 12 ∧ Hid (TSt w wr #[.int .i64 0, .int .i64 (lastM x i), .int .i64 0, .int .i64 0, .int .i64 0, .int .i64 0, .int .i64 0])) (fun iv wr => (13 - intOf iv).toNat)
  case atStart => exact ⟨0, rfl, by omega, HT0⟩
  case round =>
    obtain ⟨i, rfl, hi, hTS⟩ := hrel
    by_cases hlt : i < 12
    · have cm := hcm i hlt
      by_cases he : mon i = x
      · have hE : (mon i == x) = true := by rw [beq_iff_eq]; exact he
        have hlast : lastM x (i + 1) = i + 1 := by rw [lastM, if_pos he]
        generalize mon i = mi at cm hE
        clear he
        go_wp2
        go_quiet ((go_at_call 28; exact qSame cm))
        have hTS2 := Lib.hid (hTS.out.drewN nq)
        generalize wr.drewN nq = wq at hTS2 ⊢
        have f1 := hTS2.out.frozen 1
        have c1 := cellsT hTS2.out.ts 1 _ rfl
        go_wp2
        have hS := hTS2.out.set 1 (.int .i64 (i + 1))
        simp only [List.setIfInBounds_toArray, List.set_cons_succ, List.set_cons_zero] at hS
        refine ⟨⟨i + 1, by go_num, by omega, Lib.hid (by rw [hlast]; exact hS)⟩, by simp [intOf]; omega⟩
      · have hE : (mon i == x) = false := by rw [beq_eq_false_iff_ne]; exact he
        have hlast : lastM x (i + 1) = lastM x i := by rw [lastM, if_neg he]
        generalize mon i = mi at cm hE
        clear he
        go_wp2
        go_quiet ((go_at_call 28; exact qSame cm))
        have hTS2 := Lib.hid (hTS.out.drewN nq)
        generalize wr.drewN nq = wq at hTS2 ⊢
        go_wp2
        refine ⟨⟨i + 1, by go_num, by omega, Lib.hid (by rw [hlast]; exact hTS2.out)⟩, by simp [intOf]; omega⟩
    · obtain rfl : i = 12 := by omega
      have T1 : TSt w wr #[.int .i64 0, .int .i64 (monV x), .int .i64 0, .int .i64 0, .int .i64 0, .int .i64 0, .int .i64 0] := by
        have := hTS.out
        rwa [HL.out] at this
      clear hlt hcm hTS
      have hmx := HM.out
      have hB5 := (((((T1.set 0 (.int .i64 v7)).set 2 (.int .i64 vd)).set 3 (.int .i64 v12)).set 4 (.int .i64 v15)).set 5 (.int .i64 v18)).bel
      have HB5 := Lib.hid hB5
      have c0 := cellsT T1.ts 0 _ rfl
      have c1 := cellsT T1.ts 1 _ rfl
      have c2 := cellsT T1.ts 2 _ rfl
      have c3 := cellsT T1.ts 3 _ rfl
      have c4 := cellsT T1.ts 4 _ rfl
      have c5 := cellsT T1.ts 5 _ rfl
      have c6 := cellsT T1.ts 6 _ rfl
      have f0 := T1.frozen 0
      have f2 := T1.frozen 2
      have f3 := T1.frozen 3
      have f4 := T1.frozen 4
      have f5 := T1.frozen 5
      have hz5 : w.heap.size ≤ (((((wr.setCell ⟨w.heap.size, 0, none⟩ (.int .i64 v7)).setCell ⟨w.heap.size, 2, none⟩ (.int .i64 vd)).setCell ⟨w.heap.size, 3, none⟩ (.int .i64 v12)).setCell ⟨w.heap.size, 4, none⟩ (.int .i64 v15)).setCell ⟨w.heap.size, 5, none⟩ (.int .i64 v18)).heap.size := hB5.size
      have HZ5 := Lib.hid hz5
      clear T1 hB5 hz5 HT0 HL
      by_cases hS : ∃ v, Sec 2137 v7 (monV x : Nat) vd v12 v15 v18 v
      · obtain ⟨v, hv⟩ := hS
        have hB := hv.bound (by omega)
        have cA := fun w => rat_sec 0 hv w
        have HV := Lib.hid hv
        clear hv
        rcases (show (v + 3600 * (v22 : Int) + 60 * v24) < 0 ∨ (¬ (v + 3600 * (v22 : Int) + 60 * v24) < 0 ∧ 4294967296 ≤ (v + 3600 * (v22 : Int) + 60 * v24)) ∨ (¬ (v + 3600 * (v22 : Int) + 60 * v24) < 0 ∧ ¬ 4294967296 ≤ (v + 3600 * (v22 : Int) + 60 * v24)) by omega) with g3 | ⟨g3, g4⟩ | ⟨g3, g4⟩
        · have HR := Lib.hid (secZ_none (y := v7) (m := (monV x : Nat)) (d := vd) (h := v12) (mi := v15) (se := v18) (z := (-(3600 * (v22 : Int) + 60 * v24))) (fun ⟨v', q1, q2⟩ => by have := HV.out.fun (q1.mono (l2 := 2137) (by omega)); omega))
          go_wp2_with fail
          refine (cA _).mono ?_; rintro e w2 ⟨rfl, b2⟩
          have HB6 := Lib.hid (HB5.out.trans (b2.mono HZ5.out))
          clear b2 HB5 HZ5 c0 c1 c2 c3 c4 c5 c6 f0 f2 f3 f4 f5 cA
          go_wp2
          go_ret2
          refine ⟨?_, HB6.out⟩
          rw [HR.out]
          rfl
        · have HR := Lib.hid (secZ_none (y := v7) (m := (monV x : Nat)) (d := vd) (h := v12) (mi := v15) (se := v18) (z := (-(3600 * (v22 : Int) + 60 * v24))) (fun ⟨v', q1, q2⟩ => by have := HV.out.fun (q1.mono (l2 := 2137) (by omega)); omega))
          go_wp2_with fail
          refine (cA _).mono ?_; rintro e w2 ⟨rfl, b2⟩
          have HB6 := Lib.hid (HB5.out.trans (b2.mono HZ5.out))
          clear b2 HB5 HZ5 c0 c1 c2 c3 c4 c5 c6 f0 f2 f3 f4 f5 cA
          go_wp2
          go_ret2
          refine ⟨?_, HB6.out⟩
          rw [HR.out]
          rfl
        · have HR := Lib.hid (secZ_some (z := (-(3600 * (v22 : Int) + 60 * v24))) (HV.out.last2 (by omega)) (by omega))
          go_wp2_with fail
          refine (cA _).mono ?_; rintro e w2 ⟨rfl, b2⟩
          have HB6 := Lib.hid (HB5.out.trans (b2.mono HZ5.out))
          clear b2 HB5 HZ5 c0 c1 c2 c3 c4 c5 c6 f0 f2 f3 f4 f5 cA
          go_wp2
          go_ret2
          refine ⟨?_, HB6.out⟩
          rw [HR.out]
          refine congrArg (fun p => Ending.returned (.tuple #[.int .i64 p, .int .i64 0])) ?_
          omega
      · have cA := fun w => rat_none 0 hS w
        have HR := Lib.hid (secZ_none (y := v7) (m := (monV x : Nat)) (d := vd) (h := v12) (mi := v15) (se := v18) (z := (-(3600 * (v22 : Int) + 60 * v24))) (fun ⟨v', q1, q2⟩ => hS ⟨v', q1.mono (by omega)⟩))
        clear hS
        go_wp2_with fail
        refine (cA _).mono ?_; rintro e w2 ⟨rfl, b2⟩
        have HB6 := Lib.hid (HB5.out.trans (b2.mono HZ5.out))
        clear b2 HB5 HZ5 c0 c1 c2 c3 c4 c5 c6 f0 f2 f3 f4 f5 cA
        go_wp2
        go_ret2
        refine ⟨?_, HB6.out⟩
        rw [HR.out]
        rfl
end Go.Proofs.YtjbojboiagbofaaDoor
