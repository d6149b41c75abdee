/- The document's Parse: where the digits are none. -/
import Derived.Test.YtjbojboiagbofaaDoorC29
set_option linter.unusedSimpArgs false
set_option linter.unusedVariables false
namespace Go.Proofs.YtjbojboiagbofaaDoor
open Go.RowKit Go.Shelf

set_option maxHeartbeats 4000000 in
set_option maxRecDepth 20000 in
theorem rparse_bad_b43 (l : List UInt8) (hM : marksR l) (hB : ¬ digsR l) (h0 : at0 l 0 = 32) (hs : at0 l 21 = 43) (w : World) :
    Calls Tryd.prog 19 #[.string ⟨l.toArray⟩] w fun e w' => e = .returned (.tuple #[.int .i64 0, .int .i64 80]) ∧ Below w.heap.size w w' := by
  obtain ⟨hlen, e0, e1, e2, e3, e4, e5, e6⟩ := hM
  have hz : (⟨l.toArray⟩ : ByteArray).size = 26 := hlen
  have A := str_at l
  have X := str_sl l
  have a0 := A 0
  have a2 := A 2
  have a6 := A 6
  have a11 := A 11
  have a14 := A 14
  have a17 := A 17
  have a20 := A 20
  have a21 := A 21
  have n2 : (at0 l 2).toNat = 45 := by rw [e0]; rfl
  have n6 : (at0 l 6).toNat = 45 := by rw [e1]; rfl
  have n11 : (at0 l 11).toNat = 32 := by rw [e2]; rfl
  have n14 : (at0 l 14).toNat = 58 := by rw [e3]; rfl
  have n17 : (at0 l 17).toNat = 58 := by rw [e4]; rfl
  have n20 : (at0 l 20).toNat = 32 := by rw [e5]; rfl
  have x0 := X 0 2
  have x1 := X 1 2
  have x36 := X 3 6
  have x7 := X 7 11
  have x12 := X 12 14
  have x15 := X 15 17
  have x18 := X 18 20
  have x22 := X 22 24
  have x24 := X 24 26
  have c7 := fun w => rdig_any (sl l 7 11) (by have := sl_len l 7 11; omega) w
  have c12 := fun w => rdig_any (sl l 12 14) (by have := sl_len l 12 14; omega) w
  have c15 := fun w => rdig_any (sl l 15 17) (by have := sl_len l 15 17; omega) w
  have c18 := fun w => rdig_any (sl l 18 20) (by have := sl_len l 18 20; omega) w
  have c22 := fun w => rdig_any (sl l 22 24) (by have := sl_len l 22 24; omega) w
  have c24 := fun w => rdig_any (sl l 24 26) (by have := sl_len l 24 26; omega) w
  have cd := fun w => rdig_any (dayR l) (by unfold dayR; have h1 := sl_len l 1 2; have h2 := sl_len l 0 2; split <;> omega) w
  generalize at0 l 2 = k2 at *
  generalize at0 l 6 = k6 at *
  generalize at0 l 11 = k11 at *
  generalize at0 l 14 = k14 at *
  generalize at0 l 17 = k17 at *
  generalize at0 l 20 = k20 at *
  have hn : (at0 l 21).toNat = 43 := by rw [hs]; rfl
  have hd : dayR l = sl l 1 2 := by unfold dayR; rw [if_pos h0]
  have hk : (at0 l 0).toNat = 32 := by rw [h0]; rfl
  have k48 : at0 l 0 ≠ 48 → ¬ ((at0 l 0).toNat : Int) = 48 := fun h => toNat_ne h
  unfold digsR at hB
  rw [hd] at cd hB
  generalize dV (sl l 1 2) = vd at *
  generalize dB (sl l 1 2) = fd at *
  generalize dV (sl l 7 11) = v7 at *
  generalize dB (sl l 7 11) = f7 at *
  generalize dV (sl l 12 14) = v12 at *
  generalize dB (sl l 12 14) = f12 at *
  generalize dV (sl l 15 17) = v15 at *
  generalize dB (sl l 15 17) = f15 at *
  generalize dV (sl l 18 20) = v18 at *
  generalize dB (sl l 18 20) = f18 at *
  generalize dV (sl l 22 24) = v22 at *
  generalize dB (sl l 22 24) = f22 at *
  generalize dV (sl l 24 26) = v24 at *
  generalize dB (sl l 24 26) = f24 at *
  generalize (⟨(sl l 0 2).toArray⟩ : ByteArray) = E0 at *
  generalize (⟨(sl l 1 2).toArray⟩ : ByteArray) = E1 at *
  generalize (⟨(sl l 3 6).toArray⟩ : ByteArray) = E36 at *
  generalize (⟨(sl l 7 11).toArray⟩ : ByteArray) = E7 at *
  generalize (⟨(sl l 12 14).toArray⟩ : ByteArray) = E12 at *
  generalize (⟨(sl l 15 17).toArray⟩ : ByteArray) = E15 at *
  generalize (⟨(sl l 18 20).toArray⟩ : ByteArray) = E18 at *
  generalize (⟨(sl l 22 24).toArray⟩ : ByteArray) = E22 at *
  generalize (⟨(sl l 24 26).toArray⟩ : ByteArray) = E24 at *
  generalize at0 l 0 = k0 at *
  generalize at0 l 21 = k21 at *
  generalize (⟨l.toArray⟩ : ByteArray) = S at *
  have b0 := a0 (by omega)
  have b2 := a2 (by omega)
  have b6 := a6 (by omega)
  have b11 := a11 (by omega)
  have b14 := a14 (by omega)
  have b17 := a17 (by omega)
  have b20 := a20 (by omega)
  have b21 := a21 (by omega)
  clear a0 a2 a6 a11 a14 a17 a20 a21 A X
  have h48 : k0 ≠ 48 := by rw [h0]; decide
  have ways : (fd = false) ∨ (fd = true ∧ f7 = false) ∨ (fd = true ∧ f7 = true ∧ f12 = false) ∨ (fd = true ∧ f7 = true ∧ f12 = true ∧ f15 = false) ∨ (fd = true ∧ f7 = true ∧ f12 = true ∧ f15 = true ∧ f18 = false) ∨ (fd = true ∧ f7 = true ∧ f12 = true ∧ f15 = true ∧ f18 = true ∧ f22 = false) ∨ (fd = true ∧ f7 = true ∧ f12 = true ∧ f15 = true ∧ f18 = true ∧ f22 = true ∧ f24 = false) ∨ (fd = true ∧ f7 = true ∧ f12 = true ∧ f15 = true ∧ f18 = true ∧ f22 = true ∧ f24 = true ∧ 14 < v22) ∨ (fd = true ∧ f7 = true ∧ f12 = true ∧ f15 = true ∧ f18 = true ∧ f22 = true ∧ f24 = true ∧ v22 ≤ 14 ∧ 59 < v24) := by
    revert hB
    cases fd <;> cases f7 <;> cases f12 <;> cases f15 <;> cases f18 <;> cases f22 <;> cases f24 <;> simp
    all_goals
      intro hB
      have := hB h48
      omega
  clear hB hd h0 hs e0 e1 e2 e3 e4 e5 e6 hlen
  rcases ways with rfl | ⟨rfl, rfl⟩ | ⟨rfl, rfl, rfl⟩ | ⟨rfl, rfl, rfl, rfl⟩ | ⟨rfl, rfl, rfl, rfl, rfl⟩ | ⟨rfl, rfl, rfl, rfl, rfl, rfl⟩ | ⟨rfl, rfl, rfl, rfl, rfl, rfl, rfl⟩ | ⟨rfl, rfl, rfl, rfl, rfl, rfl, rfl, q1⟩ | ⟨rfl, rfl, rfl, rfl, rfl, rfl, rfl, q1, q2⟩
  · have g48 := k48 h48
    have g48' : ((k0.toNat : Int) == 48) = false := by simpa using g48
    clear k48 h48
    go_enter Tryd.func19, Tryd.ntmps19
    go_wp2_with (go_at_call 35; with_reducible first | (refine (cd _).mono ?_; rintro e w' ⟨rfl, hw⟩; rw [hw]) | (refine (c7 _).mono ?_; rintro e w' ⟨rfl, hw⟩; rw [hw]) | (refine (c12 _).mono ?_; rintro e w' ⟨rfl, hw⟩; rw [hw]) | (refine (c15 _).mono ?_; rintro e w' ⟨rfl, hw⟩; rw [hw]) | (refine (c18 _).mono ?_; rintro e w' ⟨rfl, hw⟩; rw [hw]) | (refine (c22 _).mono ?_; rintro e w' ⟨rfl, hw⟩; rw [hw]) | (refine (c24 _).mono ?_; rintro e w' ⟨rfl, hw⟩; rw [hw]))
    go_ret2
    exact ⟨rfl, (Below.refl _ _).alloc (Nat.le_refl _) _⟩
  · have g48 := k48 h48
    have g48' : ((k0.toNat : Int) == 48) = false := by simpa using g48
    clear k48 h48
    go_enter Tryd.func19, Tryd.ntmps19
    go_wp2_with (go_at_call 35; with_reducible first | (refine (cd _).mono ?_; rintro e w' ⟨rfl, hw⟩; rw [hw]) | (refine (c7 _).mono ?_; rintro e w' ⟨rfl, hw⟩; rw [hw]) | (refine (c12 _).mono ?_; rintro e w' ⟨rfl, hw⟩; rw [hw]) | (refine (c15 _).mono ?_; rintro e w' ⟨rfl, hw⟩; rw [hw]) | (refine (c18 _).mono ?_; rintro e w' ⟨rfl, hw⟩; rw [hw]) | (refine (c22 _).mono ?_; rintro e w' ⟨rfl, hw⟩; rw [hw]) | (refine (c24 _).mono ?_; rintro e w' ⟨rfl, hw⟩; rw [hw]))
    go_ret2
    exact ⟨rfl, (Below.refl _ _).alloc (Nat.le_refl _) _⟩
  · have g48 := k48 h48
    have g48' : ((k0.toNat : Int) == 48) = false := by simpa using g48
    clear k48 h48
    go_enter Tryd.func19, Tryd.ntmps19
    go_wp2_with (go_at_call 35; with_reducible first | (refine (cd _).mono ?_; rintro e w' ⟨rfl, hw⟩; rw [hw]) | (refine (c7 _).mono ?_; rintro e w' ⟨rfl, hw⟩; rw [hw]) | (refine (c12 _).mono ?_; rintro e w' ⟨rfl, hw⟩; rw [hw]) | (refine (c15 _).mono ?_; rintro e w' ⟨rfl, hw⟩; rw [hw]) | (refine (c18 _).mono ?_; rintro e w' ⟨rfl, hw⟩; rw [hw]) | (refine (c22 _).mono ?_; rintro e w' ⟨rfl, hw⟩; rw [hw]) | (refine (c24 _).mono ?_; rintro e w' ⟨rfl, hw⟩; rw [hw]))
    go_ret2
    exact ⟨rfl, (Below.refl _ _).alloc (Nat.le_refl _) _⟩
  · have g48 := k48 h48
    have g48' : ((k0.toNat : Int) == 48) = false := by simpa using g48
    clear k48 h48
    go_enter Tryd.func19, Tryd.ntmps19
    go_wp2_with (go_at_call 35; with_reducible first | (refine (cd _).mono ?_; rintro e w' ⟨rfl, hw⟩; rw [hw]) | (refine (c7 _).mono ?_; rintro e w' ⟨rfl, hw⟩; rw [hw]) | (refine (c12 _).mono ?_; rintro e w' ⟨rfl, hw⟩; rw [hw]) | (refine (c15 _).mono ?_; rintro e w' ⟨rfl, hw⟩; rw [hw]) | (refine (c18 _).mono ?_; rintro e w' ⟨rfl, hw⟩; rw [hw]) | (refine (c22 _).mono ?_; rintro e w' ⟨rfl, hw⟩; rw [hw]) | (refine (c24 _).mono ?_; rintro e w' ⟨rfl, hw⟩; rw [hw]))
    go_ret2
    exact ⟨rfl, (Below.refl _ _).alloc (Nat.le_refl _) _⟩
  · have g48 := k48 h48
    have g48' : ((k0.toNat : Int) == 48) = false := by simpa using g48
    clear k48 h48
    go_enter Tryd.func19, Tryd.ntmps19
    go_wp2_with (go_at_call 35; with_reducible first | (refine (cd _).mono ?_; rintro e w' ⟨rfl, hw⟩; rw [hw]) | (refine (c7 _).mono ?_; rintro e w' ⟨rfl, hw⟩; rw [hw]) | (refine (c12 _).mono ?_; rintro e w' ⟨rfl, hw⟩; rw [hw]) | (refine (c15 _).mono ?_; rintro e w' ⟨rfl, hw⟩; rw [hw]) | (refine (c18 _).mono ?_; rintro e w' ⟨rfl, hw⟩; rw [hw]) | (refine (c22 _).mono ?_; rintro e w' ⟨rfl, hw⟩; rw [hw]) | (refine (c24 _).mono ?_; rintro e w' ⟨rfl, hw⟩; rw [hw]))
    go_ret2
    exact ⟨rfl, (Below.refl _ _).alloc (Nat.le_refl _) _⟩
  · have g48 := k48 h48
    have g48' : ((k0.toNat : Int) == 48) = false := by simpa using g48
    clear k48 h48
    go_enter Tryd.func19, Tryd.ntmps19
    go_wp2_with (go_at_call 35; with_reducible first | (refine (cd _).mono ?_; rintro e w' ⟨rfl, hw⟩; rw [hw]) | (refine (c7 _).mono ?_; rintro e w' ⟨rfl, hw⟩; rw [hw]) | (refine (c12 _).mono ?_; rintro e w' ⟨rfl, hw⟩; rw [hw]) | (refine (c15 _).mono ?_; rintro e w' ⟨rfl, hw⟩; rw [hw]) | (refine (c18 _).mono ?_; rintro e w' ⟨rfl, hw⟩; rw [hw]) | (refine (c22 _).mono ?_; rintro e w' ⟨rfl, hw⟩; rw [hw]) | (refine (c24 _).mono ?_; rintro e w' ⟨rfl, hw⟩; rw [hw]))
    go_ret2
    exact ⟨rfl, (Below.refl _ _).alloc (Nat.le_refl _) _⟩
  · have g48 := k48 h48
    have g48' : ((k0.toNat : Int) == 48) = false := by simpa using g48
    clear k48 h48
    go_enter Tryd.func19, Tryd.ntmps19
    go_wp2_with (go_at_call 35; with_reducible first | (refine (cd _).mono ?_; rintro e w' ⟨rfl, hw⟩; rw [hw]) | (refine (c7 _).mono ?_; rintro e w' ⟨rfl, hw⟩; rw [hw]) | (refine (c12 _).mono ?_; rintro e w' ⟨rfl, hw⟩; rw [hw]) | (refine (c15 _).mono ?_; rintro e w' ⟨rfl, hw⟩; rw [hw]) | (refine (c18 _).mono ?_; rintro e w' ⟨rfl, hw⟩; rw [hw]) | (refine (c22 _).mono ?_; rintro e w' ⟨rfl, hw⟩; rw [hw]) | (refine (c24 _).mono ?_; rintro e w' ⟨rfl, hw⟩; rw [hw]))
    go_ret2
    exact ⟨rfl, (Below.refl _ _).alloc (Nat.le_refl _) _⟩
  · have g48 := k48 h48
    have g48' : ((k0.toNat : Int) == 48) = false := by simpa using g48
    clear k48 h48
    have g1 : (14 : Int) < v22 := by omega
    clear q1
    go_enter Tryd.func19, Tryd.ntmps19
    go_wp2_with (go_at_call 35; with_reducible first | (refine (cd _).mono ?_; rintro e w' ⟨rfl, hw⟩; rw [hw]) | (refine (c7 _).mono ?_; rintro e w' ⟨rfl, hw⟩; rw [hw]) | (refine (c12 _).mono ?_; rintro e w' ⟨rfl, hw⟩; rw [hw]) | (refine (c15 _).mono ?_; rintro e w' ⟨rfl, hw⟩; rw [hw]) | (refine (c18 _).mono ?_; rintro e w' ⟨rfl, hw⟩; rw [hw]) | (refine (c22 _).mono ?_; rintro e w' ⟨rfl, hw⟩; rw [hw]) | (refine (c24 _).mono ?_; rintro e w' ⟨rfl, hw⟩; rw [hw]))
    go_ret2
    exact ⟨rfl, (Below.refl _ _).alloc (Nat.le_refl _) _⟩
  · have g48 := k48 h48
    have g48' : ((k0.toNat : Int) == 48) = false := by simpa using g48
    clear k48 h48
    have g1 : ¬ (14 : Int) < v22 := by omega
    have g2 : (59 : Int) < v24 := by omega
    clear q1 q2
    go_enter Tryd.func19, Tryd.ntmps19
    go_wp2_with (go_at_call 35; with_reducible first | (refine (cd _).mono ?_; rintro e w' ⟨rfl, hw⟩; rw [hw]) | (refine (c7 _).mono ?_; rintro e w' ⟨rfl, hw⟩; rw [hw]) | (refine (c12 _).mono ?_; rintro e w' ⟨rfl, hw⟩; rw [hw]) | (refine (c15 _).mono ?_; rintro e w' ⟨rfl, hw⟩; rw [hw]) | (refine (c18 _).mono ?_; rintro e w' ⟨rfl, hw⟩; rw [hw]) | (refine (c22 _).mono ?_; rintro e w' ⟨rfl, hw⟩; rw [hw]) | (refine (c24 _).mono ?_; rintro e w' ⟨rfl, hw⟩; rw [hw]))
    go_ret2
    exact ⟨rfl, (Below.refl _ _).alloc (Nat.le_refl _) _⟩
set_option maxHeartbeats 4000000 in
set_option maxRecDepth 20000 in
theorem rparse_bad_b45 (l : List UInt8) (hM : marksR l) (hB : ¬ digsR l) (h0 : at0 l 0 = 32) (hs : at0 l 21 = 45) (w : World) :
    Calls Tryd.prog 19 #[.string ⟨l.toArray⟩] w fun e w' => e = .returned (.tuple #[.int .i64 0, .int .i64 80]) ∧ Below w.heap.size w w' := by
  obtain ⟨hlen, e0, e1, e2, e3, e4, e5, e6⟩ := hM
  have hz : (⟨l.toArray⟩ : ByteArray).size = 26 := hlen
  have A := str_at l
  have X := str_sl l
  have a0 := A 0
  have a2 := A 2
  have a6 := A 6
  have a11 := A 11
  have a14 := A 14
  have a17 := A 17
  have a20 := A 20
  have a21 := A 21
  have n2 : (at0 l 2).toNat = 45 := by rw [e0]; rfl
  have n6 : (at0 l 6).toNat = 45 := by rw [e1]; rfl
  have n11 : (at0 l 11).toNat = 32 := by rw [e2]; rfl
  have n14 : (at0 l 14).toNat = 58 := by rw [e3]; rfl
  have n17 : (at0 l 17).toNat = 58 := by rw [e4]; rfl
  have n20 : (at0 l 20).toNat = 32 := by rw [e5]; rfl
  have x0 := X 0 2
  have x1 := X 1 2
  have x36 := X 3 6
  have x7 := X 7 11
  have x12 := X 12 14
  have x15 := X 15 17
  have x18 := X 18 20
  have x22 := X 22 24
  have x24 := X 24 26
  have c7 := fun w => rdig_any (sl l 7 11) (by have := sl_len l 7 11; omega) w
  have c12 := fun w => rdig_any (sl l 12 14) (by have := sl_len l 12 14; omega) w
  have c15 := fun w => rdig_any (sl l 15 17) (by have := sl_len l 15 17; omega) w
  have c18 := fun w => rdig_any (sl l 18 20) (by have := sl_len l 18 20; omega) w
  have c22 := fun w => rdig_any (sl l 22 24) (by have := sl_len l 22 24; omega) w
  have c24 := fun w => rdig_any (sl l 24 26) (by have := sl_len l 24 26; omega) w
  have cd := fun w => rdig_any (dayR l) (by unfold dayR; have h1 := sl_len l 1 2; have h2 := sl_len l 0 2; split <;> omega) w
  generalize at0 l 2 = k2 at *
  generalize at0 l 6 = k6 at *
  generalize at0 l 11 = k11 at *
  generalize at0 l 14 = k14 at *
  generalize at0 l 17 = k17 at *
  generalize at0 l 20 = k20 at *
  have hn : (at0 l 21).toNat = 45 := by rw [hs]; rfl
  have hd : dayR l = sl l 1 2 := by unfold dayR; rw [if_pos h0]
  have hk : (at0 l 0).toNat = 32 := by rw [h0]; rfl
  have k48 : at0 l 0 ≠ 48 → ¬ ((at0 l 0).toNat : Int) = 48 := fun h => toNat_ne h
  unfold digsR at hB
  rw [hd] at cd hB
  generalize dV (sl l 1 2) = vd at *
  generalize dB (sl l 1 2) = fd at *
  generalize dV (sl l 7 11) = v7 at *
  generalize dB (sl l 7 11) = f7 at *
  generalize dV (sl l 12 14) = v12 at *
  generalize dB (sl l 12 14) = f12 at *
  generalize dV (sl l 15 17) = v15 at *
  generalize dB (sl l 15 17) = f15 at *
  generalize dV (sl l 18 20) = v18 at *
  generalize dB (sl l 18 20) = f18 at *
  generalize dV (sl l 22 24) = v22 at *
  generalize dB (sl l 22 24) = f22 at *
  generalize dV (sl l 24 26) = v24 at *
  generalize dB (sl l 24 26) = f24 at *
  generalize (⟨(sl l 0 2).toArray⟩ : ByteArray) = E0 at *
  generalize (⟨(sl l 1 2).toArray⟩ : ByteArray) = E1 at *
  generalize (⟨(sl l 3 6).toArray⟩ : ByteArray) = E36 at *
  generalize (⟨(sl l 7 11).toArray⟩ : ByteArray) = E7 at *
  generalize (⟨(sl l 12 14).toArray⟩ : ByteArray) = E12 at *
  generalize (⟨(sl l 15 17).toArray⟩ : ByteArray) = E15 at *
  generalize (⟨(sl l 18 20).toArray⟩ : ByteArray) = E18 at *
  generalize (⟨(sl l 22 24).toArray⟩ : ByteArray) = E22 at *
  generalize (⟨(sl l 24 26).toArray⟩ : ByteArray) = E24 at *
  generalize at0 l 0 = k0 at *
  generalize at0 l 21 = k21 at *
  generalize (⟨l.toArray⟩ : ByteArray) = S at *
  have b0 := a0 (by omega)
  have b2 := a2 (by omega)
  have b6 := a6 (by omega)
  have b11 := a11 (by omega)
  have b14 := a14 (by omega)
  have b17 := a17 (by omega)
  have b20 := a20 (by omega)
  have b21 := a21 (by omega)
  clear a0 a2 a6 a11 a14 a17 a20 a21 A X
  have h48 : k0 ≠ 48 := by rw [h0]; decide
  have ways : (fd = false) ∨ (fd = true ∧ f7 = false) ∨ (fd = true ∧ f7 = true ∧ f12 = false) ∨ (fd = true ∧ f7 = true ∧ f12 = true ∧ f15 = false) ∨ (fd = true ∧ f7 = true ∧ f12 = true ∧ f15 = true ∧ f18 = false) ∨ (fd = true ∧ f7 = true ∧ f12 = true ∧ f15 = true ∧ f18 = true ∧ f22 = false) ∨ (fd = true ∧ f7 = true ∧ f12 = true ∧ f15 = true ∧ f18 = true ∧ f22 = true ∧ f24 = false) ∨ (fd = true ∧ f7 = true ∧ f12 = true ∧ f15 = true ∧ f18 = true ∧ f22 = true ∧ f24 = true ∧ 14 < v22) ∨ (fd = true ∧ f7 = true ∧ f12 = true ∧ f15 = true ∧ f18 = true ∧ f22 = true ∧ f24 = true ∧ v22 ≤ 14 ∧ 59 < v24) := by
    revert hB
    cases fd <;> cases f7 <;> cases f12 <;> cases f15 <;> cases f18 <;> cases f22 <;> cases f24 <;> simp
    all_goals
      intro hB
      have := hB h48
      omega
  clear hB hd h0 hs e0 e1 e2 e3 e4 e5 e6 hlen
  rcases ways with rfl | ⟨rfl, rfl⟩ | ⟨rfl, rfl, rfl⟩ | ⟨rfl, rfl, rfl, rfl⟩ | ⟨rfl, rfl, rfl, rfl, rfl⟩ | ⟨rfl, rfl, rfl, rfl, rfl, rfl⟩ | ⟨rfl, rfl, rfl, rfl, rfl, rfl, rfl⟩ | ⟨rfl, rfl, rfl, rfl, rfl, rfl, rfl, q1⟩ | ⟨rfl, rfl, rfl, rfl, rfl, rfl, rfl, q1, q2⟩
  · have g48 := k48 h48
    have g48' : ((k0.toNat : Int) == 48) = false := by simpa using g48
    clear k48 h48
    go_enter Tryd.func19, Tryd.ntmps19
    go_wp2_with (go_at_call 35; with_reducible first | (refine (cd _).mono ?_; rintro e w' ⟨rfl, hw⟩; rw [hw]) | (refine (c7 _).mono ?_; rintro e w' ⟨rfl, hw⟩; rw [hw]) | (refine (c12 _).mono ?_; rintro e w' ⟨rfl, hw⟩; rw [hw]) | (refine (c15 _).mono ?_; rintro e w' ⟨rfl, hw⟩; rw [hw]) | (refine (c18 _).mono ?_; rintro e w' ⟨rfl, hw⟩; rw [hw]) | (refine (c22 _).mono ?_; rintro e w' ⟨rfl, hw⟩; rw [hw]) | (refine (c24 _).mono ?_; rintro e w' ⟨rfl, hw⟩; rw [hw]))
    go_ret2
    exact ⟨rfl, (Below.refl _ _).alloc (Nat.le_refl _) _⟩
  · have g48 := k48 h48
    have g48' : ((k0.toNat : Int) == 48) = false := by simpa using g48
    clear k48 h48
    go_enter Tryd.func19, Tryd.ntmps19
    go_wp2_with (go_at_call 35; with_reducible first | (refine (cd _).mono ?_; rintro e w' ⟨rfl, hw⟩; rw [hw]) | (refine (c7 _).mono ?_; rintro e w' ⟨rfl, hw⟩; rw [hw]) | (refine (c12 _).mono ?_; rintro e w' ⟨rfl, hw⟩; rw [hw]) | (refine (c15 _).mono ?_; rintro e w' ⟨rfl, hw⟩; rw [hw]) | (refine (c18 _).mono ?_; rintro e w' ⟨rfl, hw⟩; rw [hw]) | (refine (c22 _).mono ?_; rintro e w' ⟨rfl, hw⟩; rw [hw]) | (refine (c24 _).mono ?_; rintro e w' ⟨rfl, hw⟩; rw [hw]))
    go_ret2
    exact ⟨rfl, (Below.refl _ _).alloc (Nat.le_refl _) _⟩
  · have g48 := k48 h48
    have g48' : ((k0.toNat : Int) == 48) = false := by simpa using g48
    clear k48 h48
    go_enter Tryd.func19, Tryd.ntmps19
    go_wp2_with (go_at_call 35; with_reducible first | (refine (cd _).mono ?_; rintro e w' ⟨rfl, hw⟩; rw [hw]) | (refine (c7 _).mono ?_; rintro e w' ⟨rfl, hw⟩; rw [hw]) | (refine (c12 _).mono ?_; rintro e w' ⟨rfl, hw⟩; rw [hw]) | (refine (c15 _).mono ?_; rintro e w' ⟨rfl, hw⟩; rw [hw]) | (refine (c18 _).mono ?_; rintro e w' ⟨rfl, hw⟩; rw [hw]) | (refine (c22 _).mono ?_; rintro e w' ⟨rfl, hw⟩; rw [hw]) | (refine (c24 _).mono ?_; rintro e w' ⟨rfl, hw⟩; rw [hw]))
    go_ret2
    exact ⟨rfl, (Below.refl _ _).alloc (Nat.le_refl _) _⟩
  · have g48 := k48 h48
    have g48' : ((k0.toNat : Int) == 48) = false := by simpa using g48
    clear k48 h48
    go_enter Tryd.func19, Tryd.ntmps19
    go_wp2_with (go_at_call 35; with_reducible first | (refine (cd _).mono ?_; rintro e w' ⟨rfl, hw⟩; rw [hw]) | (refine (c7 _).mono ?_; rintro e w' ⟨rfl, hw⟩; rw [hw]) | (refine (c12 _).mono ?_; rintro e w' ⟨rfl, hw⟩; rw [hw]) | (refine (c15 _).mono ?_; rintro e w' ⟨rfl, hw⟩; rw [hw]) | (refine (c18 _).mono ?_; rintro e w' ⟨rfl, hw⟩; rw [hw]) | (refine (c22 _).mono ?_; rintro e w' ⟨rfl, hw⟩; rw [hw]) | (refine (c24 _).mono ?_; rintro e w' ⟨rfl, hw⟩; rw [hw]))
    go_ret2
    exact ⟨rfl, (Below.refl _ _).alloc (Nat.le_refl _) _⟩
  · have g48 := k48 h48
    have g48' : ((k0.toNat : Int) == 48) = false := by simpa using g48
    clear k48 h48
    go_enter Tryd.func19, Tryd.ntmps19
    go_wp2_with (go_at_call 35; with_reducible first | (refine (cd _).mono ?_; rintro e w' ⟨rfl, hw⟩; rw [hw]) | (refine (c7 _).mono ?_; rintro e w' ⟨rfl, hw⟩; rw [hw]) | (refine (c12 _).mono ?_; rintro e w' ⟨rfl, hw⟩; rw [hw]) | (refine (c15 _).mono ?_; rintro e w' ⟨rfl, hw⟩; rw [hw]) | (refine (c18 _).mono ?_; rintro e w' ⟨rfl, hw⟩; rw [hw]) | (refine (c22 _).mono ?_; rintro e w' ⟨rfl, hw⟩; rw [hw]) | (refine (c24 _).mono ?_; rintro e w' ⟨rfl, hw⟩; rw [hw]))
    go_ret2
    exact ⟨rfl, (Below.refl _ _).alloc (Nat.le_refl _) _⟩
  · have g48 := k48 h48
    have g48' : ((k0.toNat : Int) == 48) = false := by simpa using g48
    clear k48 h48
    go_enter Tryd.func19, Tryd.ntmps19
    go_wp2_with (go_at_call 35; with_reducible first | (refine (cd _).mono ?_; rintro e w' ⟨rfl, hw⟩; rw [hw]) | (refine (c7 _).mono ?_; rintro e w' ⟨rfl, hw⟩; rw [hw]) | (refine (c12 _).mono ?_; rintro e w' ⟨rfl, hw⟩; rw [hw]) | (refine (c15 _).mono ?_; rintro e w' ⟨rfl, hw⟩; rw [hw]) | (refine (c18 _).mono ?_; rintro e w' ⟨rfl, hw⟩; rw [hw]) | (refine (c22 _).mono ?_; rintro e w' ⟨rfl, hw⟩; rw [hw]) | (refine (c24 _).mono ?_; rintro e w' ⟨rfl, hw⟩; rw [hw]))
    go_ret2
    exact ⟨rfl, (Below.refl _ _).alloc (Nat.le_refl _) _⟩
  · have g48 := k48 h48
    have g48' : ((k0.toNat : Int) == 48) = false := by simpa using g48
    clear k48 h48
    go_enter Tryd.func19, Tryd.ntmps19
    go_wp2_with (go_at_call 35; with_reducible first | (refine (cd _).mono ?_; rintro e w' ⟨rfl, hw⟩; rw [hw]) | (refine (c7 _).mono ?_; rintro e w' ⟨rfl, hw⟩; rw [hw]) | (refine (c12 _).mono ?_; rintro e w' ⟨rfl, hw⟩; rw [hw]) | (refine (c15 _).mono ?_; rintro e w' ⟨rfl, hw⟩; rw [hw]) | (refine (c18 _).mono ?_; rintro e w' ⟨rfl, hw⟩; rw [hw]) | (refine (c22 _).mono ?_; rintro e w' ⟨rfl, hw⟩; rw [hw]) | (refine (c24 _).mono ?_; rintro e w' ⟨rfl, hw⟩; rw [hw]))
    go_ret2
    exact ⟨rfl, (Below.refl _ _).alloc (Nat.le_refl _) _⟩
  · have g48 := k48 h48
    have g48' : ((k0.toNat : Int) == 48) = false := by simpa using g48
    clear k48 h48
    have g1 : (14 : Int) < v22 := by omega
    clear q1
    go_enter Tryd.func19, Tryd.ntmps19
    go_wp2_with (go_at_call 35; with_reducible first | (refine (cd _).mono ?_; rintro e w' ⟨rfl, hw⟩; rw [hw]) | (refine (c7 _).mono ?_; rintro e w' ⟨rfl, hw⟩; rw [hw]) | (refine (c12 _).mono ?_; rintro e w' ⟨rfl, hw⟩; rw [hw]) | (refine (c15 _).mono ?_; rintro e w' ⟨rfl, hw⟩; rw [hw]) | (refine (c18 _).mono ?_; rintro e w' ⟨rfl, hw⟩; rw [hw]) | (refine (c22 _).mono ?_; rintro e w' ⟨rfl, hw⟩; rw [hw]) | (refine (c24 _).mono ?_; rintro e w' ⟨rfl, hw⟩; rw [hw]))
    go_ret2
    exact ⟨rfl, (Below.refl _ _).alloc (Nat.le_refl _) _⟩
  · have g48 := k48 h48
    have g48' : ((k0.toNat : Int) == 48) = false := by simpa using g48
    clear k48 h48
    have g1 : ¬ (14 : Int) < v22 := by omega
    have g2 : (59 : Int) < v24 := by omega
    clear q1 q2
    go_enter Tryd.func19, Tryd.ntmps19
    go_wp2_with (go_at_call 35; with_reducible first | (refine (cd _).mono ?_; rintro e w' ⟨rfl, hw⟩; rw [hw]) | (refine (c7 _).mono ?_; rintro e w' ⟨rfl, hw⟩; rw [hw]) | (refine (c12 _).mono ?_; rintro e w' ⟨rfl, hw⟩; rw [hw]) | (refine (c15 _).mono ?_; rintro e w' ⟨rfl, hw⟩; rw [hw]) | (refine (c18 _).mono ?_; rintro e w' ⟨rfl, hw⟩; rw [hw]) | (refine (c22 _).mono ?_; rintro e w' ⟨rfl, hw⟩; rw [hw]) | (refine (c24 _).mono ?_; rintro e w' ⟨rfl, hw⟩; rw [hw]))
    go_ret2
    exact ⟨rfl, (Below.refl _ _).alloc (Nat.le_refl _) _⟩
set_option maxHeartbeats 4000000 in
set_option maxRecDepth 20000 in
theorem rparse_bad_d43 (l : List UInt8) (hM : marksR l) (hB : ¬ digsR l) (h0 : at0 l 0 ≠ 32) (hs : at0 l 21 = 43) (w : World) :
    Calls Tryd.prog 19 #[.string ⟨l.toArray⟩] w fun e w' => e = .returned (.tuple #[.int .i64 0, .int .i64 80]) ∧ Below w.heap.size w w' := by
  obtain ⟨hlen, e0, e1, e2, e3, e4, e5, e6⟩ := hM
  have hz : (⟨l.toArray⟩ : ByteArray).size = 26 := hlen
  have A := str_at l
  have X := str_sl l
  have a0 := A 0
  have a2 := A 2
  have a6 := A 6
  have a11 := A 11
  have a14 := A 14
  have a17 := A 17
  have a20 := A 20
  have a21 := A 21
  have n2 : (at0 l 2).toNat = 45 := by rw [e0]; rfl
  have n6 : (at0 l 6).toNat = 45 := by rw [e1]; rfl
  have n11 : (at0 l 11).toNat = 32 := by rw [e2]; rfl
  have n14 : (at0 l 14).toNat = 58 := by rw [e3]; rfl
  have n17 : (at0 l 17).toNat = 58 := by rw [e4]; rfl
  have n20 : (at0 l 20).toNat = 32 := by rw [e5]; rfl
  have x0 := X 0 2
  have x1 := X 1 2
  have x36 := X 3 6
  have x7 := X 7 11
  have x12 := X 12 14
  have x15 := X 15 17
  have x18 := X 18 20
  have x22 := X 22 24
  have x24 := X 24 26
  have c7 := fun w => rdig_any (sl l 7 11) (by have := sl_len l 7 11; omega) w
  have c12 := fun w => rdig_any (sl l 12 14) (by have := sl_len l 12 14; omega) w
  have c15 := fun w => rdig_any (sl l 15 17) (by have := sl_len l 15 17; omega) w
  have c18 := fun w => rdig_any (sl l 18 20) (by have := sl_len l 18 20; omega) w
  have c22 := fun w => rdig_any (sl l 22 24) (by have := sl_len l 22 24; omega) w
  have c24 := fun w => rdig_any (sl l 24 26) (by have := sl_len l 24 26; omega) w
  have cd := fun w => rdig_any (dayR l) (by unfold dayR; have h1 := sl_len l 1 2; have h2 := sl_len l 0 2; split <;> omega) w
  generalize at0 l 2 = k2 at *
  generalize at0 l 6 = k6 at *
  generalize at0 l 11 = k11 at *
  generalize at0 l 14 = k14 at *
  generalize at0 l 17 = k17 at *
  generalize at0 l 20 = k20 at *
  have hn : (at0 l 21).toNat = 43 := by rw [hs]; rfl
  have hd : dayR l = sl l 0 2 := by unfold dayR; rw [if_neg h0]
  have hk : ¬ ((at0 l 0).toNat : Int) = 32 := toNat_ne h0
  have hk' : (((at0 l 0).toNat : Int) == 32) = false := by simpa using hk
  have k48 : at0 l 0 ≠ 48 → ¬ ((at0 l 0).toNat : Int) = 48 := fun h => toNat_ne h
  unfold digsR at hB
  rw [hd] at cd hB
  generalize dV (sl l 0 2) = vd at *
  generalize dB (sl l 0 2) = fd at *
  generalize dV (sl l 7 11) = v7 at *
  generalize dB (sl l 7 11) = f7 at *
  generalize dV (sl l 12 14) = v12 at *
  generalize dB (sl l 12 14) = f12 at *
  generalize dV (sl l 15 17) = v15 at *
  generalize dB (sl l 15 17) = f15 at *
  generalize dV (sl l 18 20) = v18 at *
  generalize dB (sl l 18 20) = f18 at *
  generalize dV (sl l 22 24) = v22 at *
  generalize dB (sl l 22 24) = f22 at *
  generalize dV (sl l 24 26) = v24 at *
  generalize dB (sl l 24 26) = f24 at *
  generalize (⟨(sl l 0 2).toArray⟩ : ByteArray) = E0 at *
  generalize (⟨(sl l 1 2).toArray⟩ : ByteArray) = E1 at *
  generalize (⟨(sl l 3 6).toArray⟩ : ByteArray) = E36 at *
  generalize (⟨(sl l 7 11).toArray⟩ : ByteArray) = E7 at *
  generalize (⟨(sl l 12 14).toArray⟩ : ByteArray) = E12 at *
  generalize (⟨(sl l 15 17).toArray⟩ : ByteArray) = E15 at *
  generalize (⟨(sl l 18 20).toArray⟩ : ByteArray) = E18 at *
  generalize (⟨(sl l 22 24).toArray⟩ : ByteArray) = E22 at *
  generalize (⟨(sl l 24 26).toArray⟩ : ByteArray) = E24 at *
  generalize at0 l 0 = k0 at *
  generalize at0 l 21 = k21 at *
  generalize (⟨l.toArray⟩ : ByteArray) = S at *
  have b0 := a0 (by omega)
  have b2 := a2 (by omega)
  have b6 := a6 (by omega)
  have b11 := a11 (by omega)
  have b14 := a14 (by omega)
  have b17 := a17 (by omega)
  have b20 := a20 (by omega)
  have b21 := a21 (by omega)
  clear a0 a2 a6 a11 a14 a17 a20 a21 A X
  have ways : (fd = false) ∨ (fd = true ∧ f7 = false) ∨ (fd = true ∧ f7 = true ∧ f12 = false) ∨ (fd = true ∧ f7 = true ∧ f12 = true ∧ f15 = false) ∨ (fd = true ∧ f7 = true ∧ f12 = true ∧ f15 = true ∧ f18 = false) ∨ (fd = true ∧ f7 = true ∧ f12 = true ∧ f15 = true ∧ f18 = true ∧ f22 = false) ∨ (fd = true ∧ f7 = true ∧ f12 = true ∧ f15 = true ∧ f18 = true ∧ f22 = true ∧ f24 = false) ∨ (fd = true ∧ f7 = true ∧ f12 = true ∧ f15 = true ∧ f18 = true ∧ f22 = true ∧ f24 = true ∧ k0 = 48) ∨ (fd = true ∧ f7 = true ∧ f12 = true ∧ f15 = true ∧ f18 = true ∧ f22 = true ∧ f24 = true ∧ k0 ≠ 48 ∧ 14 < v22) ∨ (fd = true ∧ f7 = true ∧ f12 = true ∧ f15 = true ∧ f18 = true ∧ f22 = true ∧ f24 = true ∧ k0 ≠ 48 ∧ v22 ≤ 14 ∧ 59 < v24) := by
    revert hB
    cases fd <;> cases f7 <;> cases f12 <;> cases f15 <;> cases f18 <;> cases f22 <;> cases f24 <;> simp
    all_goals
      intro hB
      by_cases q : k0 = 48
      · exact .inl q
      · have := hB q
        right
        by_cases q2 : 14 < v22
        · exact .inl ⟨q, q2⟩
        · exact .inr ⟨q, by omega, this (by omega)⟩
  clear hB hd h0 hs e0 e1 e2 e3 e4 e5 e6 hlen
  rcases ways with rfl | ⟨rfl, rfl⟩ | ⟨rfl, rfl, rfl⟩ | ⟨rfl, rfl, rfl, rfl⟩ | ⟨rfl, rfl, rfl, rfl, rfl⟩ | ⟨rfl, rfl, rfl, rfl, rfl, rfl⟩ | ⟨rfl, rfl, rfl, rfl, rfl, rfl, rfl⟩ | ⟨rfl, rfl, rfl, rfl, rfl, rfl, rfl, q0⟩ | ⟨rfl, rfl, rfl, rfl, rfl, rfl, rfl, q0, q1⟩ | ⟨rfl, rfl, rfl, rfl, rfl, rfl, rfl, q0, q1, q2⟩
  · clear k48
    go_enter Tryd.func19, Tryd.ntmps19
    go_wp2_with (go_at_call 35; with_reducible first | (refine (cd _).mono ?_; rintro e w' ⟨rfl, hw⟩; rw [hw]) | (refine (c7 _).mono ?_; rintro e w' ⟨rfl, hw⟩; rw [hw]) | (refine (c12 _).mono ?_; rintro e w' ⟨rfl, hw⟩; rw [hw]) | (refine (c15 _).mono ?_; rintro e w' ⟨rfl, hw⟩; rw [hw]) | (refine (c18 _).mono ?_; rintro e w' ⟨rfl, hw⟩; rw [hw]) | (refine (c22 _).mono ?_; rintro e w' ⟨rfl, hw⟩; rw [hw]) | (refine (c24 _).mono ?_; rintro e w' ⟨rfl, hw⟩; rw [hw]))
    go_ret2
    exact ⟨rfl, (Below.refl _ _).alloc (Nat.le_refl _) _⟩
  · clear k48
    go_enter Tryd.func19, Tryd.ntmps19
    go_wp2_with (go_at_call 35; with_reducible first | (refine (cd _).mono ?_; rintro e w' ⟨rfl, hw⟩; rw [hw]) | (refine (c7 _).mono ?_; rintro e w' ⟨rfl, hw⟩; rw [hw]) | (refine (c12 _).mono ?_; rintro e w' ⟨rfl, hw⟩; rw [hw]) | (refine (c15 _).mono ?_; rintro e w' ⟨rfl, hw⟩; rw [hw]) | (refine (c18 _).mono ?_; rintro e w' ⟨rfl, hw⟩; rw [hw]) | (refine (c22 _).mono ?_; rintro e w' ⟨rfl, hw⟩; rw [hw]) | (refine (c24 _).mono ?_; rintro e w' ⟨rfl, hw⟩; rw [hw]))
    go_ret2
    exact ⟨rfl, (Below.refl _ _).alloc (Nat.le_refl _) _⟩
  · clear k48
    go_enter Tryd.func19, Tryd.ntmps19
    go_wp2_with (go_at_call 35; with_reducible first | (refine (cd _).mono ?_; rintro e w' ⟨rfl, hw⟩; rw [hw]) | (refine (c7 _).mono ?_; rintro e w' ⟨rfl, hw⟩; rw [hw]) | (refine (c12 _).mono ?_; rintro e w' ⟨rfl, hw⟩; rw [hw]) | (refine (c15 _).mono ?_; rintro e w' ⟨rfl, hw⟩; rw [hw]) | (refine (c18 _).mono ?_; rintro e w' ⟨rfl, hw⟩; rw [hw]) | (refine (c22 _).mono ?_; rintro e w' ⟨rfl, hw⟩; rw [hw]) | (refine (c24 _).mono ?_; rintro e w' ⟨rfl, hw⟩; rw [hw]))
    go_ret2
    exact ⟨rfl, (Below.refl _ _).alloc (Nat.le_refl _) _⟩
  · clear k48
    go_enter Tryd.func19, Tryd.ntmps19
    go_wp2_with (go_at_call 35; with_reducible first | (refine (cd _).mono ?_; rintro e w' ⟨rfl, hw⟩; rw [hw]) | (refine (c7 _).mono ?_; rintro e w' ⟨rfl, hw⟩; rw [hw]) | (refine (c12 _).mono ?_; rintro e w' ⟨rfl, hw⟩; rw [hw]) | (refine (c15 _).mono ?_; rintro e w' ⟨rfl, hw⟩; rw [hw]) | (refine (c18 _).mono ?_; rintro e w' ⟨rfl, hw⟩; rw [hw]) | (refine (c22 _).mono ?_; rintro e w' ⟨rfl, hw⟩; rw [hw]) | (refine (c24 _).mono ?_; rintro e w' ⟨rfl, hw⟩; rw [hw]))
    go_ret2
    exact ⟨rfl, (Below.refl _ _).alloc (Nat.le_refl _) _⟩
  · clear k48
    go_enter Tryd.func19, Tryd.ntmps19
    go_wp2_with (go_at_call 35; with_reducible first | (refine (cd _).mono ?_; rintro e w' ⟨rfl, hw⟩; rw [hw]) | (refine (c7 _).mono ?_; rintro e w' ⟨rfl, hw⟩; rw [hw]) | (refine (c12 _).mono ?_; rintro e w' ⟨rfl, hw⟩; rw [hw]) | (refine (c15 _).mono ?_; rintro e w' ⟨rfl, hw⟩; rw [hw]) | (refine (c18 _).mono ?_; rintro e w' ⟨rfl, hw⟩; rw [hw]) | (refine (c22 _).mono ?_; rintro e w' ⟨rfl, hw⟩; rw [hw]) | (refine (c24 _).mono ?_; rintro e w' ⟨rfl, hw⟩; rw [hw]))
    go_ret2
    exact ⟨rfl, (Below.refl _ _).alloc (Nat.le_refl _) _⟩
  · clear k48
    go_enter Tryd.func19, Tryd.ntmps19
    go_wp2_with (go_at_call 35; with_reducible first | (refine (cd _).mono ?_; rintro e w' ⟨rfl, hw⟩; rw [hw]) | (refine (c7 _).mono ?_; rintro e w' ⟨rfl, hw⟩; rw [hw]) | (refine (c12 _).mono ?_; rintro e w' ⟨rfl, hw⟩; rw [hw]) | (refine (c15 _).mono ?_; rintro e w' ⟨rfl, hw⟩; rw [hw]) | (refine (c18 _).mono ?_; rintro e w' ⟨rfl, hw⟩; rw [hw]) | (refine (c22 _).mono ?_; rintro e w' ⟨rfl, hw⟩; rw [hw]) | (refine (c24 _).mono ?_; rintro e w' ⟨rfl, hw⟩; rw [hw]))
    go_ret2
    exact ⟨rfl, (Below.refl _ _).alloc (Nat.le_refl _) _⟩
  · clear k48
    go_enter Tryd.func19, Tryd.ntmps19
    go_wp2_with (go_at_call 35; with_reducible first | (refine (cd _).mono ?_; rintro e w' ⟨rfl, hw⟩; rw [hw]) | (refine (c7 _).mono ?_; rintro e w' ⟨rfl, hw⟩; rw [hw]) | (refine (c12 _).mono ?_; rintro e w' ⟨rfl, hw⟩; rw [hw]) | (refine (c15 _).mono ?_; rintro e w' ⟨rfl, hw⟩; rw [hw]) | (refine (c18 _).mono ?_; rintro e w' ⟨rfl, hw⟩; rw [hw]) | (refine (c22 _).mono ?_; rintro e w' ⟨rfl, hw⟩; rw [hw]) | (refine (c24 _).mono ?_; rintro e w' ⟨rfl, hw⟩; rw [hw]))
    go_ret2
    exact ⟨rfl, (Below.refl _ _).alloc (Nat.le_refl _) _⟩
  · have g48 : k0.toNat = 48 := by rw [q0]; rfl
    clear k48 q0 hk hk'
    go_enter Tryd.func19, Tryd.ntmps19
    go_wp2_with (go_at_call 35; with_reducible first | (refine (cd _).mono ?_; rintro e w' ⟨rfl, hw⟩; rw [hw]) | (refine (c7 _).mono ?_; rintro e w' ⟨rfl, hw⟩; rw [hw]) | (refine (c12 _).mono ?_; rintro e w' ⟨rfl, hw⟩; rw [hw]) | (refine (c15 _).mono ?_; rintro e w' ⟨rfl, hw⟩; rw [hw]) | (refine (c18 _).mono ?_; rintro e w' ⟨rfl, hw⟩; rw [hw]) | (refine (c22 _).mono ?_; rintro e w' ⟨rfl, hw⟩; rw [hw]) | (refine (c24 _).mono ?_; rintro e w' ⟨rfl, hw⟩; rw [hw]))
    go_ret2
    exact ⟨rfl, (Below.refl _ _).alloc (Nat.le_refl _) _⟩
  · have g48 := k48 q0
    have g48' : ((k0.toNat : Int) == 48) = false := by simpa using g48
    clear k48 q0
    have g1 : (14 : Int) < v22 := by omega
    clear q1
    go_enter Tryd.func19, Tryd.ntmps19
    go_wp2_with (go_at_call 35; with_reducible first | (refine (cd _).mono ?_; rintro e w' ⟨rfl, hw⟩; rw [hw]) | (refine (c7 _).mono ?_; rintro e w' ⟨rfl, hw⟩; rw [hw]) | (refine (c12 _).mono ?_; rintro e w' ⟨rfl, hw⟩; rw [hw]) | (refine (c15 _).mono ?_; rintro e w' ⟨rfl, hw⟩; rw [hw]) | (refine (c18 _).mono ?_; rintro e w' ⟨rfl, hw⟩; rw [hw]) | (refine (c22 _).mono ?_; rintro e w' ⟨rfl, hw⟩; rw [hw]) | (refine (c24 _).mono ?_; rintro e w' ⟨rfl, hw⟩; rw [hw]))
    go_ret2
    exact ⟨rfl, (Below.refl _ _).alloc (Nat.le_refl _) _⟩
  · have g48 := k48 q0
    have g48' : ((k0.toNat : Int) == 48) = false := by simpa using g48
    clear k48 q0
    have g1 : ¬ (14 : Int) < v22 := by omega
    have g2 : (59 : Int) < v24 := by omega
    clear q1 q2
    go_enter Tryd.func19, Tryd.ntmps19
    go_wp2_with (go_at_call 35; with_reducible first | (refine (cd _).mono ?_; rintro e w' ⟨rfl, hw⟩; rw [hw]) | (refine (c7 _).mono ?_; rintro e w' ⟨rfl, hw⟩; rw [hw]) | (refine (c12 _).mono ?_; rintro e w' ⟨rfl, hw⟩; rw [hw]) | (refine (c15 _).mono ?_; rintro e w' ⟨rfl, hw⟩; rw [hw]) | (refine (c18 _).mono ?_; rintro e w' ⟨rfl, hw⟩; rw [hw]) | (refine (c22 _).mono ?_; rintro e w' ⟨rfl, hw⟩; rw [hw]) | (refine (c24 _).mono ?_; rintro e w' ⟨rfl, hw⟩; rw [hw]))
    go_ret2
    exact ⟨rfl, (Below.refl _ _).alloc (Nat.le_refl _) _⟩
set_option maxHeartbeats 4000000 in
set_option maxRecDepth 20000 in
theorem rparse_bad_d45 (l : List UInt8) (hM : marksR l) (hB : ¬ digsR l) (h0 : at0 l 0 ≠ 32) (hs : at0 l 21 = 45) (w : World) :
    Calls Tryd.prog 19 #[.string ⟨l.toArray⟩] w fun e w' => e = .returned (.tuple #[.int .i64 0, .int .i64 80]) ∧ Below w.heap.size w w' := by
  obtain ⟨hlen, e0, e1, e2, e3, e4, e5, e6⟩ := hM
  have hz : (⟨l.toArray⟩ : ByteArray).size = 26 := hlen
  have A := str_at l
  have X := str_sl l
  have a0 := A 0
  have a2 := A 2
  have a6 := A 6
  have a11 := A 11
  have a14 := A 14
  have a17 := A 17
  have a20 := A 20
  have a21 := A 21
  have n2 : (at0 l 2).toNat = 45 := by rw [e0]; rfl
  have n6 : (at0 l 6).toNat = 45 := by rw [e1]; rfl
  have n11 : (at0 l 11).toNat = 32 := by rw [e2]; rfl
  have n14 : (at0 l 14).toNat = 58 := by rw [e3]; rfl
  have n17 : (at0 l 17).toNat = 58 := by rw [e4]; rfl
  have n20 : (at0 l 20).toNat = 32 := by rw [e5]; rfl
  have x0 := X 0 2
  have x1 := X 1 2
  have x36 := X 3 6
  have x7 := X 7 11
  have x12 := X 12 14
  have x15 := X 15 17
  have x18 := X 18 20
  have x22 := X 22 24
  have x24 := X 24 26
  have c7 := fun w => rdig_any (sl l 7 11) (by have := sl_len l 7 11; omega) w
  have c12 := fun w => rdig_any (sl l 12 14) (by have := sl_len l 12 14; omega) w
  have c15 := fun w => rdig_any (sl l 15 17) (by have := sl_len l 15 17; omega) w
  have c18 := fun w => rdig_any (sl l 18 20) (by have := sl_len l 18 20; omega) w
  have c22 := fun w => rdig_any (sl l 22 24) (by have := sl_len l 22 24; omega) w
  have c24 := fun w => rdig_any (sl l 24 26) (by have := sl_len l 24 26; omega) w
  have cd := fun w => rdig_any (dayR l) (by unfold dayR; have h1 := sl_len l 1 2; have h2 := sl_len l 0 2; split <;> omega) w
  generalize at0 l 2 = k2 at *
  generalize at0 l 6 = k6 at *
  generalize at0 l 11 = k11 at *
  generalize at0 l 14 = k14 at *
  generalize at0 l 17 = k17 at *
  generalize at0 l 20 = k20 at *
  have hn : (at0 l 21).toNat = 45 := by rw [hs]; rfl
  have hd : dayR l = sl l 0 2 := by unfold dayR; rw [if_neg h0]
  have hk : ¬ ((at0 l 0).toNat : Int) = 32 := toNat_ne h0
  have hk' : (((at0 l 0).toNat : Int) == 32) = false := by simpa using hk
  have k48 : at0 l 0 ≠ 48 → ¬ ((at0 l 0).toNat : Int) = 48 := fun h => toNat_ne h
  unfold digsR at hB
  rw [hd] at cd hB
  generalize dV (sl l 0 2) = vd at *
  generalize dB (sl l 0 2) = fd at *
  generalize dV (sl l 7 11) = v7 at *
  generalize dB (sl l 7 11) = f7 at *
  generalize dV (sl l 12 14) = v12 at *
  generalize dB (sl l 12 14) = f12 at *
  generalize dV (sl l 15 17) = v15 at *
  generalize dB (sl l 15 17) = f15 at *
  generalize dV (sl l 18 20) = v18 at *
  generalize dB (sl l 18 20) = f18 at *
  generalize dV (sl l 22 24) = v22 at *
  generalize dB (sl l 22 24) = f22 at *
  generalize dV (sl l 24 26) = v24 at *
  generalize dB (sl l 24 26) = f24 at *
  generalize (⟨(sl l 0 2).toArray⟩ : ByteArray) = E0 at *
  generalize (⟨(sl l 1 2).toArray⟩ : ByteArray) = E1 at *
  generalize (⟨(sl l 3 6).toArray⟩ : ByteArray) = E36 at *
  generalize (⟨(sl l 7 11).toArray⟩ : ByteArray) = E7 at *
  generalize (⟨(sl l 12 14).toArray⟩ : ByteArray) = E12 at *
  generalize (⟨(sl l 15 17).toArray⟩ : ByteArray) = E15 at *
  generalize (⟨(sl l 18 20).toArray⟩ : ByteArray) = E18 at *
  generalize (⟨(sl l 22 24).toArray⟩ : ByteArray) = E22 at *
  generalize (⟨(sl l 24 26).toArray⟩ : ByteArray) = E24 at *
  generalize at0 l 0 = k0 at *
  generalize at0 l 21 = k21 at *
  generalize (⟨l.toArray⟩ : ByteArray) = S at *
  have b0 := a0 (by omega)
  have b2 := a2 (by omega)
  have b6 := a6 (by omega)
  have b11 := a11 (by omega)
  have b14 := a14 (by omega)
  have b17 := a17 (by omega)
  have b20 := a20 (by omega)
  have b21 := a21 (by omega)
  clear a0 a2 a6 a11 a14 a17 a20 a21 A X
  have ways : (fd = false) ∨ (fd = true ∧ f7 = false) ∨ (fd = true ∧ f7 = true ∧ f12 = false) ∨ (fd = true ∧ f7 = true ∧ f12 = true ∧ f15 = false) ∨ (fd = true ∧ f7 = true ∧ f12 = true ∧ f15 = true ∧ f18 = false) ∨ (fd = true ∧ f7 = true ∧ f12 = true ∧ f15 = true ∧ f18 = true ∧ f22 = false) ∨ (fd = true ∧ f7 = true ∧ f12 = true ∧ f15 = true ∧ f18 = true ∧ f22 = true ∧ f24 = false) ∨ (fd = true ∧ f7 = true ∧ f12 = true ∧ f15 = true ∧ f18 = true ∧ f22 = true ∧ f24 = true ∧ k0 = 48) ∨ (fd = true ∧ f7 = true ∧ f12 = true ∧ f15 = true ∧ f18 = true ∧ f22 = true ∧ f24 = true ∧ k0 ≠ 48 ∧ 14 < v22) ∨ (fd = true ∧ f7 = true ∧ f12 = true ∧ f15 = true ∧ f18 = true ∧ f22 = true ∧ f24 = true ∧ k0 ≠ 48 ∧ v22 ≤ 14 ∧ 59 < v24) := by
    revert hB
    cases fd <;> cases f7 <;> cases f12 <;> cases f15 <;> cases f18 <;> cases f22 <;> cases f24 <;> simp
    all_goals
      intro hB
      by_cases q : k0 = 48
      · exact .inl q
      · have := hB q
        right
        by_cases q2 : 14 < v22
        · exact .inl ⟨q, q2⟩
        · exact .inr ⟨q, by omega, this (by omega)⟩
  clear hB hd h0 hs e0 e1 e2 e3 e4 e5 e6 hlen
  rcases ways with rfl | ⟨rfl, rfl⟩ | ⟨rfl, rfl, rfl⟩ | ⟨rfl, rfl, rfl, rfl⟩ | ⟨rfl, rfl, rfl, rfl, rfl⟩ | ⟨rfl, rfl, rfl, rfl, rfl, rfl⟩ | ⟨rfl, rfl, rfl, rfl, rfl, rfl, rfl⟩ | ⟨rfl, rfl, rfl, rfl, rfl, rfl, rfl, q0⟩ | ⟨rfl, rfl, rfl, rfl, rfl, rfl, rfl, q0, q1⟩ | ⟨rfl, rfl, rfl, rfl, rfl, rfl, rfl, q0, q1, q2⟩
  · clear k48
    go_enter Tryd.func19, Tryd.ntmps19
    go_wp2_with (go_at_call 35; with_reducible first | (refine (cd _).mono ?_; rintro e w' ⟨rfl, hw⟩; rw [hw]) | (refine (c7 _).mono ?_; rintro e w' ⟨rfl, hw⟩; rw [hw]) | (refine (c12 _).mono ?_; rintro e w' ⟨rfl, hw⟩; rw [hw]) | (refine (c15 _).mono ?_; rintro e w' ⟨rfl, hw⟩; rw [hw]) | (refine (c18 _).mono ?_; rintro e w' ⟨rfl, hw⟩; rw [hw]) | (refine (c22 _).mono ?_; rintro e w' ⟨rfl, hw⟩; rw [hw]) | (refine (c24 _).mono ?_; rintro e w' ⟨rfl, hw⟩; rw [hw]))
    go_ret2
    exact ⟨rfl, (Below.refl _ _).alloc (Nat.le_refl _) _⟩
  · clear k48
    go_enter Tryd.func19, Tryd.ntmps19
    go_wp2_with (go_at_call 35; with_reducible first | (refine (cd _).mono ?_; rintro e w' ⟨rfl, hw⟩; rw [hw]) | (refine (c7 _).mono ?_; rintro e w' ⟨rfl, hw⟩; rw [hw]) | (refine (c12 _).mono ?_; rintro e w' ⟨rfl, hw⟩; rw [hw]) | (refine (c15 _).mono ?_; rintro e w' ⟨rfl, hw⟩; rw [hw]) | (refine (c18 _).mono ?_; rintro e w' ⟨rfl, hw⟩; rw [hw]) | (refine (c22 _).mono ?_; rintro e w' ⟨rfl, hw⟩; rw [hw]) | (refine (c24 _).mono ?_; rintro e w' ⟨rfl, hw⟩; rw [hw]))
    go_ret2
    exact ⟨rfl, (Below.refl _ _).alloc (Nat.le_refl _) _⟩
  · clear k48
    go_enter Tryd.func19, Tryd.ntmps19
    go_wp2_with (go_at_call 35; with_reducible first | (refine (cd _).mono ?_; rintro e w' ⟨rfl, hw⟩; rw [hw]) | (refine (c7 _).mono ?_; rintro e w' ⟨rfl, hw⟩; rw [hw]) | (refine (c12 _).mono ?_; rintro e w' ⟨rfl, hw⟩; rw [hw]) | (refine (c15 _).mono ?_; rintro e w' ⟨rfl, hw⟩; rw [hw]) | (refine (c18 _).mono ?_; rintro e w' ⟨rfl, hw⟩; rw [hw]) | (refine (c22 _).mono ?_; rintro e w' ⟨rfl, hw⟩; rw [hw]) | (refine (c24 _).mono ?_; rintro e w' ⟨rfl, hw⟩; rw [hw]))
    go_ret2
    exact ⟨rfl, (Below.refl _ _).alloc (Nat.le_refl _) _⟩
  · clear k48
    go_enter Tryd.func19, Tryd.ntmps19
    go_wp2_with (go_at_call 35; with_reducible first | (refine (cd _).mono ?_; rintro e w' ⟨rfl, hw⟩; rw [hw]) | (refine (c7 _).mono ?_; rintro e w' ⟨rfl, hw⟩; rw [hw]) | (refine (c12 _).mono ?_; rintro e w' ⟨rfl, hw⟩; rw [hw]) | (refine (c15 _).mono ?_; rintro e w' ⟨rfl, hw⟩; rw [hw]) | (refine (c18 _).mono ?_; rintro e w' ⟨rfl, hw⟩; rw [hw]) | (refine (c22 _).mono ?_; rintro e w' ⟨rfl, hw⟩; rw [hw]) | (refine (c24 _).mono ?_; rintro e w' ⟨rfl, hw⟩; rw [hw]))
    go_ret2
    exact ⟨rfl, (Below.refl _ _).alloc (Nat.le_refl _) _⟩
  · clear k48
    go_enter Tryd.func19, Tryd.ntmps19
    go_wp2_with (go_at_call 35; with_reducible first | (refine (cd _).mono ?_; rintro e w' ⟨rfl, hw⟩; rw [hw]) | (refine (c7 _).mono ?_; rintro e w' ⟨rfl, hw⟩; rw [hw]) | (refine (c12 _).mono ?_; rintro e w' ⟨rfl, hw⟩; rw [hw]) | (refine (c15 _).mono ?_; rintro e w' ⟨rfl, hw⟩; rw [hw]) | (refine (c18 _).mono ?_; rintro e w' ⟨rfl, hw⟩; rw [hw]) | (refine (c22 _).mono ?_; rintro e w' ⟨rfl, hw⟩; rw [hw]) | (refine (c24 _).mono ?_; rintro e w' ⟨rfl, hw⟩; rw [hw]))
    go_ret2
    exact ⟨rfl, (Below.refl _ _).alloc (Nat.le_refl _) _⟩
  · clear k48
    go_enter Tryd.func19, Tryd.ntmps19
    go_wp2_with (go_at_call 35; with_reducible first | (refine (cd _).mono ?_; rintro e w' ⟨rfl, hw⟩; rw [hw]) | (refine (c7 _).mono ?_; rintro e w' ⟨rfl, hw⟩; rw [hw]) | (refine (c12 _).mono ?_; rintro e w' ⟨rfl, hw⟩; rw [hw]) | (refine (c15 _).mono ?_; rintro e w' ⟨rfl, hw⟩; rw [hw]) | (refine (c18 _).mono ?_; rintro e w' ⟨rfl, hw⟩; rw [hw]) | (refine (c22 _).mono ?_; rintro e w' ⟨rfl, hw⟩; rw [hw]) | (refine (c24 _).mono ?_; rintro e w' ⟨rfl, hw⟩; rw [hw]))
    go_ret2
    exact ⟨rfl, (Below.refl _ _).alloc (Nat.le_refl _) _⟩
  · clear k48
    go_enter Tryd.func19, Tryd.ntmps19
    go_wp2_with (go_at_call 35; with_reducible first | (refine (cd _).mono ?_; rintro e w' ⟨rfl, hw⟩; rw [hw]) | (refine (c7 _).mono ?_; rintro e w' ⟨rfl, hw⟩; rw [hw]) | (refine (c12 _).mono ?_; rintro e w' ⟨rfl, hw⟩; rw [hw]) | (refine (c15 _).mono ?_; rintro e w' ⟨rfl, hw⟩; rw [hw]) | (refine (c18 _).mono ?_; rintro e w' ⟨rfl, hw⟩; rw [hw]) | (refine (c22 _).mono ?_; rintro e w' ⟨rfl, hw⟩; rw [hw]) | (refine (c24 _).mono ?_; rintro e w' ⟨rfl, hw⟩; rw [hw]))
    go_ret2
    exact ⟨rfl, (Below.refl _ _).alloc (Nat.le_refl _) _⟩
  · have g48 : k0.toNat = 48 := by rw [q0]; rfl
    clear k48 q0 hk hk'
    go_enter Tryd.func19, Tryd.ntmps19
    go_wp2_with (go_at_call 35; with_reducible first | (refine (cd _).mono ?_; rintro e w' ⟨rfl, hw⟩; rw [hw]) | (refine (c7 _).mono ?_; rintro e w' ⟨rfl, hw⟩; rw [hw]) | (refine (c12 _).mono ?_; rintro e w' ⟨rfl, hw⟩; rw [hw]) | (refine (c15 _).mono ?_; rintro e w' ⟨rfl, hw⟩; rw [hw]) | (refine (c18 _).mono ?_; rintro e w' ⟨rfl, hw⟩; rw [hw]) | (refine (c22 _).mono ?_; rintro e w' ⟨rfl, hw⟩; rw [hw]) | (refine (c24 _).mono ?_; rintro e w' ⟨rfl, hw⟩; rw [hw]))
    go_ret2
    exact ⟨rfl, (Below.refl _ _).alloc (Nat.le_refl _) _⟩
  · have g48 := k48 q0
    have g48' : ((k0.toNat : Int) == 48) = false := by simpa using g48
    clear k48 q0
    have g1 : (14 : Int) < v22 := by omega
    clear q1
    go_enter Tryd.func19, Tryd.ntmps19
    go_wp2_with (go_at_call 35; with_reducible first | (refine (cd _).mono ?_; rintro e w' ⟨rfl, hw⟩; rw [hw]) | (refine (c7 _).mono ?_; rintro e w' ⟨rfl, hw⟩; rw [hw]) | (refine (c12 _).mono ?_; rintro e w' ⟨rfl, hw⟩; rw [hw]) | (refine (c15 _).mono ?_; rintro e w' ⟨rfl, hw⟩; rw [hw]) | (refine (c18 _).mono ?_; rintro e w' ⟨rfl, hw⟩; rw [hw]) | (refine (c22 _).mono ?_; rintro e w' ⟨rfl, hw⟩; rw [hw]) | (refine (c24 _).mono ?_; rintro e w' ⟨rfl, hw⟩; rw [hw]))
    go_ret2
    exact ⟨rfl, (Below.refl _ _).alloc (Nat.le_refl _) _⟩
  · have g48 := k48 q0
    have g48' : ((k0.toNat : Int) == 48) = false := by simpa using g48
    clear k48 q0
    have g1 : ¬ (14 : Int) < v22 := by omega
    have g2 : (59 : Int) < v24 := by omega
    clear q1 q2
    go_enter Tryd.func19, Tryd.ntmps19
    go_wp2_with (go_at_call 35; with_reducible first | (refine (cd _).mono ?_; rintro e w' ⟨rfl, hw⟩; rw [hw]) | (refine (c7 _).mono ?_; rintro e w' ⟨rfl, hw⟩; rw [hw]) | (refine (c12 _).mono ?_; rintro e w' ⟨rfl, hw⟩; rw [hw]) | (refine (c15 _).mono ?_; rintro e w' ⟨rfl, hw⟩; rw [hw]) | (refine (c18 _).mono ?_; rintro e w' ⟨rfl, hw⟩; rw [hw]) | (refine (c22 _).mono ?_; rintro e w' ⟨rfl, hw⟩; rw [hw]) | (refine (c24 _).mono ?_; rintro e w' ⟨rfl, hw⟩; rw [hw]))
    go_ret2
    exact ⟨rfl, (Below.refl _ _).alloc (Nat.le_refl _) _⟩
end Go.Proofs.YtjbojboiagbofaaDoor
