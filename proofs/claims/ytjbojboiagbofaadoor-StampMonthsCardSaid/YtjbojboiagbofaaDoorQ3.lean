/- Parse reads what the text says. -/
import Derived.Test.YtjbojboiagbofaaDoorQ2
set_option linter.unusedSimpArgs false
set_option linter.unusedVariables false
namespace Go.Proofs.YtjbojboiagbofaaDoor
open Go.RowKit Go.Shelf

theorem num_two (a b : UInt8) (ha : a ≠ 48) : number [a, b] = if isD a ∧ isD b then some ((a.toNat - 48) * 10 + (b.toNat - 48)) else none := by
  unfold number
  rw [if_neg (by simp [ha])]
  rw [dg_one]
  by_cases h : isD a
  · rw [if_pos h, dg_one]
    by_cases h2 : isD b
    · rw [if_pos h2, if_pos ⟨h, h2⟩]; simp [dg]
    · rw [if_neg h2, if_neg (fun q => h2 q.2)]
  · rw [if_neg h, if_neg (fun q => h q.1)]
theorem num_two0 (b : UInt8) : number [48, b] = none := by
  unfold number
  rw [if_pos (by simp)]
/-- The day. -/
theorem day_is (a b : UInt8) (x : List UInt8) (hx : x = if a = 32 then [b] else [a, b]) :
    (nB 31 x = true ↔ dB x = true ∧ a ≠ 48 ∧ dV x ≤ 31) ∧ (nB 31 x = true → nV 31 x = dV x) := by
  by_cases h : a = 32
  · rw [if_pos h] at hx
    subst hx
    have h48 : a ≠ 48 := by rw [h]; decide
    unfold nB nV
    rw [num_one, dB1]
    by_cases hb : isD b
    · rw [if_pos hb, dV1' b hb]
      have := hb.2
      simp [hb, h48]; omega
    · rw [if_neg hb]; simp [hb]
  · rw [if_neg h] at hx
    subst hx
    by_cases h48 : a = 48
    · subst h48
      unfold nB nV
      rw [num_two0]
      simp
    · unfold nB nV
      rw [num_two a b h48, dB2]
      by_cases hb : isD a ∧ isD b
      · rw [if_pos hb, dV2' a b hb.1 hb.2]
        simp [hb.1, hb.2, h48]
        omega
      · rw [if_neg hb]
        simp
        intro q1 q2
        exact absurd ⟨q1, q2⟩ hb
theorem no_sec31 {y m d h mi se : Int} (h0 : m = 0 ∨ 31 < d) (last : Nat) : ¬ ∃ v, Sec last y m d h mi se v := by
  rintro ⟨v, k, j, e, h1, h2, h3, h4, h5, h6, _⟩
  have := dim_le k j
  omega
set_option maxHeartbeats 4000000 in
set_option maxRecDepth 20000 in
theorem par_26 (c0 c1 c2 c3 c4 c5 c6 c7 c8 c9 c10 c11 c12 c13 c14 c15 c16 c17 c18 c19 c20 c21 c22 c23 c24 c25 : UInt8) (y m d h mi se : Nat) (l1 : List UInt8) (b1 : Bool) (hDT : DT [c0, c1, c2, c3, c4, c5, c6, c7, c8, c9, c10, c11, c12, c13, c14, c15, c16, c17, c18, c19, c20, c21, c22, c23, c24, c25] false y m d h mi se l1 b1) (z : Int) (l2 : List UInt8) (b2 : Bool) (hz : zoneV l1 b1 = (z, l2, b2)) :
    (∀ v, Sec 2136 y m d h mi se v → fin b2 l2 true (v - z) = parR [c0, c1, c2, c3, c4, c5, c6, c7, c8, c9, c10, c11, c12, c13, c14, c15, c16, c17, c18, c19, c20, c21, c22, c23, c24, c25]) ∧ ((¬ ∃ v, Sec 2136 y m d h mi se v) → fin b2 l2 false (0 - z) = parR [c0, c1, c2, c3, c4, c5, c6, c7, c8, c9, c10, c11, c12, c13, c14, c15, c16, c17, c18, c19, c20, c21, c22, c23, c24, c25]) := by
  obtain ⟨rfl, rfl, rfl, rfl, rfl, rfl, rfl, hb⟩ := dt_26 c0 c1 c2 c3 c4 c5 c6 c7 c8 c9 c10 c11 c12 c13 c14 c15 c16 c17 c18 c19 c20 c21 c22 c23 c24 c25 y m d h mi se l1 b1 hDT
  obtain ⟨z1, z2, z3⟩ := zone_26 c21 c22 c23 c24 c25 b1
  rw [hz] at z1 z2 z3
  simp only at z1 z2 z3
  subst z1
  have hx : Lib.trimPrefix [c0, c1] [32] = if c0 = 32 then [c1] else [c0, c1] := by
    by_cases q : c0 = 32
    · rw [if_pos q]; exact (day_num c0 c1).1 q
    · rw [if_neg q]; exact (day_num c0 c1).2 q
  have hdR : dayR [c0, c1, c2, c3, c4, c5, c6, c7, c8, c9, c10, c11, c12, c13, c14, c15, c16, c17, c18, c19, c20, c21, c22, c23, c24, c25] = Lib.trimPrefix [c0, c1] [32] := by rw [hx]; rfl
  obtain ⟨dy1, dy2⟩ := day_is c0 c1 _ hx
  have hM : marksR [c0, c1, c2, c3, c4, c5, c6, c7, c8, c9, c10, c11, c12, c13, c14, c15, c16, c17, c18, c19, c20, c21, c22, c23, c24, c25] ↔ (c2 = 45 ∧ c6 = 45 ∧ c11 = 32 ∧ c14 = 58 ∧ c17 = 58 ∧ c20 = 32 ∧ (c21 = 43 ∨ c21 = 45)) := ⟨fun q => q.2, fun q => ⟨rfl, q⟩⟩
  have hDg : digsR [c0, c1, c2, c3, c4, c5, c6, c7, c8, c9, c10, c11, c12, c13, c14, c15, c16, c17, c18, c19, c20, c21, c22, c23, c24, c25] ↔ (dB (Lib.trimPrefix [c0, c1] [32]) = true ∧ dB [c7, c8, c9, c10] = true ∧ dB [c12, c13] = true ∧ dB [c15, c16] = true ∧ dB [c18, c19] = true ∧ dB [c22, c23] = true ∧ dB [c24, c25] = true ∧ c0 ≠ 48 ∧ dV [c22, c23] ≤ 14 ∧ dV [c24, c25] ≤ 59) := by
    unfold digsR
    rw [hdR]
    exact Iff.rfl
  have hpar : marksR [c0, c1, c2, c3, c4, c5, c6, c7, c8, c9, c10, c11, c12, c13, c14, c15, c16, c17, c18, c19, c20, c21, c22, c23, c24, c25] ∧ digsR [c0, c1, c2, c3, c4, c5, c6, c7, c8, c9, c10, c11, c12, c13, c14, c15, c16, c17, c18, c19, c20, c21, c22, c23, c24, c25] → parR [c0, c1, c2, c3, c4, c5, c6, c7, c8, c9, c10, c11, c12, c13, c14, c15, c16, c17, c18, c19, c20, c21, c22, c23, c24, c25] = secZ (dV [c7, c8, c9, c10]) (monV [c3, c4, c5]) (dV (Lib.trimPrefix [c0, c1] [32])) (dV [c12, c13]) (dV [c15, c16]) (dV [c18, c19]) (if c21 = 43 then 3600 * (dV [c22, c23] : Int) + 60 * dV [c24, c25] else -(3600 * (dV [c22, c23] : Int) + 60 * dV [c24, c25])) := by
    intro q
    rw [parR_yes q, hdR]
    rfl
  simp only [dB4, dB2, Bool.and_eq_true, decide_eq_true_eq] at hDg
  generalize Lib.trimPrefix [c0, c1] [32] = x at *
  clear hx hdR hDT
  by_cases hb2 : b2 = false
  · obtain ⟨hb1, hs, d22, d23, d24, d25, k1, k2⟩ := z2.1 hb2
    obtain ⟨q1, q2, q3, q4, i7, i8, i9, i10, q5, i12, i13, q6, i15, i16, q7, i18, i19, q8⟩ := hb.1 hb1
    obtain ⟨r1, r2, r3⟩ := dy1.1 q1
    have r4 := dy2 q1
    rw [nV9 _ d22, nV9 _ d23, nV9 _ d24, nV9 _ d25] at z3
    rw [nV9 _ d22, nV9 _ d23] at k1
    rw [nV9 _ d24, nV9 _ d25] at k2
    have e22 := dV2' c22 c23 d22 d23
    have e24 := dV2' c24 c25 d24 d25
    have hall : marksR [c0, c1, c2, c3, c4, c5, c6, c7, c8, c9, c10, c11, c12, c13, c14, c15, c16, c17, c18, c19, c20, c21, c22, c23, c24, c25] ∧ digsR [c0, c1, c2, c3, c4, c5, c6, c7, c8, c9, c10, c11, c12, c13, c14, c15, c16, c17, c18, c19, c20, c21, c22, c23, c24, c25] := ⟨hM.2 ⟨q2, q4, q5, q6, q7, q8, hs⟩, hDg.2 ⟨r1, ⟨⟨⟨i7, i8⟩, i9⟩, i10⟩, ⟨i12, i13⟩, ⟨i15, i16⟩, ⟨i18, i19⟩, ⟨d22, d23⟩, ⟨d24, d25⟩, r2, by omega, by omega⟩⟩
    have hzz : z = if c21 = 43 then 3600 * (dV [c22, c23] : Int) + 60 * dV [c24, c25] else -(3600 * (dV [c22, c23] : Int) + 60 * dV [c24, c25]) := by
      rw [z3, e22, e24]
      rcases hs with q | q
      · rw [if_pos q, if_neg (by rw [q]; decide)]; omega
      · rw [if_pos q, if_neg (by rw [q]; decide)]; omega
    rw [hpar hall, ← hzz, hb2, r4, dV4' _ _ _ _ i7 i8 i9 i10, dV2' _ _ i12 i13, dV2' _ _ i15 i16, dV2' _ _ i18 i19, nV9 _ i7, nV9 _ i8, nV9 _ i9, nV9 _ i10, nV9 _ i12, nV9 _ i13, nV9 _ i15, nV9 _ i16, nV9 _ i18, nV9 _ i19]
    refine ⟨fun v hv => ?_, fun hv => ?_⟩
    · by_cases hr : 0 ≤ v - z ∧ v - z ≤ 4294967295
      · rw [secZ_some hv hr]
        unfold fin
        rw [if_pos ⟨rfl, rfl, rfl, hr.1, hr.2⟩]
      · rw [secZ_none (fun ⟨v', g1, g2⟩ => hr (by rw [hv.fun g1]; exact g2))]
        unfold fin
        rw [if_neg (fun g => hr ⟨g.2.2.2.1, g.2.2.2.2⟩)]
    · rw [secZ_none (fun ⟨v', g1, g2⟩ => hv ⟨v', g1⟩)]
      unfold fin
      rw [if_neg (fun g => by cases g.2.2.1)]
  · have hpn : parR [c0, c1, c2, c3, c4, c5, c6, c7, c8, c9, c10, c11, c12, c13, c14, c15, c16, c17, c18, c19, c20, c21, c22, c23, c24, c25] = (0, 80) := by
      by_cases hall : marksR [c0, c1, c2, c3, c4, c5, c6, c7, c8, c9, c10, c11, c12, c13, c14, c15, c16, c17, c18, c19, c20, c21, c22, c23, c24, c25] ∧ digsR [c0, c1, c2, c3, c4, c5, c6, c7, c8, c9, c10, c11, c12, c13, c14, c15, c16, c17, c18, c19, c20, c21, c22, c23, c24, c25]
      · rw [hpar hall]
        obtain ⟨q2, q4, q5, q6, q7, q8, hs⟩ := hM.1 hall.1
        obtain ⟨r1, ⟨⟨⟨i7, i8⟩, i9⟩, i10⟩, ⟨i12, i13⟩, ⟨i15, i16⟩, ⟨i18, i19⟩, ⟨d22, d23⟩, ⟨d24, d25⟩, r2, k1, k2⟩ := hDg.1 hall.2
        rw [dV2' c22 c23 d22 d23] at k1
        rw [dV2' c24 c25 d24 d25] at k2
        have hor : monV [c3, c4, c5] = 0 ∨ 31 < dV x := by
          by_cases g1 : monV [c3, c4, c5] = 0
          · exact .inl g1
          · right
            rcases Nat.lt_or_ge 31 (dV x) with g2 | g2
            · exact g2
            · exfalso
              exact hb2 (z2.2 ⟨hb.2 ⟨dy1.2 ⟨r1, r2, g2⟩, q2, g1, q4, i7, i8, i9, i10, q5, i12, i13, q6, i15, i16, q7, i18, i19, q8⟩, hs, d22, d23, d24, d25, by rw [nV9 _ d22, nV9 _ d23]; exact k1, by rw [nV9 _ d24, nV9 _ d25]; exact k2⟩)
        refine secZ_none (fun ⟨v', g1, g2⟩ => no_sec31 ?_ 2136 ⟨v', g1⟩)
        rcases hor with g | g
        · left; rw [g]; rfl
        · right; omega
      · exact parR_no hall
    rw [hpn]
    unfold fin
    exact ⟨fun v _ => if_neg (fun g => hb2 g.1), fun _ => if_neg (fun g => hb2 g.1)⟩
theorem par_eq (l : List UInt8) (y m d h mi se : Nat) (l1 : List UInt8) (b1 : Bool) (hDT : DT l false y m d h mi se l1 b1) (z : Int) (l2 : List UInt8) (b2 : Bool) (hz : zoneV l1 b1 = (z, l2, b2)) :
    (∀ v, Sec 2136 y m d h mi se v → fin b2 l2 true (v - z) = parR l) ∧ ((¬ ∃ v, Sec 2136 y m d h mi se v) → fin b2 l2 false (0 - z) = parR l) := by
  by_cases hl : l.length = 26
  · match l, hl with
    | [c0, c1, c2, c3, c4, c5, c6, c7, c8, c9, c10, c11, c12, c13, c14, c15, c16, c17, c18, c19, c20, c21, c22, c23, c24, c25], _ => exact par_26 c0 c1 c2 c3 c4 c5 c6 c7 c8 c9 c10 c11 c12 c13 c14 c15 c16 c17 c18 c19 c20 c21 c22 c23 c24 c25 y m d h mi se l1 b1 hDT z l2 b2 hz
  · rw [parR_no (fun q => hl q.1.1)]
    have hno : ¬ (b2 = false ∧ l2 = []) := by
      rintro ⟨q1, q2⟩
      have h1 := zone_ok l1 b1
      rw [hz] at h1
      obtain ⟨h2, h3⟩ := h1 q1
      obtain ⟨_, h4⟩ := dt_ok hDT h2
      simp only at h3
      rw [q2] at h3
      simp only [List.length_nil] at h3
      omega
    unfold fin
    exact ⟨fun v _ => if_neg (fun g => hno ⟨g.1, g.2.1⟩), fun _ => if_neg (fun g => hno ⟨g.1, g.2.1⟩)⟩
end Go.Proofs.YtjbojboiagbofaaDoor
