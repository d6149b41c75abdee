/- Parse reads what the text says: 26 bytes. -/
import Derived.Test.YtjbojboiagbofaaDoorQ1
set_option linter.unusedSimpArgs false
set_option linter.unusedVariables false
namespace Go.Proofs.YtjbojboiagbofaaDoor
open Go.RowKit Go.Shelf

set_option maxHeartbeats 4000000 in
set_option maxRecDepth 20000 in
theorem dt_26 (c0 c1 c2 c3 c4 c5 c6 c7 c8 c9 c10 c11 c12 c13 c14 c15 c16 c17 c18 c19 c20 c21 c22 c23 c24 c25 : UInt8) (y m d h mi se : Nat) (l' : List UInt8) (b' : Bool) (hDT : DT [c0, c1, c2, c3, c4, c5, c6, c7, c8, c9, c10, c11, c12, c13, c14, c15, c16, c17, c18, c19, c20, c21, c22, c23, c24, c25] false y m d h mi se l' b') :
    d = nV 31 (Lib.trimPrefix [c0, c1] [32]) ∧ m = monV [c3, c4, c5] ∧ y = ((nV 9 [c7] * 10 + nV 9 [c8]) * 10 + nV 9 [c9]) * 10 + nV 9 [c10] ∧ h = nV 9 [c12] * 10 + nV 9 [c13] ∧ mi = nV 9 [c15] * 10 + nV 9 [c16] ∧ se = nV 9 [c18] * 10 + nV 9 [c19] ∧ l' = [c21, c22, c23, c24, c25] ∧
    (b' = false ↔ nB 31 (Lib.trimPrefix [c0, c1] [32]) = true ∧ c2 = 45 ∧ monV [c3, c4, c5] ≠ 0 ∧ c6 = 45 ∧ isD c7 ∧ isD c8 ∧ isD c9 ∧ isD c10 ∧ c11 = 32 ∧ isD c12 ∧ isD c13 ∧ c14 = 58 ∧ isD c15 ∧ isD c16 ∧ c17 = 58 ∧ isD c18 ∧ isD c19 ∧ c20 = 32) := by
  obtain ⟨l1, b1, l2, b2, l3, b3, l4, b4, l5, b5, l6, b6, l7, b7, l8, b8, l9, b9, l10, b10, l11, b11, ⟨e1, e2, e3⟩, ⟨e4, e5⟩, ⟨e6, e7, e8⟩, ⟨e9, e10⟩, e11, ⟨e12, e13⟩, e14, ⟨e15, e16⟩, e17, ⟨e18, e19⟩, e20, e21, e22⟩ := hDT
  obtain rfl : l1 = [c2, c3, c4, c5, c6, c7, c8, c9, c10, c11, c12, c13, c14, c15, c16, c17, c18, c19, c20, c21, c22, c23, c24, c25] := e2
  have h1 : b1 = (false || !nB 31 (Lib.trimPrefix [c0, c1] [32])) := e3
  obtain rfl : l2 = [c3, c4, c5, c6, c7, c8, c9, c10, c11, c12, c13, c14, c15, c16, c17, c18, c19, c20, c21, c22, c23, c24, c25] := e4
  have h2 : b2 = (b1 || !([c2] == [45])) := e5
  have h6 : m = monV [c3, c4, c5] := e6
  obtain rfl : l3 = [c6, c7, c8, c9, c10, c11, c12, c13, c14, c15, c16, c17, c18, c19, c20, c21, c22, c23, c24, c25] := e7
  have h3 : b3 = (b2 || decide (monV [c3, c4, c5] = 0)) := e8
  obtain rfl : l4 = [c7, c8, c9, c10, c11, c12, c13, c14, c15, c16, c17, c18, c19, c20, c21, c22, c23, c24, c25] := e9
  have h4 : b4 = (b3 || !([c6] == [45])) := e10
  have qe11 : dgs 4 0 [c7, c8, c9, c10, c11, c12, c13, c14, c15, c16, c17, c18, c19, c20, c21, c22, c23, c24, c25] b4 = (((((0 * 10 + nV 9 [c7]) * 10 + nV 9 [c8]) * 10 + nV 9 [c9]) * 10 + nV 9 [c10]), [c11, c12, c13, c14, c15, c16, c17, c18, c19, c20, c21, c22, c23, c24, c25], ((((b4 || !nB 9 [c7]) || !nB 9 [c8]) || !nB 9 [c9]) || !nB 9 [c10])) := rfl
  rw [qe11] at e11
  obtain ⟨rfl, rfl, rfl⟩ : y = ((((0 * 10 + nV 9 [c7]) * 10 + nV 9 [c8]) * 10 + nV 9 [c9]) * 10 + nV 9 [c10]) ∧ l5 = [c11, c12, c13, c14, c15, c16, c17, c18, c19, c20, c21, c22, c23, c24, c25] ∧ b5 = ((((b4 || !nB 9 [c7]) || !nB 9 [c8]) || !nB 9 [c9]) || !nB 9 [c10]) := by injection e11 with a1 a2; injection a2 with a2 a3; exact ⟨a1, a2, a3⟩
  obtain rfl : l6 = [c12, c13, c14, c15, c16, c17, c18, c19, c20, c21, c22, c23, c24, c25] := e12
  have h5 : b6 = ((((((b4 || !nB 9 [c7]) || !nB 9 [c8]) || !nB 9 [c9]) || !nB 9 [c10])) || !([c11] == [32])) := e13
  have qe14 : dgs 2 0 [c12, c13, c14, c15, c16, c17, c18, c19, c20, c21, c22, c23, c24, c25] b6 = (((0 * 10 + nV 9 [c12]) * 10 + nV 9 [c13]), [c14, c15, c16, c17, c18, c19, c20, c21, c22, c23, c24, c25], ((b6 || !nB 9 [c12]) || !nB 9 [c13])) := rfl
  rw [qe14] at e14
  obtain ⟨rfl, rfl, rfl⟩ : h = ((0 * 10 + nV 9 [c12]) * 10 + nV 9 [c13]) ∧ l7 = [c14, c15, c16, c17, c18, c19, c20, c21, c22, c23, c24, c25] ∧ b7 = ((b6 || !nB 9 [c12]) || !nB 9 [c13]) := by injection e14 with a1 a2; injection a2 with a2 a3; exact ⟨a1, a2, a3⟩
  obtain rfl : l8 = [c15, c16, c17, c18, c19, c20, c21, c22, c23, c24, c25] := e15
  have h7 : b8 = (((b6 || !nB 9 [c12]) || !nB 9 [c13]) || !([c14] == [58])) := e16
  have qe17 : dgs 2 0 [c15, c16, c17, c18, c19, c20, c21, c22, c23, c24, c25] b8 = (((0 * 10 + nV 9 [c15]) * 10 + nV 9 [c16]), [c17, c18, c19, c20, c21, c22, c23, c24, c25], ((b8 || !nB 9 [c15]) || !nB 9 [c16])) := rfl
  rw [qe17] at e17
  obtain ⟨rfl, rfl, rfl⟩ : mi = ((0 * 10 + nV 9 [c15]) * 10 + nV 9 [c16]) ∧ l9 = [c17, c18, c19, c20, c21, c22, c23, c24, c25] ∧ b9 = ((b8 || !nB 9 [c15]) || !nB 9 [c16]) := by injection e17 with a1 a2; injection a2 with a2 a3; exact ⟨a1, a2, a3⟩
  obtain rfl : l10 = [c18, c19, c20, c21, c22, c23, c24, c25] := e18
  have h8 : b10 = (((b8 || !nB 9 [c15]) || !nB 9 [c16]) || !([c17] == [58])) := e19
  have qe20 : dgs 2 0 [c18, c19, c20, c21, c22, c23, c24, c25] b10 = (((0 * 10 + nV 9 [c18]) * 10 + nV 9 [c19]), [c20, c21, c22, c23, c24, c25], ((b10 || !nB 9 [c18]) || !nB 9 [c19])) := rfl
  rw [qe20] at e20
  obtain ⟨rfl, rfl, rfl⟩ : se = ((0 * 10 + nV 9 [c18]) * 10 + nV 9 [c19]) ∧ l11 = [c20, c21, c22, c23, c24, c25] ∧ b11 = ((b10 || !nB 9 [c18]) || !nB 9 [c19]) := by injection e20 with a1 a2; injection a2 with a2 a3; exact ⟨a1, a2, a3⟩
  obtain rfl : l' = [c21, c22, c23, c24, c25] := e21
  have h9 : b' = (((b10 || !nB 9 [c18]) || !nB 9 [c19]) || !([c20] == [32])) := e22
  refine ⟨e1, h6, by simp, by simp, by simp, by simp, rfl, ?_⟩
  rw [h9, h8, h7, h5, h4, h3, h2, h1]
  simp only [nB9]
  simp [and_assoc]
theorem zone_26 (c21 c22 c23 c24 c25 : UInt8) (b : Bool) : (zoneV [c21, c22, c23, c24, c25] b).2.1 = [] ∧ ((zoneV [c21, c22, c23, c24, c25] b).2.2 = false ↔ b = false ∧ (c21 = 43 ∨ c21 = 45) ∧ isD c22 ∧ isD c23 ∧ isD c24 ∧ isD c25 ∧ nV 9 [c22] * 10 + nV 9 [c23] ≤ 14 ∧ nV 9 [c24] * 10 + nV 9 [c25] ≤ 59) ∧
    (zoneV [c21, c22, c23, c24, c25] b).1 = (if c21 = 45 then -(((nV 9 [c22] * 10 + nV 9 [c23] : Nat) : Int) * 3600 + (nV 9 [c24] * 10 + nV 9 [c25] : Nat) * 60) else ((nV 9 [c22] * 10 + nV 9 [c23] : Nat) : Int) * 3600 + (nV 9 [c24] * 10 + nV 9 [c25] : Nat) * 60) := by
  have q1 : ∀ b, dgs 2 0 [c22, c23, c24, c25] b = ((0 * 10 + nV 9 [c22]) * 10 + nV 9 [c23], [c24, c25], (b || !nB 9 [c22]) || !nB 9 [c23]) := fun _ => rfl
  have q2 : ∀ b, dgs 2 0 [c24, c25] b = ((0 * 10 + nV 9 [c24]) * 10 + nV 9 [c25], [], (b || !nB 9 [c24]) || !nB 9 [c25]) := fun _ => rfl
  have t1 : tkS 1 [c21, c22, c23, c24, c25] = [c21] := rfl
  have t2 : tkR 1 [c21, c22, c23, c24, c25] = [c22, c23, c24, c25] := rfl
  have t3 : tkB 1 [c21, c22, c23, c24, c25] b = b := rfl
  unfold zoneV
  dsimp only
  rw [t1, t2, t3, q1, q2]
  refine ⟨rfl, ?_, ?_⟩
  · simp only [nB9]
    simp [and_assoc]
    intros
    exact Decidable.or_iff_not_imp_left.symm
  · simp only [Nat.zero_mul, Nat.zero_add]
    by_cases h : c21 = 45
    · subst h; rfl
    · rw [if_neg h, if_neg (by simpa using h)]
end Go.Proofs.YtjbojboiagbofaaDoor
