/- Parse reads what the text says. -/
import Derived.Test.YtjbojboiagbofaaDoorC28
set_option linter.unusedSimpArgs false
set_option linter.unusedVariables false
namespace Go.Proofs.YtjbojboiagbofaaDoor
open Go.RowKit Go.Shelf

theorem tkB_ok {n : Nat} {l : List UInt8} {b : Bool} (h : tkB n l b = false) : b = false ∧ (tkR n l).length + n = l.length := by
  unfold tkB at h
  unfold tkR
  split at h
  · cases h
  · rename_i q
    rw [if_neg q]
    exact ⟨h, by simp; omega⟩
theorem mkB_ok {x l : List UInt8} {b : Bool} (h : mkB x l b = false) : b = false ∧ (tkR x.length l).length + x.length = l.length := by
  unfold mkB at h
  rw [Bool.or_eq_false_iff] at h
  exact tkB_ok h.1
theorem dgs_ok (m : Nat) : ∀ (n : Nat) (l : List UInt8) (b : Bool), (dgs m n l b).2.2 = false → b = false ∧ (dgs m n l b).2.1.length + m = l.length := by
  induction m with
  | zero => intro n l b h; exact ⟨h, rfl⟩
  | succ m ih =>
    intro n l b h
    rw [dgs] at h ⊢
    obtain ⟨h1, h2⟩ := ih _ _ _ h
    rw [Bool.or_eq_false_iff] at h1
    obtain ⟨h3, h4⟩ := tkB_ok h1.1
    exact ⟨h3, by omega⟩
theorem dt_ok {l : List UInt8} {b : Bool} {y m d h mi se : Nat} {l' : List UInt8} {b' : Bool} (hDT : DT l b y m d h mi se l' b') (hb : b' = false) : b = false ∧ l'.length + 21 = l.length := by
  obtain ⟨l1, b1, l2, b2, l3, b3, l4, b4, l5, b5, l6, b6, l7, b7, l8, b8, l9, b9, l10, b10, l11, b11, ⟨e1, e2, e3⟩, ⟨e4, e5⟩, ⟨e6, e7, e8⟩, ⟨e9, e10⟩, e11, ⟨e12, e13⟩, e14, ⟨e15, e16⟩, e17, ⟨e18, e19⟩, e20, e21, e22⟩ := hDT
  rw [e22] at hb
  obtain ⟨h11, k12⟩ := mkB_ok hb
  have q11 := dgs_ok 2 0 l10 b10
  rw [← e20] at q11
  obtain ⟨h10, k11⟩ := q11 h11
  rw [e19] at h10
  obtain ⟨h9, k10⟩ := mkB_ok h10
  have q9 := dgs_ok 2 0 l8 b8
  rw [← e17] at q9
  obtain ⟨h8, k9⟩ := q9 h9
  rw [e16] at h8
  obtain ⟨h7, k8⟩ := mkB_ok h8
  have q7 := dgs_ok 2 0 l6 b6
  rw [← e14] at q7
  obtain ⟨h6, k7⟩ := q7 h7
  rw [e13] at h6
  obtain ⟨h5, k6⟩ := mkB_ok h6
  have q5 := dgs_ok 4 0 l4 b4
  rw [← e11] at q5
  obtain ⟨h4, k5⟩ := q5 h5
  rw [e10] at h4
  obtain ⟨h3, k4⟩ := mkB_ok h4
  rw [e8, Bool.or_eq_false_iff] at h3
  obtain ⟨h2, k3⟩ := tkB_ok h3.1
  rw [e5] at h2
  obtain ⟨h1, k2⟩ := mkB_ok h2
  rw [e3, Bool.or_eq_false_iff] at h1
  obtain ⟨h0, k1⟩ := tkB_ok h1.1
  simp only [List.length_cons, List.length_nil] at k2 k4 k5 k6 k7 k8 k9 k10 k11 k12
  rw [← e2] at k1
  rw [← e7] at k3
  refine ⟨h0, ?_⟩
  have e4' : (tkR (0 + 1) l1).length = l2.length := by rw [e4]
  have e9' : (tkR (0 + 1) l3).length = l4.length := by rw [e9]
  have e12' : (tkR (0 + 1) l5).length = l6.length := by rw [e12]
  have e15' : (tkR (0 + 1) l7).length = l8.length := by rw [e15]
  have e18' : (tkR (0 + 1) l9).length = l10.length := by rw [e18]
  have e21' : (tkR (0 + 1) l11).length = l'.length := by rw [e21]
  omega
theorem zone_ok (l : List UInt8) (b : Bool) (h : (zoneV l b).2.2 = false) : b = false ∧ (zoneV l b).2.1.length + 5 = l.length := by
  unfold zoneV at h ⊢
  dsimp only at h ⊢
  rw [Bool.or_eq_false_iff] at h
  obtain ⟨h2, k2⟩ := dgs_ok 2 0 _ _ h.1
  obtain ⟨h1, k1⟩ := dgs_ok 2 0 _ _ h2
  rw [Bool.or_eq_false_iff] at h1
  obtain ⟨h0, k0⟩ := tkB_ok h1.1
  exact ⟨h0, by omega⟩
/-- A digit's byte. -/
def isD (c : UInt8) : Prop := 48 ≤ c.toNat ∧ c.toNat ≤ 57
instance (c : UInt8) : Decidable (isD c) := by unfold isD; infer_instance
theorem num_one (c : UInt8) : number [c] = if isD c then some (c.toNat - 48) else none := by
  unfold number isD
  rw [if_neg (by simp)]
  simp [dg]
theorem nB9 (c : UInt8) : nB 9 [c] = decide (isD c) := by
  unfold nB
  rw [num_one]
  by_cases h : isD c
  · rw [if_pos h]
    have := h.2
    simp [h]; omega
  · rw [if_neg h]
    simp [h]
theorem nV9 (c : UInt8) (h : isD c) : nV 9 [c] = c.toNat - 48 := by
  unfold nV
  rw [num_one, if_pos h]
  have := h.2
  simp only
  rw [if_pos (by omega)]
theorem dg_one (c : UInt8) (t : List UInt8) (n : Nat) : dg (c :: t) n = if isD c then dg t (n * 10 + (c.toNat - 48)) else none := rfl
theorem dB2 (a b : UInt8) : dB [a, b] = (decide (isD a) && decide (isD b)) := by
  unfold dB
  rw [dg_one]
  by_cases h : isD a
  · rw [if_pos h, dg_one]
    by_cases h2 : isD b
    · rw [if_pos h2]; simp [h, h2, dg]
    · rw [if_neg h2]; simp [h, h2]
  · rw [if_neg h]; simp [h]
theorem dV2' (a b : UInt8) (h1 : isD a) (h2 : isD b) : dV [a, b] = (a.toNat - 48) * 10 + (b.toNat - 48) := by
  unfold dV
  rw [dg_one, if_pos h1, dg_one, if_pos h2]
  simp [dg]
theorem dB1 (a : UInt8) : dB [a] = decide (isD a) := by
  unfold dB
  rw [dg_one]
  by_cases h : isD a
  · rw [if_pos h]; simp [h, dg]
  · rw [if_neg h]; simp [h]
theorem dV1' (a : UInt8) (h1 : isD a) : dV [a] = a.toNat - 48 := by
  unfold dV
  rw [dg_one, if_pos h1]
  simp [dg]
theorem dB4 (a b c d : UInt8) : dB [a, b, c, d] = (decide (isD a) && decide (isD b) && decide (isD c) && decide (isD d)) := by
  unfold dB
  rw [dg_one]
  by_cases h : isD a
  · rw [if_pos h, dg_one]
    by_cases h2 : isD b
    · rw [if_pos h2, dg_one]
      by_cases h3 : isD c
      · rw [if_pos h3, dg_one]
        by_cases h4 : isD d
        · rw [if_pos h4]; simp [h, h2, h3, h4, dg]
        · rw [if_neg h4]; simp [h, h2, h3, h4]
      · rw [if_neg h3]; simp [h, h2, h3]
    · rw [if_neg h2]; simp [h, h2]
  · rw [if_neg h]; simp [h]
theorem dV4' (a b c d : UInt8) (h1 : isD a) (h2 : isD b) (h3 : isD c) (h4 : isD d) : dV [a, b, c, d] = (((a.toNat - 48) * 10 + (b.toNat - 48)) * 10 + (c.toNat - 48)) * 10 + (d.toNat - 48) := by
  unfold dV
  rw [dg_one, if_pos h1, dg_one, if_pos h2, dg_one, if_pos h3, dg_one, if_pos h4]
  simp [dg]
/-- The day, of two bytes. -/
theorem day_num (a b : UInt8) : (a = 32 → Lib.trimPrefix [a, b] [32] = [b]) ∧ (a ≠ 32 → Lib.trimPrefix [a, b] [32] = [a, b]) := by
  refine ⟨fun h => ?_, fun h => ?_⟩
  · subst h; simp [Lib.trimPrefix, Lib.hasPrefix]
  · simp [Lib.trimPrefix, Lib.hasPrefix, h]; try (intro q; exact absurd q.symm h)
end Go.Proofs.YtjbojboiagbofaaDoor
