/- Second. -/
import Derived.Test.YtjbojboiagbofaaDoorC7
set_option linter.unusedSimpArgs false
set_option linter.unusedVariables false
namespace Go.Proofs.YtjbojboiagbofaaDoor
open Go.RowKit

/-- v is the seconds of a date and time that there is, in the years 1999 to last. -/
def Sec (last : Nat) (y m d h mi se v : Int) : Prop := ∃ k j e : Nat, y = 1999 + k ∧ 1999 + k ≤ last ∧ m = j + 1 ∧ j < 12 ∧ d = e + 1 ∧ e < dim k j ∧ OkH h mi se ∧ v = ((yd k + md k j + e : Nat) - 365) * 86400 + h * 3600 + mi * 60 + se
theorem Sec.fun {last l2 : Nat} {y m d h mi se v v' : Int} (a : Sec last y m d h mi se v) (b : Sec l2 y m d h mi se v') : v = v' := by
  obtain ⟨k, j, e, h1, _, h2, _, h3, _, _, h4⟩ := a
  obtain ⟨k', j', e', g1, _, g2, _, g3, _, _, g4⟩ := b
  obtain rfl : k = k' := by omega
  obtain rfl : j = j' := by omega
  obtain rfl : e = e' := by omega
  rw [h4, g4]
theorem Sec.mono {last l2 : Nat} (hl : last ≤ l2) {y m d h mi se v : Int} (a : Sec last y m d h mi se v) : Sec l2 y m d h mi se v := by
  obtain ⟨k, j, e, h1, h0, h2⟩ := a
  exact ⟨k, j, e, h1, by omega, h2⟩
theorem Sec.bound {last : Nat} (hl : last ≤ 2137) {y m d h mi se v : Int} (a : Sec last y m d h mi se v) : -31536000 ≤ v ∧ v < 5000000000 := by
  obtain ⟨k, j, e, h1, h0, h2, h3, h4, h5, ⟨t1, t2, t3⟩, h6⟩ := a
  have := yd_le k
  have h7 := md_mono k (i := j) (j := 12) (by omega)
  rw [md_12] at h7
  have := diy_le k
  have := dim_le k j
  omega
/-- Nothing of 2137 is a moment, in no zone. -/
theorem Sec.last {y m d h mi se v : Int} (a : Sec 2137 y m d h mi se v) (hv : v ≤ 4295000000) : Sec 2136 y m d h mi se v := by
  obtain ⟨k, j, e, h1, h0, h2⟩ := a
  refine ⟨k, j, e, h1, ?_, h2⟩
  obtain ⟨h3, h4, h5, h6, ⟨t1, t2, t3⟩, h7⟩ := h2
  rcases Nat.lt_or_ge k 138 with q | q
  · omega
  · exfalso
    obtain rfl : k = 138 := by omega
    have : yd 138 = 50404 := by decide +kernel
    omega
open Classical in
/-- The moment of a date and time, and the error. -/
noncomputable def secV (y m d h mi se : Int) : Int × Int := if q : ∃ v, Sec 2136 y m d h mi se v ∧ 0 ≤ v ∧ v ≤ 4294967295 then (Classical.choose q, 0) else (0, 80)
theorem secV_some {y m d h mi se v : Int} (a : Sec 2136 y m d h mi se v) (h0 : 0 ≤ v ∧ v ≤ 4294967295) : secV y m d h mi se = (v, 0) := by
  have q : ∃ v, Sec 2136 y m d h mi se v ∧ 0 ≤ v ∧ v ≤ 4294967295 := ⟨v, a, h0⟩
  unfold secV
  rw [dif_pos q, (Classical.choose_spec q).1.fun a]
theorem secV_none {y m d h mi se : Int} (a : ¬ ∃ v, Sec 2136 y m d h mi se v ∧ 0 ≤ v ∧ v ≤ 4294967295) : secV y m d h mi se = (0, 80) := by
  unfold secV
  rw [dif_neg a]
theorem no_sec {last : Nat} {y m d h mi se : Int} (ho : ¬ (OkD last y m d ∧ OkH h mi se)) : ¬ ∃ v, Sec last y m d h mi se v := by
  rintro ⟨v, k, j, e, h1, h2, h3, h4, h5, h6, h7, h8⟩
  exact ho ⟨⟨k, j, e, h1, h2, h3, h4, h5, h6⟩, h7⟩
theorem sec_of {last : Nat} {y m d h mi se : Int} (hd : OkD last y m d) (ht : OkH h mi se) : ∃ v, Sec last y m d h mi se v := by
  obtain ⟨k, j, e, h1, h2, h3, h4, h5, h6⟩ := hd
  exact ⟨_, k, j, e, h1, h2, h3, h4, h5, h6, ht, rfl⟩
/-- secondsTo, whatever comes in. -/
theorem secondsTo_sec {y m d h mi se v : Int} (wd : Int) (a : Sec 2136 y m d h mi se v) (w : World) (hD : Days w) :
    Calls Tryd.prog 31 #[.agg #[.int .i64 y, .int .i64 m, .int .i64 d, .int .i64 h, .int .i64 mi, .int .i64 se, .int .i64 wd]] w fun e' w' => e' = .returned (.tuple #[.int .i64 v, .bool true]) ∧ Below w.heap.size w w' := by
  obtain ⟨k, j, e, h1, h2, h3, h4, h5, h6, h7, rfl⟩ := a
  exact secondsTo_yes y m d h mi se wd k j e h1 (by omega) h3 h4 h5 h6 h7 w hD
theorem secondsTo_none {y m d h mi se : Int} (wd : Int) (a : ¬ ∃ v, Sec 2136 y m d h mi se v) (w : World) (hD : Days w) :
    Calls Tryd.prog 31 #[.agg #[.int .i64 y, .int .i64 m, .int .i64 d, .int .i64 h, .int .i64 mi, .int .i64 se, .int .i64 wd]] w fun e' w' => e' = .returned (.tuple #[.int .i64 0, .bool false]) ∧ Below w.heap.size w w' := by
  refine secondsTo_no y m d h mi se wd (fun ⟨q1, q2⟩ => a (sec_of q1 q2)) w hD
set_option maxHeartbeats 1000000 in
theorem second_any (y m d h mi se wd : Int) (w : World) (hD : Days w) :
    Calls Tryd.prog 16 #[.agg #[.int .i64 y, .int .i64 m, .int .i64 d, .int .i64 h, .int .i64 mi, .int .i64 se, .int .i64 wd]] w fun e' w' => e' = .returned (.tuple #[.int .i64 (secV y m d h mi se).1, .int .i64 (secV y m d h mi se).2]) ∧ Below w.heap.size w w' := by
  have hb1 : Below w.heap.size w (w.alloc (.cells #[.int .i64 y, .int .i64 m, .int .i64 d, .int .i64 h, .int .i64 mi, .int .i64 se, .int .i64 wd] 24)) := (Below.refl _ _).alloc (Nat.le_refl _) _
  have hD1 := hD.below hb1
  by_cases hS : ∃ v, Sec 2136 y m d h mi se v
  · obtain ⟨v, hv⟩ := hS
    have hB := hv.bound (by omega)
    have c1 := fun w hD => secondsTo_sec wd hv w hD
    by_cases hr : 0 ≤ v ∧ v ≤ 4294967295
    · rw [secV_some hv hr]
      have c2 := fun w => isMoment_any v w
      rw [decide_eq_true hr.1, decide_eq_true hr.2] at c2
      clear hv hr hD
      go_enter Tryd.func16, Tryd.ntmps16
      go_wp2_with fail
      refine (c1 _ hD1).mono ?_; rintro e' w2 ⟨rfl, b2⟩
      have hb2 := hb1.trans (b2.mono (by simp))
      clear b2 hb1 hD1
      go_wp2_with fail
      refine (c2 _).mono ?_; rintro e' w3 ⟨rfl, hw⟩; rw [hw]
      go_wp2_with fail
      go_ret2
      exact ⟨rfl, hb2⟩
    · rw [secV_none (fun ⟨v', h1, h2⟩ => hr (by rw [hv.fun h1]; exact h2))]
      have c2 := fun w => isMoment_any v w
      rw [show (decide (0 ≤ v) && decide (v ≤ 4294967295)) = false by simp; omega] at c2
      clear hv hr hD
      go_enter Tryd.func16, Tryd.ntmps16
      go_wp2_with fail
      refine (c1 _ hD1).mono ?_; rintro e' w2 ⟨rfl, b2⟩
      have hb2 := hb1.trans (b2.mono (by simp))
      clear b2 hb1 hD1
      go_wp2_with fail
      refine (c2 _).mono ?_; rintro e' w3 ⟨rfl, hw⟩; rw [hw]
      go_wp2_with fail
      go_ret2
      exact ⟨rfl, hb2⟩
  · rw [secV_none (fun ⟨v', h1, h2⟩ => hS ⟨v', h1⟩)]
    have c1 := fun w hD => secondsTo_none wd hS w hD
    clear hS hD
    go_enter Tryd.func16, Tryd.ntmps16
    go_wp2_with fail
    refine (c1 _ hD1).mono ?_; rintro e' w2 ⟨rfl, b2⟩
    have hb2 := hb1.trans (b2.mono (by simp))
    clear b2 hb1 hD1
    go_wp2_with fail
    go_ret2
    exact ⟨rfl, hb2⟩
end Go.Proofs.YtjbojboiagbofaaDoor
