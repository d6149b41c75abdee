/- The document's Second. -/
import Derived.Test.YtjbojboiagbofaaDoorC9
import Derived.Test.YtjbojboiagbofaaDoorC10
set_option linter.unusedSimpArgs false
set_option linter.unusedVariables false
namespace Go.Proofs.YtjbojboiagbofaaDoor
open Go.RowKit

theorem rat_sec {y m d h mi se v : Int} (wd : Int) (a : Sec 2137 y m d h mi se v) (w : World) :
    Calls Tryd.prog 32 #[.agg #[.int .i64 y, .int .i64 m, .int .i64 d, .int .i64 h, .int .i64 mi, .int .i64 se, .int .i64 wd]] w fun e' w' => e' = .returned (.tuple #[.int .i64 v, .bool true]) ∧ Below w.heap.size w w' := by
  obtain ⟨k, j, e, rfl, h2, rfl, h4, rfl, h6, h7, rfl⟩ := a
  exact rat_yes h mi se wd k j e (by omega) h4 h6 h7 w
theorem rat_none {y m d h mi se : Int} (wd : Int) (a : ¬ ∃ v, Sec 2137 y m d h mi se v) (w : World) :
    Calls Tryd.prog 32 #[.agg #[.int .i64 y, .int .i64 m, .int .i64 d, .int .i64 h, .int .i64 mi, .int .i64 se, .int .i64 wd]] w fun e' w' => e' = .returned (.tuple #[.int .i64 0, .bool false]) ∧ Below w.heap.size w w' := by
  by_cases f0 : y < 1999
  · exact rat_no0 y m d h mi se wd f0 w
  by_cases f1 : 2137 < y
  · exact rat_no1 y m d h mi se wd f0 f1 w
  by_cases f2 : m < 1
  · exact rat_no2 y m d h mi se wd f0 f1 f2 w
  by_cases f3 : 12 < m
  · exact rat_no3 y m d h mi se wd f0 f1 f2 f3 w
  by_cases f4 : d < 1
  · exact rat_no4 y m d h mi se wd f0 f1 f2 f3 f4 w
  obtain ⟨k, hk⟩ : ∃ k : Nat, y = 1999 + k := ⟨(y - 1999).toNat, by omega⟩
  obtain ⟨j, hj⟩ : ∃ j : Nat, m = j + 1 := ⟨(m - 1).toNat, by omega⟩
  by_cases f5 : (dim k j : Int) < d
  · exact rat_no5 y m d h mi se wd k j hk hj f0 f1 f2 f3 f4 f5 w
  by_cases f6 : h < 0
  · exact rat_no6 y m d h mi se wd k j hk hj f0 f1 f2 f3 f4 f5 f6 w
  by_cases f7 : 23 < h
  · exact rat_no7 y m d h mi se wd k j hk hj f0 f1 f2 f3 f4 f5 f6 f7 w
  by_cases f8 : mi < 0
  · exact rat_no8 y m d h mi se wd k j hk hj f0 f1 f2 f3 f4 f5 f6 f7 f8 w
  by_cases f9 : 59 < mi
  · exact rat_no9 y m d h mi se wd k j hk hj f0 f1 f2 f3 f4 f5 f6 f7 f8 f9 w
  by_cases f10 : se < 0
  · exact rat_no10 y m d h mi se wd k j hk hj f0 f1 f2 f3 f4 f5 f6 f7 f8 f9 f10 w
  by_cases f11 : 59 < se
  · exact rat_no11 y m d h mi se wd k j hk hj f0 f1 f2 f3 f4 f5 f6 f7 f8 f9 f10 f11 w
  exfalso
  exact a (sec_of ⟨k, j, (d - 1).toNat, hk, by omega, hj, by omega, by omega, by omega⟩ ⟨by omega, by omega, by omega⟩)
set_option maxHeartbeats 1000000 in
theorem rsecond_any (y m d h mi se wd : Int) (w : World) :
    Calls Tryd.prog 17 #[.agg #[.int .i64 y, .int .i64 m, .int .i64 d, .int .i64 h, .int .i64 mi, .int .i64 se, .int .i64 wd]] w fun e' w' => e' = .returned (.tuple #[.int .i64 (secV y m d h mi se).1, .int .i64 (secV y m d h mi se).2]) ∧ Below w.heap.size w w' := by
  have hb1 : Below w.heap.size w (w.alloc (.cells #[.int .i64 y, .int .i64 m, .int .i64 d, .int .i64 h, .int .i64 mi, .int .i64 se, .int .i64 wd] 24)) := (Below.refl _ _).alloc (Nat.le_refl _) _
  by_cases hS : ∃ v, Sec 2137 y m d h mi se v
  · obtain ⟨v, hv⟩ := hS
    have hB := hv.bound (by omega)
    have c1 := fun w => rat_sec wd hv w
    by_cases hr : 0 ≤ v ∧ v ≤ 4294967295
    · rw [secV_some (hv.last (by omega)) hr]
      have f1 : ¬ v < 0 := by omega
      have f2 : ¬ 4294967296 ≤ v := by omega
      clear hv hr
      go_enter Tryd.func17, Tryd.ntmps17
      go_wp2_with fail
      refine (c1 _).mono ?_; rintro e' w2 ⟨rfl, b2⟩
      have hb2 := hb1.trans (b2.mono (by simp))
      clear b2 hb1
      go_wp2_with fail
      go_ret2
      exact ⟨rfl, hb2⟩
    · rw [secV_none (fun ⟨v', h1, h2⟩ => hr (by rw [hv.fun (h1.mono (l2 := 2137) (by omega))]; exact h2))]
      rcases (show v < 0 ∨ (¬ v < 0 ∧ 4294967296 ≤ v) by omega) with f1 | ⟨f1, f2⟩
      all_goals
        clear hv hr
        go_enter Tryd.func17, Tryd.ntmps17
        go_wp2_with fail
        refine (c1 _).mono ?_; rintro e' w2 ⟨rfl, b2⟩
        have hb2 := hb1.trans (b2.mono (by simp))
        clear b2 hb1
        go_wp2_with fail
        go_ret2
        exact ⟨rfl, hb2⟩
  · rw [secV_none (fun ⟨v', h1, h2⟩ => hS ⟨v', h1.mono (by omega)⟩)]
    have c1 := fun w => rat_none wd hS w
    clear hS
    go_enter Tryd.func17, Tryd.ntmps17
    go_wp2_with fail
    refine (c1 _).mono ?_; rintro e' w2 ⟨rfl, b2⟩
    have hb2 := hb1.trans (b2.mono (by simp))
    clear b2 hb1
    go_wp2_with fail
    go_ret2
    exact ⟨rfl, hb2⟩
end Go.Proofs.YtjbojboiagbofaaDoor
