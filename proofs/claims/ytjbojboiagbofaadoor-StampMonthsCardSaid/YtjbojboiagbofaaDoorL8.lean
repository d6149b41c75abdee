/- StampMonths' walk, all. -/
import Derived.Test.YtjbojboiagbofaaDoorL8a
import Derived.Test.YtjbojboiagbofaaDoorL8b
set_option linter.unusedSimpArgs false
set_option linter.unusedVariables false
set_option maxRecDepth 8000
namespace Go.Proofs.YtjbojboiagbofaaDoor
open Go.RowKit Go.Shelf

theorem sec_first (k j : Nat) (hk : 1 ≤ k) (hk2 : k ≤ 137) (hj : j < 12) (hl : k = 137 → j = 0) :
    secV (1999 + (k : Int)) ((j : Int) + 1) 1 0 0 0 = (((yd k + md k j - 365 : Nat) : Int) * 86400, 0) ∧ 365 ≤ yd k + md k j ∧ yd k + md k j ≤ 50070 := by
  have h1 := yd_mono (i := 1) (j := k) hk
  have h2 : yd 1 = 365 := by decide
  have h3 : yd 137 ≤ 50070 := by decide
  have h4 : yd k + md k j ≤ 50070 := by
    by_cases q : k = 137
    · rw [hl q, q]; exact h3
    · have h5 := yd_mono (i := k + 1) (j := 137) (by omega)
      have h6 : yd (k + 1) = yd k + diy k := rfl
      have h7 := md_mono k (i := j) (j := 12) (by omega)
      rw [md_12] at h7
      omega
  refine ⟨?_, by omega, h4⟩
  refine secV_some (v := ((yd k + md k j - 365 : Nat) : Int) * 86400) ⟨k, j, 0, rfl, by omega, rfl, hj, by omega, by have := dim_ge k j; omega, ⟨by omega, by omega, by omega⟩, ?_⟩ (by omega)
  omega
/-- A month's first moment, told by Second. -/
theorem first_at (k j : Nat) (hk : 1 ≤ k) (hk2 : k ≤ 137) (hj : j < 12) (hl : k = 137 → j = 0) (w : World) (hD : Days w) :
    Calls Tryd.prog 16 #[.agg #[.int .i64 (1999 + (k : Int)), .int .i64 ((j : Int) + 1), .int .i64 1, .int .i64 0, .int .i64 0, .int .i64 0, .int .i64 0]] w fun e w' => e = .returned (.tuple #[.int .i64 (((yd k + md k j - 365 : Nat) : Int) * 86400), .int .i64 0]) ∧ Below w.heap.size w w' := by
  have := second_any (1999 + (k : Int)) ((j : Int) + 1) 1 0 0 0 0 w hD
  rwa [(sec_first k j hk hk2 hj hl).1] at this
theorem row_dim (k j : Nat) (hj : j < 12) :
    (leap k = false → (#[.int .i64 0, .int .i64 31, .int .i64 28, .int .i64 31, .int .i64 30, .int .i64 31, .int .i64 30, .int .i64 31, .int .i64 31, .int .i64 30, .int .i64 31, .int .i64 30, .int .i64 31] : Array Value)[j + 1]? = some (.int .i64 (dim k j : Int))) ∧
    (leap k = true → (#[.int .i64 0, .int .i64 31, .int .i64 29, .int .i64 31, .int .i64 30, .int .i64 31, .int .i64 30, .int .i64 31, .int .i64 31, .int .i64 30, .int .i64 31, .int .i64 30, .int .i64 31] : Array Value)[j + 1]? = some (.int .i64 (dim k j : Int))) := by
  unfold dim
  refine ⟨fun h => ?_, fun h => ?_⟩ <;> rw [h]
  all_goals
    match j, hj with
    | 0, _ | 1, _ | 2, _ | 3, _ | 4, _ | 5, _ | 6, _ | 7, _ | 8, _ | 9, _ | 10, _ | 11, _ => rfl
theorem leap_year (k : Nat) (hk : 1 ≤ k) (hk2 : k ≤ 136) : leap k = true ↔ (1999 + k) % 4 = 0 ∧ 1999 + k ≠ 2100 := by
  unfold leap
  simp only [Bool.and_eq_true, Bool.or_eq_true, beq_iff_eq, bne_iff_ne, ne_eq]
  omega
theorem months_some (k j : Nat) (hk : 1 ≤ k) (hk2 : k ≤ 136) (hj : j < 12) (w : World) (hT : Tabs w) (hw0 : 0 < w.heap.size) :
    Calls Tryd.prog 8 #[.int .i64 (1999 + (k : Int)), .int .i64 ((j : Int) + 1)] w fun e w' => e = .returned (.bool true) ∧ Below w.heap.size w w' := by
  have cA := fun w hD => first_at k j hk (by omega) hj (by omega) w hD
  have cC := fun w hD => first_at k 0 hk (by omega) (by omega) (by omega) w hD
  have cD : ∀ w, Days w → Calls Tryd.prog 16 #[.agg #[.int .i64 ((1999 + (k : Int)) + 1), .int .i64 1, .int .i64 1, .int .i64 0, .int .i64 0, .int .i64 0, .int .i64 0]] w fun e w' => e = .returned (.tuple #[.int .i64 (((yd (k + 1) + md (k + 1) 0 - 365 : Nat) : Int) * 86400), .int .i64 0]) ∧ Below w.heap.size w w' := fun w hD => by
    have := first_at (k + 1) 0 (by omega) (by omega) (by omega) (by omega) w hD
    rwa [show (1999 + ((k + 1 : Nat) : Int)) = 1999 + (k : Int) + 1 by omega] at this
  have nA := (sec_first k j hk (by omega) hj (by omega)).2
  have nD := (sec_first (k + 1) 0 (by omega) (by omega) (by omega) (by omega)).2
  have e1 : yd (k + 1) = yd k + diy k := rfl
  have e2 : md (k + 1) 0 = 0 := rfl
  have e3 : md k 0 = 0 := rfl
  have e4 : md k (j + 1) = md k j + dim k j := rfl
  have e5 := md_12 k
  have e6 := md_mono k (i := j + 1) (j := 12) (by omega)
  have g1 := dim_ge k j
  have g2 := dim_le k j
  have y1 := yd_mono (i := 1) (j := k) hk
  have y2 : yd 1 = 365 := by decide
  have hL := leap_year k hk hk2
  have hY : diy k = if leap k then 366 else 365 := rfl
  have hrow := row_dim k j hj
  -- the month's last moment
  have hI : IsDate (((yd k + md k j + dim k j - 365) * 86400 - 1) / 86400 + 365) k j (dim k j - 1) := ⟨by omega, hj, by omega⟩
  have cL := fun w hD => of_any ((yd k + md k j + dim k j - 365) * 86400 - 1) k j (dim k j - 1) (by omega) hI w hD
  obtain ⟨x0, x1, x2, x3, x4, x5, x6, T⟩ := tm_ex k j (dim k j - 1) ((yd k + md k j + dim k j - 365) * 86400 - 1) (by omega) hI
  have t1 := T.mo.1
  have t2 := T.da.1
  rw [T.eq] at cL
  obtain rfl : x1 = (j : Int) + 1 := by omega
  obtain rfl : x2 = (dim k j : Int) := by omega
  have cL2 : ∀ w, Days w → Calls Tryd.prog 10 #[.int .i64 (((yd k + md k j + dim k j - 365 : Nat) : Int) * 86400 - 1)] w fun e w' => e = .returned (.tuple #[.agg #[.int .i64 x0, .int .i64 ((j : Int) + 1), .int .i64 (dim k j : Int), .int .i64 x3, .int .i64 x4, .int .i64 x5, .int .i64 x6], .int .i64 0]) ∧ Below w.heap.size w w' := fun w hD => by
    have := cL w hD
    rwa [show (((yd k + md k j + dim k j - 365) * 86400 - 1 : Nat) : Int) = ((yd k + md k j + dim k j - 365 : Nat) : Int) * 86400 - 1 by omega] at this
  clear cL T t1 t2
  have hy : Hid (2000 ≤ 1999 + (k : Int) ∧ 1999 + (k : Int) ≤ 2135) := Lib.hid (by omega)
  have ht : (1999 + (k : Int)).tmod 4 = (((1999 + k) % 4 : Nat) : Int) := by rw [Int.tmod_eq_emod_of_nonneg (by omega)]; omega
  by_cases h12 : j = 11
  · subst h12
    have e7 : md k 12 = md k 11 + dim k 11 := rfl
    have cB : ∀ w, Days w → Calls Tryd.prog 16 #[.agg #[.int .i64 ((1999 + (k : Int)) + 1), .int .i64 1, .int .i64 1, .int .i64 0, .int .i64 0, .int .i64 0, .int .i64 0]] w fun e w' => e = .returned (.tuple #[.int .i64 (((yd k + md k 11 + dim k 11 - 365 : Nat) : Int) * 86400), .int .i64 0]) ∧ Below w.heap.size w w' := fun w hD => by
      have := cD w hD
      rwa [show yd (k + 1) + md (k + 1) 0 - 365 = yd k + md k 11 + dim k 11 - 365 by omega] at this
    have hb : ∀ Y : Int, (diy k : Int) * 86400 = Y → Hid ((((yd k + md k 11 + dim k 11 - 365 : Nat) : Int) * 86400) - (((yd k + md k 11 - 365 : Nat) : Int) * 86400) = 86400 * (dim k 11 : Int) ∧ (((yd (k + 1) + md (k + 1) 0 - 365 : Nat) : Int) * 86400) - (((yd k + md k 0 - 365 : Nat) : Int) * 86400) = Y ∧ 0 ≤ (((yd k + md k 11 - 365 : Nat) : Int) * 86400) ∧ 0 ≤ (((yd k + md k 0 - 365 : Nat) : Int) * 86400) ∧ 1 ≤ (((yd k + md k 11 + dim k 11 - 365 : Nat) : Int) * 86400) ∧ (((yd k + md k 11 + dim k 11 - 365 : Nat) : Int) * 86400) ≤ 4294967295 ∧ (((yd (k + 1) + md (k + 1) 0 - 365 : Nat) : Int) * 86400) ≤ 4294967295 ∧ 28 ≤ (dim k 11 : Int) ∧ (dim k 11 : Int) ≤ 31) := fun Y hY => Lib.hid (by omega)
    by_cases h4 : (1999 + k) % 4 = 0
    · by_cases h5 : 1999 + k = 2100
      · have hl : leap k = false := by rw [← Bool.not_eq_true, hL]; omega
        exact months_11 _ _ _ _ _ _ x0 x3 x4 x5 x6 hy (by rw [ht]; omega) (by rw [bne_eq_false_iff_eq]; omega) cA cB cC cD cL2 (hrow.1 hl) (hb _ (by rw [hY, hl]; rfl)) w hT hw0
      · have hl : leap k = true := hL.2 ⟨h4, h5⟩
        exact months_12 _ _ _ _ _ _ x0 x3 x4 x5 x6 hy (by rw [ht]; omega) (by rw [bne_iff_ne]; omega) cA cB cC cD cL2 (hrow.2 hl) (hb _ (by rw [hY, hl]; rfl)) w hT hw0
    · have hl : leap k = false := by rw [← Bool.not_eq_true, hL]; omega
      exact months_10 _ _ _ _ _ _ x0 x3 x4 x5 x6 hy (by rw [ht]; omega) cA cB cC cD cL2 (hrow.1 hl) (hb _ (by rw [hY, hl]; rfl)) w hT hw0
  · have cB := fun w hD => first_at k (j + 1) hk (by omega) (by omega) (by omega) w hD
    rw [e4, ← Nat.add_assoc] at cB
    have hb : ∀ Y : Int, (diy k : Int) * 86400 = Y → Hid ((((yd k + md k j + dim k j - 365 : Nat) : Int) * 86400) - (((yd k + md k j - 365 : Nat) : Int) * 86400) = 86400 * (dim k j : Int) ∧ (((yd (k + 1) + md (k + 1) 0 - 365 : Nat) : Int) * 86400) - (((yd k + md k 0 - 365 : Nat) : Int) * 86400) = Y ∧ 0 ≤ (((yd k + md k j - 365 : Nat) : Int) * 86400) ∧ 0 ≤ (((yd k + md k 0 - 365 : Nat) : Int) * 86400) ∧ 1 ≤ (((yd k + md k j + dim k j - 365 : Nat) : Int) * 86400) ∧ (((yd k + md k j + dim k j - 365 : Nat) : Int) * 86400) ≤ 4294967295 ∧ (((yd (k + 1) + md (k + 1) 0 - 365 : Nat) : Int) * 86400) ≤ 4294967295 ∧ 28 ≤ (dim k j : Int) ∧ (dim k j : Int) ≤ 31) := fun Y hY => Lib.hid (by omega)
    have hm : Hid (1 ≤ j + 1 ∧ j + 1 < 12) := Lib.hid (by omega)
    by_cases h4 : (1999 + k) % 4 = 0
    · by_cases h5 : 1999 + k = 2100
      · have hl : leap k = false := by rw [← Bool.not_eq_true, hL]; omega
        exact months_01 (j + 1) _ _ _ _ _ _ x0 x3 x4 x5 x6 hy hm (by rw [ht]; omega) (by rw [bne_eq_false_iff_eq]; omega) cA cB cC cD cL2 (hrow.1 hl) (hb _ (by rw [hY, hl]; rfl)) w hT hw0
      · have hl : leap k = true := hL.2 ⟨h4, h5⟩
        exact months_02 (j + 1) _ _ _ _ _ _ x0 x3 x4 x5 x6 hy hm (by rw [ht]; omega) (by rw [bne_iff_ne]; omega) cA cB cC cD cL2 (hrow.2 hl) (hb _ (by rw [hY, hl]; rfl)) w hT hw0
    · have hl : leap k = false := by rw [← Bool.not_eq_true, hL]; omega
      exact months_00 (j + 1) _ _ _ _ _ _ x0 x3 x4 x5 x6 hy hm (by rw [ht]; omega) cA cB cC cD cL2 (hrow.1 hl) (hb _ (by rw [hY, hl]; rfl)) w hT hw0
set_option maxHeartbeats 1000000 in
theorem months_none (y m : Int) (hn : y < 2000 ∨ (¬ y < 2000 ∧ 2135 < y) ∨ (¬ y < 2000 ∧ ¬ 2135 < y ∧ m < 1) ∨ (¬ y < 2000 ∧ ¬ 2135 < y ∧ ¬ m < 1 ∧ 12 < m)) (w : World) (hT : Tabs w) (hw0 : 0 < w.heap.size) : Calls Tryd.prog 8 #[.int .i64 y, .int .i64 m] w fun e w' => e = .returned (.bool true) ∧ Below w.heap.size w w' := by
  rcases hn with h1 | ⟨h1, h2⟩ | ⟨h1, h2, h3⟩ | ⟨h1, h2, h3, h4⟩
  all_goals
    go_enter Tryd.func8, Tryd.ntmps8
    go_wp2_with fail
    refine (shown_any _ hT hw0).mono ?_; rintro e w0 ⟨rfl, b0⟩
    go_wp2
    go_ret
    exact ⟨rfl, b0⟩
theorem months_any (y m : Int) (w : World) (by0 : -9223372036854775808 ≤ y ∧ y ≤ 9223372036854775807) (bm : -9223372036854775808 ≤ m ∧ m ≤ 9223372036854775807) (hT : Tabs w) (hw0 : 0 < w.heap.size) : Calls Tryd.prog 8 #[.int .i64 y, .int .i64 m] w fun e w' => e = .returned (.bool true) ∧ Below w.heap.size w w' := by
  by_cases hn : y < 2000 ∨ (¬ y < 2000 ∧ 2135 < y) ∨ (¬ y < 2000 ∧ ¬ 2135 < y ∧ m < 1) ∨ (¬ y < 2000 ∧ ¬ 2135 < y ∧ ¬ m < 1 ∧ 12 < m)
  · exact months_none y m hn w hT hw0
  · obtain ⟨k, rfl⟩ : ∃ k : Nat, y = 1999 + (k : Int) := ⟨(y - 1999).toNat, by omega⟩
    obtain ⟨j, rfl⟩ : ∃ j : Nat, m = (j : Int) + 1 := ⟨(m - 1).toNat, by omega⟩
    exact months_some k j (by omega) (by omega) (by omega) w hT hw0
end Go.Proofs.YtjbojboiagbofaaDoor
