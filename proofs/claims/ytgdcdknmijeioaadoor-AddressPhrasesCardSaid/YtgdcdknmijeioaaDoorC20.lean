/- shown. -/
import Derived.Test.YtgdcdknmijeioaaDoorC19
set_option linter.unusedSimpArgs false
set_option linter.unusedVariables false
namespace Go.Proofs.YtgdcdknmijeioaaDoor
open Go.RowKit Go.Shelf

theorem p1 : parV [97, 46, 98, 64, 99, 46, 100] = .tuple #[adV [] [97, 46, 98] [99, 46, 100], .int .i64 0] := by
  have : parseP [97, 46, 98, 64, 99, 46, 100] = some ([97, 46, 98], [99, 46, 100]) := by decide +kernel
  unfold parV; rw [this]
theorem p2 : parV [97, 46, 46, 98, 64, 99] = .tuple #[adV [] [] [], .int .i64 90] := by
  have : parseP [97, 46, 46, 98, 64, 99] = none := by decide +kernel
  unfold parV; rw [this]
theorem p3 : parV [97, 64, 45, 99] = .tuple #[adV [] [] [], .int .i64 90] := by
  have : parseP [97, 64, 45, 99] = none := by decide +kernel
  unfold parV; rw [this]
theorem p4 : patV [60, 62] = .tuple #[adV [] [] [], .int .i64 0] := rfl
theorem p5 : patV [60, 32, 97, 64, 98, 62] = .tuple #[adV [] [] [], .int .i64 90] := by
  have h1 : mid [60, 32, 97, 64, 98, 62] = some [32, 97, 64, 98] := by decide +kernel
  have h2 : parseP [32, 97, 64, 98] = none := by decide +kernel
  unfold patV; rw [if_neg (by decide), h1]
  show parV _ = _
  unfold parV; rw [h2]
theorem LPost.below {res : List Ad × Int} {w : World} {e : Ending} {w' : World} (h : LPost res w e w') : Below w.heap.size w w' := h.2
set_option maxHeartbeats 4000000 in
theorem shown_any (w : World) (hM : Max w) : Calls Tryd.prog 7 #[] w fun e w' => e = .returned (.bool true) ∧ Below w.heap.size w w' := by
  have c1 := fun w hM => parse_any ⟨#[97, 46, 98, 64, 99, 46, 100]⟩ (by decide) w hM
  have c2 := fun w hM => parse_any ⟨#[97, 46, 46, 98, 64, 99]⟩ (by decide) w hM
  have c3 := fun w hM => parse_any ⟨#[97, 64, 45, 99]⟩ (by decide) w hM
  have c4 := fun w hM => path_any ⟨#[60, 62]⟩ (by decide) w hM
  have c5 := fun w hM => path_any ⟨#[60, 32, 97, 64, 98, 62]⟩ (by decide) w hM
  have c6 := fun w hM => list_any L1 (by decide) w hM
  have c7 := fun w hM => list_any [97, 64, 98, 44] (by decide) w hM
  have d1 : (⟨#[97, 46, 98, 64, 99, 46, 100]⟩ : ByteArray).data.toList = [97, 46, 98, 64, 99, 46, 100] := rfl
  have d2 : (⟨#[97, 46, 46, 98, 64, 99]⟩ : ByteArray).data.toList = [97, 46, 46, 98, 64, 99] := rfl
  have d3 : (⟨#[97, 64, 45, 99]⟩ : ByteArray).data.toList = [97, 64, 45, 99] := rfl
  have d4 : (⟨#[60, 62]⟩ : ByteArray).data.toList = [60, 62] := rfl
  have d5 : (⟨#[60, 32, 97, 64, 98, 62]⟩ : ByteArray).data.toList = [60, 32, 97, 64, 98, 62] := rfl
  rw [d1, p1] at c1
  rw [d2, p2] at c2
  rw [d3, p3] at c3
  rw [d4, p4] at c4
  rw [d5, p5] at c5
  rw [shown_list] at c6
  rw [shown_none] at c7
  clear d1 d2 d3 d4 d5
  unfold adV at c1 c2 c3 c4 c5
  unfold LPost at c6 c7
  go_enter Tryd.func7, Tryd.ntmps7
  go_wp2_with fail
  refine (c1 _ hM).mono ?_; rintro e w1 ⟨rfl, b1⟩
  have B1 := b1.alloc b1.size (.cells #[.string ⟨#[]⟩, .string ⟨#[97, 46, 98]⟩, .string ⟨#[99, 46, 100]⟩] 23)
  have A1 := heap_alloc_new w1 (.cells #[.string ⟨#[]⟩, .string ⟨#[97, 46, 98]⟩, .string ⟨#[99, 46, 100]⟩] 23)
  have Z1 : w1.heap.size < (w1.alloc (.cells #[.string ⟨#[]⟩, .string ⟨#[97, 46, 98]⟩, .string ⟨#[99, 46, 100]⟩] 23)).heap.size := by simp
  have M1 := hM.below B1
  clear b1 c1
  go_wp2_with fail
  refine (c2 _ M1).mono ?_; rintro e w2 ⟨rfl, b2⟩
  have b2' := b2.alloc b2.size (.cells #[.string ⟨#[]⟩, .string ⟨#[]⟩, .string ⟨#[]⟩] 23)
  have B2 := B1.trans (b2'.mono B1.size)
  have A2 := (b2'.block _ Z1).trans A1
  have Z2 := Nat.lt_of_lt_of_le Z1 b2'.size
  have M2 := M1.below b2'
  clear b2 b2' B1 A1 Z1 M1 c2
  go_wp2_with fail
  refine (c3 _ M2).mono ?_; rintro e w3 ⟨rfl, b3⟩
  have b3' := b3.alloc b3.size (.cells #[.string ⟨#[]⟩, .string ⟨#[]⟩, .string ⟨#[]⟩] 23)
  have B3 := B2.trans (b3'.mono B2.size)
  have A3 := (b3'.block _ Z2).trans A2
  have Z3 := Nat.lt_of_lt_of_le Z2 b3'.size
  have M3 := M2.below b3'
  clear b3 b3' B2 A2 Z2 M2 c3
  go_wp2_with fail
  refine (c4 _ M3).mono ?_; rintro e w4 ⟨rfl, b4⟩
  have b4' := b4.alloc b4.size (.cells #[.string ⟨#[]⟩, .string ⟨#[]⟩, .string ⟨#[]⟩] 23)
  have B4 := B3.trans (b4'.mono B3.size)
  have A4 := (b4'.block _ Z3).trans A3
  have Z4 := Nat.lt_of_lt_of_le Z3 b4'.size
  have M4 := M3.below b4'
  have D4 := heap_alloc_new w4 (.cells #[.string ⟨#[]⟩, .string ⟨#[]⟩, .string ⟨#[]⟩] 23)
  have Y4 : w4.heap.size < (w4.alloc (.cells #[.string ⟨#[]⟩, .string ⟨#[]⟩, .string ⟨#[]⟩] 23)).heap.size := by simp
  clear b4 b4' B3 A3 Z3 M3 c4
  go_wp2_with fail
  refine (c5 _ M4).mono ?_; rintro e w5 ⟨rfl, b5⟩
  have b5' := b5.alloc b5.size (.cells #[.string ⟨#[]⟩, .string ⟨#[]⟩, .string ⟨#[]⟩] 23)
  have B5 := B4.trans (b5'.mono B4.size)
  have A5 := (b5'.block _ Z4).trans A4
  have Z5 := Nat.lt_of_lt_of_le Z4 b5'.size
  have M5 := M4.below b5'
  have D5 := (b5'.block _ Y4).trans D4
  have Y5 := Nat.lt_of_lt_of_le Y4 b5'.size
  clear b5 b5' B4 A4 Z4 M4 D4 Y4 c5
  go_wp2_with fail
  refine (c6 _ M5).mono ?_; rintro e w6 ⟨⟨v, rfl, a, cap, rfl, hcap, hv⟩, b6⟩
  have B6 := B5.trans (b6.mono B5.size)
  have A6 := (b6.block _ Z5).trans A5
  have Z6 := Nat.lt_of_lt_of_le Z5 b6.size
  have M6 := M5.below b6
  have D6 := (b6.block _ Y5).trans D5
  have Y6 := Nat.lt_of_lt_of_le Y5 b6.size
  rcases hv with h | ⟨g, rfl, hge, hg, hcell⟩
  · cases h
  clear hge b6 B5 A5 Z5 M5 D5 Y5 c6
  go_wp2_with fail
  refine (c7 _ M6).mono ?_; rintro e w7 ⟨⟨v, rfl, a7, cap7, rfl, _, _⟩, b7⟩
  have B7 := B6.trans (b7.mono B6.size)
  have A7 := (b7.block _ Z6).trans A6
  have D7 := (b7.block _ Y6).trans D6
  have k := fun j u h => (b7.cell (p := ⟨g, j, none⟩) hg).trans (hcell j u h)
  have k0 := k 0 (.string ⟨#[65, 110, 110, 32, 66, 46]⟩) rfl
  have k1 := k 1 (.string ⟨#[97]⟩) rfl
  have k2 := k 2 (.string ⟨#[98]⟩) rfl
  have k6 := k 6 (.string ⟨#[120, 44, 32, 34, 121]⟩) rfl
  have r0 := cellA A7 0 (.string ⟨#[]⟩) rfl
  have r1 := cellA A7 1 (.string ⟨#[97, 46, 98]⟩) rfl
  have r2 := cellA A7 2 (.string ⟨#[99, 46, 100]⟩) rfl
  have s0 := cellA D7 0 (.string ⟨#[]⟩) rfl
  have s1 := cellA D7 1 (.string ⟨#[]⟩) rfl
  have s2 := cellA D7 2 (.string ⟨#[]⟩) rfl
  clear b7 B6 A6 Z6 M6 D6 Y6 c7 k hcell A7 D7 hM
  generalize w1.heap.size = g1 at *
  generalize w4.heap.size = g4 at *
  go_wp2_with fail
  go_ret
  exact ⟨rfl, B7⟩
end Go.Proofs.YtgdcdknmijeioaaDoor
