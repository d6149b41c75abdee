/- CodecTexts' walk. -/
import Derived.Test.YtdikgifgapbocaaDoorC21
set_option linter.unusedSimpArgs false
set_option linter.unusedVariables false
namespace Go.Proofs.YtdikgifgapbocaaDoor
open Go.RowKit Go.Shelf

def numPair (r : Option Nat) (most : Int) : Int × Bool := match r with
  | some n => if (n : Int) ≤ most then (n, true) else (0, false)
  | none => (0, false)
theorem numRes_pair (r : Option Nat) (most : Int) : numRes r most = .tuple #[.int .i64 (numPair r most).1, .bool (numPair r most).2] := by
  cases r with
  | none => rfl
  | some n => unfold numRes numPair; by_cases h : (n : Int) ≤ most <;> simp [h]
set_option maxHeartbeats 4000000 in
set_option maxRecDepth 1000000 in
theorem texts_any (s : ByteArray) (most : Int) (w : World) (hs : s.size ≤ 1048576) (bm : -9223372036854775808 ≤ most ∧ most ≤ 9223372036854775807) (hM : Max w) (hT : Tab w) :
    Calls Tryd.prog 7 #[.string s, .int .i64 most] w fun e w' => e = .returned (.bool true) ∧ Below w.heap.size w w' := by
  have HN1 := fun w => number_any s most w (by omega)
  have HN2 := fun w => rnumber_any s most w (by omega)
  unfold NumPost at HN1 HN2
  rw [numRes_pair] at HN1 HN2
  generalize (numPair (number s.data.toList) most).1 = v at HN1 HN2
  generalize (numPair (number s.data.toList) most).2 = ok at HN1 HN2
  go_enter Tryd.func7, Tryd.ntmps7
  go_wp2_with fail
  refine (shown_any w hM).mono ?_; rintro e w1 ⟨rfl, b1⟩
  go_wp2_with fail
  refine (HN1 w1).mono ?_; rintro e w2 ⟨rfl, b2⟩
  go_wp2_with fail
  refine (HN2 w2).mono ?_; rintro e w3 ⟨rfl, b3⟩
  have b3' := below_trans (below_trans b1 b2) b3
  go_wp2_with fail
  refine (quote_any s w3 (by omega) (.inr (hT.below b3'))).mono ?_; rintro e w4 ⟨rfl, b4⟩
  go_wp2_with fail
  refine (rquote_any s w4 (by omega)).mono ?_; rintro e w5 ⟨rfl, b5⟩
  go_wp2_with fail
  refine (great_any s (by omega) w5).mono ?_; rintro e w6 ⟨rfl, b6⟩
  go_wp2_with fail
  refine (rgreat_any s (by omega) w6).mono ?_; rintro e w7 ⟨rfl, b7⟩
  go_wp2_with fail
  refine (small_any s (by omega) w7).mono ?_; rintro e w8 ⟨rfl, b8⟩
  go_wp2_with fail
  refine (rsmall_any s (by omega) w8).mono ?_; rintro e w9 ⟨rfl, b9⟩
  go_wp2
  go_ret
  exact ⟨rfl, below_trans (below_trans (below_trans (below_trans (below_trans (below_trans b3' b4) b5) b6) b7) b8) b9⟩
end Go.Proofs.YtdikgifgapbocaaDoor
