/- Parse, and the document's: what the text says. -/
import Derived.Test.YtjbojboiagbofaaDoorC30
import Derived.Test.YtjbojboiagbofaaDoorC32
import Derived.Test.YtjbojboiagbofaaDoorC33
import Derived.Test.YtjbojboiagbofaaDoorQ3
set_option linter.unusedSimpArgs false
set_option linter.unusedVariables false
namespace Go.Proofs.YtjbojboiagbofaaDoor
open Go.RowKit Go.Shelf

theorem parse_all (l : List UInt8) (hl : l.length ≤ 9223372036854775807) (w : World) (hT : Tabs w) (hw0 : 0 < w.heap.size) :
    Calls Tryd.prog 18 #[.string ⟨l.toArray⟩] w fun e w' => e = .returned (.tuple #[.int .i64 (parR l).1, .int .i64 (parR l).2]) ∧ Below w.heap.size w w' := by
  obtain ⟨y, m, d, h, mi, se, l1, b1, hDT⟩ := dt_ex l false
  obtain ⟨z, l2, b2, hz⟩ : ∃ z l2 b2, zoneV l1 b1 = (z, l2, b2) := ⟨_, _, _, rfl⟩
  obtain ⟨h1, h2⟩ := par_eq l y m d h mi se l1 b1 hDT z l2 b2 hz
  by_cases hS : ∃ v, Sec 2136 y m d h mi se v
  · obtain ⟨v, hv⟩ := hS
    rw [← h1 v hv]
    exact parse_walk l hl y m d h mi se l1 b1 hDT z l2 b2 hz v true (hv.bound (by omega)) (fun w hD => secondsTo_sec 0 hv w hD) w hT hw0
  · rw [← h2 hS]
    exact parse_walk l hl y m d h mi se l1 b1 hDT z l2 b2 hz 0 false (by omega) (fun w hD => secondsTo_none 0 hS w hD) w hT hw0
theorem rparse_all (l : List UInt8) (w : World) :
    Calls Tryd.prog 19 #[.string ⟨l.toArray⟩] w fun e w' => e = .returned (.tuple #[.int .i64 (parR l).1, .int .i64 (parR l).2]) ∧ Below w.heap.size w w' := by
  by_cases hM : marksR l
  · have hs := hM.2.2.2.2.2.2.2
    by_cases hB : digsR l
    · rw [parR_yes ⟨hM, hB⟩]
      by_cases h0 : at0 l 0 = 32
      · rw [show dayR l = sl l 1 2 by unfold dayR; rw [if_pos h0]]
        rcases hs with h | h
        · rw [show zR l = 3600 * (dV (sl l 22 24) : Int) + 60 * dV (sl l 24 26) by unfold zR; rw [if_pos h]]
          exact rparse_yes_b43 l hM hB h0 h w
        · rw [show zR l = -(3600 * (dV (sl l 22 24) : Int) + 60 * dV (sl l 24 26)) by unfold zR; rw [if_neg (by rw [h]; decide)]]
          exact rparse_yes_b45 l hM hB h0 h w
      · rw [show dayR l = sl l 0 2 by unfold dayR; rw [if_neg h0]]
        rcases hs with h | h
        · rw [show zR l = 3600 * (dV (sl l 22 24) : Int) + 60 * dV (sl l 24 26) by unfold zR; rw [if_pos h]]
          exact rparse_yes_d43 l hM hB h0 h w
        · rw [show zR l = -(3600 * (dV (sl l 22 24) : Int) + 60 * dV (sl l 24 26)) by unfold zR; rw [if_neg (by rw [h]; decide)]]
          exact rparse_yes_d45 l hM hB h0 h w
    · rw [parR_no (fun q => hB q.2)]
      by_cases h0 : at0 l 0 = 32
      · rcases hs with h | h
        · exact rparse_bad_b43 l hM hB h0 h w
        · exact rparse_bad_b45 l hM hB h0 h w
      · rcases hs with h | h
        · exact rparse_bad_d43 l hM hB h0 h w
        · exact rparse_bad_d45 l hM hB h0 h w
  · rw [parR_no (fun q => hM q.1)]
    exact rparse_marks l hM w
end Go.Proofs.YtjbojboiagbofaaDoor
