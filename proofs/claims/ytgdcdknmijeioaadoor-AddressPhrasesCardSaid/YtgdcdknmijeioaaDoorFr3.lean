/- AddressPhrases, as its row hands in its arguments. -/
import Derived.Test.YtgdcdknmijeioaaDoorFr2
import Derived.Test.YtgdcdknmijeioaaDoorL6
set_option linter.unusedSimpArgs false
set_option linter.unusedVariables false
namespace Go.Proofs.YtgdcdknmijeioaaDoor
open Go.RowKit Go.Shelf

theorem phrases_law' (a0 : Option Addr) (n0 c0 : Nat) (a1 : Option Addr) (n1 c1 : Nat) (w : World) (h0 : ∃ es : List ByteArray, es.length = n0 ∧ n0 ≤ 9223372036854775807 ∧ WsAt w a0 es) (h1 : ∃ bl : List Int, bl.length = n1 ∧ n1 ≤ 9223372036854775807 ∧ NsAt w a1 bl) (hM : Max w) :
    Calls Tryd.prog 6 #[.slice a0 n0 c0, .slice a1 n1 c1] w fun e w' => e = .returned (.bool true) ∧ Below w.heap.size w w' := by
  obtain ⟨es, x1, x2, x3⟩ := h0
  obtain ⟨bl, y1, y2, y3⟩ := h1
  exact phrases_law a0 n0 c0 a1 n1 c1 es x1 x2 bl y1 y2 w x3 y3 hM
end Go.Proofs.YtgdcdknmijeioaaDoor
