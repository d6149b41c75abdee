/- What came in as rows of texts and of numbers. -/
import Derived.Test.YtgdcdknmijeioaaDoorL5
set_option linter.unusedSimpArgs false
set_option linter.unusedVariables false
namespace Go.Proofs.YtgdcdknmijeioaaDoor
open Go.RowKit Go.Shelf

/-- A slice of texts that came in. -/
def WsAt (w : World) (a : Option Addr) (es : List ByteArray) : Prop := ∀ j e, es[j]? = some e → ∃ b off, a = some ⟨b, off, none⟩ ∧ b < w.heap.size ∧ w.cell? ⟨b, off + j, none⟩ = some (.string e) ∧ e.size ≤ 9223372036854775807
theorem WsAt.below {w w' : World} {a : Option Addr} {es : List ByteArray} (h : WsAt w a es) (hb : Below w.heap.size w w') : WsAt w' a es := fun j e hj => by
  obtain ⟨b, off, h1, h2, h3, h4⟩ := h j e hj
  exact ⟨b, off, h1, Nat.lt_of_lt_of_le h2 hb.size, by rw [hb.cell (p := ⟨b, off + j, none⟩) h2]; exact h3, h4⟩
/-- A slice of numbers that came in. -/
def NsAt (w : World) (a : Option Addr) (es : List Int) : Prop := ∀ j e, es[j]? = some e → ∃ b off, a = some ⟨b, off, none⟩ ∧ b < w.heap.size ∧ w.cell? ⟨b, off + j, none⟩ = some (.int .i64 e)
theorem NsAt.below {w w' : World} {a : Option Addr} {es : List Int} (h : NsAt w a es) (hb : Below w.heap.size w w') : NsAt w' a es := fun j e hj => by
  obtain ⟨b, off, h1, h2, h3⟩ := h j e hj
  exact ⟨b, off, h1, Nat.lt_of_lt_of_le h2 hb.size, by rw [hb.cell (p := ⟨b, off + j, none⟩) h2]; exact h3⟩
end Go.Proofs.YtgdcdknmijeioaaDoor
