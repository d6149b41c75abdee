/- WalOrder, walked, whatever came in. -/
import Derived.Test.YtfkpehefofihmaaO1
import Derived.Test.YtfkpehefofihmaaO2
namespace Go.Proofs.Ytfkpehefofihmaa
open Go.RowKit
theorem order_all (w : World) (ad : Option Addr) (len cap : Nat) (ra : Nat → Option Addr) (rl rc : Nat → Nat) (z : Nat → Nat → Int) (kv : Value) (keep : List Int) (hin : RowsIn w ad len ra rl rc z) (hkeep : ∀ F : List Nat, (∀ y ∈ F, w.heap.size ≤ y) → KeepAt w F kv keep) :
    Calls Try.prog 5 #[.slice ad len cap, kv] w fun e w' => e = .returned (.bool true) ∧ Only [] w w' := by
  rcases Nat.lt_or_ge 30 len with h | h
  · exact order_1 w ad len cap ra rl rc z kv keep hin hkeep h
  · exact order_0 w ad len cap ra rl rc z kv keep hin hkeep h
end Go.Proofs.Ytfkpehefofihmaa
