/- letter, value: the document's letters. -/
import Derived.Test.YtdikgifgapbocaaDoorQ0
import Derived.Test.YtdikgifgapbocaaDoorProg
import Derived.WalkKit
import Derived.BigCall
import Derived.BigQuiet
import Derived.Deep.QuietTactic
set_option linter.unusedSimpArgs false
set_option linter.unusedVariables false
namespace Go.Proofs.YtdikgifgapbocaaDoor
open Go.RowKit

theorem ret_int {k : IntKind} {a b : Int} (h : a = b) : Ending.returned (.int k a) = .returned (.int k b) := by rw [h]
theorem alph_at (n : Nat) (h : n < 64) (h' : n < (ByteArray.mk #[65,66,67,68,69,70,71,72,73,74,75,76,77,78,79,80,81,82,83,84,85,86,87,88,89,90,97,98,99,100,101,102,103,104,105,106,107,108,109,110,111,112,113,114,115,116,117,118,119,120,121,122,48,49,50,51,52,53,54,55,56,57,43,47]).size) : (ByteArray.mk #[65,66,67,68,69,70,71,72,73,74,75,76,77,78,79,80,81,82,83,84,85,86,87,88,89,90,97,98,99,100,101,102,103,104,105,106,107,108,109,110,111,112,113,114,115,116,117,118,119,120,121,122,48,49,50,51,52,53,54,55,56,57,43,47])[n]'h' = lt n := by
  have : ∀ m : Fin 64, (ByteArray.mk #[65,66,67,68,69,70,71,72,73,74,75,76,77,78,79,80,81,82,83,84,85,86,87,88,89,90,97,98,99,100,101,102,103,104,105,106,107,108,109,110,111,112,113,114,115,116,117,118,119,120,121,122,48,49,50,51,52,53,54,55,56,57,43,47])[m.val]'(by have := m.isLt; exact this) = lt m.val := by decide +kernel
  exact this ⟨n, h⟩

set_option maxHeartbeats 400000 in
theorem letter_any (n : Nat) (hn : n < 64) (w : World) :
    Calls Tryd.prog 34 #[.int .i64 n] w fun e w' => e = .returned (.int .u8 (lt n).toNat) ∧ w = w' := by
  have h0 : (0 : Int) ≤ n := by omega
  have h1 : (n : Int) < 64 := by omega
  go_enter Tryd.func34, Tryd.ntmps34
  go_wp2
  go_ret
  refine ⟨ret_int ?_, rfl⟩
  rw [alph_at n hn]

def isV (c : UInt8) : Int := val c.toNat
set_option maxHeartbeats 800000 in
theorem value_any (c : UInt8) (w : World) :
    Calls Tryd.prog 33 #[.int .u8 c.toNat] w fun e w' => e = .returned (.int .i64 (val c.toNat)) ∧ w = w' := by
  have hc := c.toNat_lt
  obtain ⟨x, hx⟩ : ∃ x : Int, (c.toNat : Int) = x := ⟨_, rfl⟩
  have h0 : 0 ≤ x := by omega
  have h1 : x < 256 := by omega
  rw [hx]
  clear hx hc
  have hv : ∀ y, y = val x → Ending.returned (.int .i64 y) = .returned (.int .i64 (val x)) := fun y h => by rw [h]
  rcases (show x < 43 ∨ x = 43 ∨ (43 < x ∧ x < 47) ∨ x = 47 ∨ (48 ≤ x ∧ x ≤ 57) ∨ (58 ≤ x ∧ x ≤ 64) ∨ (65 ≤ x ∧ x ≤ 90) ∨ (91 ≤ x ∧ x ≤ 96) ∨ (97 ≤ x ∧ x ≤ 122) ∨ 123 ≤ x by omega) with h | rfl | ⟨h, h'⟩ | rfl | ⟨h, h'⟩ | ⟨h, h'⟩ | ⟨h, h'⟩ | ⟨h, h'⟩ | ⟨h, h'⟩ | h
  all_goals
    go_enter Tryd.func33, Tryd.ntmps33
    go_wp2
    go_ret
    refine ⟨hv _ ?_, rfl⟩
    unfold val
    repeat' split
    all_goals (first | omega | rfl)
end Go.Proofs.YtdikgifgapbocaaDoor
