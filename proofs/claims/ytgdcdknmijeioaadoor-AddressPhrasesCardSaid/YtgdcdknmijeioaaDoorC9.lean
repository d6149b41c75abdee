/- reader: isBare, address, wordReader. -/
import Derived.Test.YtgdcdknmijeioaaDoorC8
set_option linter.unusedSimpArgs false
set_option linter.unusedVariables false
namespace Go.Proofs.YtgdcdknmijeioaaDoor
open Go.RowKit Go.Shelf

theorem qSame {f : FuncId} {args : Array Value} {w : World} {a : Nat} {v : Value} (c : ∀ W : World, Calls Tryd.prog f args W fun e w' => e = .returned v ∧ w' = W) :
    Calls Tryd.prog f args (w.drewN a) fun e w'' => e = .returned v ∧ ∃ m, w'' = w.drewN m := (c _).mono fun _ _ hh => ⟨hh.1, a, hh.2⟩
def OkH (h mi se : Int) : Prop := (0 ≤ h ∧ h ≤ 23) ∧ (0 ≤ mi ∧ mi ≤ 59) ∧ (0 ≤ se ∧ se ≤ 59)
theorem Chg.drewN {r : Nat} {w w' : World} (h : Chg r w w') (n : Nat) : Chg r w (w'.drewN n) := ⟨below_dN h.below n, h.other⟩
theorem RS.drewN {w : World} {r : Nat} {l : List UInt8} {b : Bool} (h : RS w r l b) (n : Nat) : RS (w.drewN n) r l b := h
theorem prefix_eq (l : List UInt8) : Lib.hasPrefix (l.dropWhile wbB) [64] = bareR l := rfl
set_option maxHeartbeats 1000000 in
theorem isBare_any (r : Nat) (l : List UInt8) (b : Bool) (hl : l.length ≤ 9223372036854775807) (w : World) (h : RS w r l b) :
    Calls Tryd.prog 34 #[.pointer (some ⟨r, 0, none⟩)] w fun e w' => e = .returned (.bool (bareR l)) ∧ RS w' r l b ∧ Chg r w w' := by
  have q0 := h.c0
  have f0 := h.f0 0
  have hz : (⟨l.toArray⟩ : ByteArray).size = l.length := rfl
  have c1 := fun w => count_wb ⟨l.toArray⟩ (by rw [hz]; exact hl) w
  have c2 := fun w => Tryd.strings_HasPrefix ⟨(l.dropWhile wbB).toArray⟩ ⟨#[64]⟩ w
  have e0 : (⟨l.toArray⟩ : ByteArray).data.toList = l := rfl
  rw [e0] at c1
  simp only [str_data, show (⟨#[64]⟩ : ByteArray).data.toList = [64] from rfl, prefix_eq] at c2
  have e2 := str_drop l (l.takeWhile wbB).length
  rw [drop_takeWhile, ← hz] at e2
  have hle := len_takeWhile wbB l
  rw [← hz] at hle
  clear e0 hz
  have HH := Lib.hid h
  clear h
  generalize (⟨l.toArray⟩ : ByteArray) = sv at *
  generalize (⟨(l.dropWhile wbB).toArray⟩ : ByteArray) = dv at *
  generalize (l.takeWhile wbB).length = n at *
  have h1 : (n : Int) ≤ sv.size := by omega
  go_enter Tryd.func34, Tryd.ntmps34
  go_wp2
  go_quiet ((first | (go_at_call 41; with_reducible exact qSame c1) | (go_at_call 50; with_reducible exact qSame c2)))
  go_wp2
  go_ret
  exact ⟨rfl, HH.out.drewN _, (Chg.refl _ _).drewN _⟩
end Go.Proofs.YtgdcdknmijeioaaDoor
