/- reader: wordReader. -/
import Derived.Test.YtgdcdknmijeioaaDoorC10
set_option linter.unusedSimpArgs false
set_option linter.unusedVariables false
namespace Go.Proofs.YtgdcdknmijeioaaDoor
open Go.RowKit Go.Shelf

/-- What takes the word that stands next: a quoted one, a plain one, none. -/
def wrK (l : List UInt8) : Nat := if (tkm 34 l).1 = true then 70 else if 0 < (l.takeWhile wbB).length then 71 else 0
def wrV (r : Nat) (l : List UInt8) : Value := if (tkm 34 l).1 = true then .func (.func 70) #[.pointer (some ⟨r, 0, none⟩)] #[] else if 0 < (l.takeWhile wbB).length then .func (.func 71) #[.pointer (some ⟨r, 0, none⟩)] #[] else .nilFunc
set_option maxHeartbeats 1000000 in
theorem wordReader_any (r : Nat) (l : List UInt8) (b : Bool) (hl : l.length ≤ 9223372036854775807) (w : World) (h : RS w r l b) :
    Calls Tryd.prog 63 #[.pointer (some ⟨r, 0, none⟩)] w fun e w' => e = .returned (wrV r l) ∧ w' = w := by
  have q0 := h.c0
  have hz : (⟨l.toArray⟩ : ByteArray).size = l.length := rfl
  have c1 := fun w => count_wb ⟨l.toArray⟩ (by rw [hz]; exact hl) w
  have c2 := fun w => Tryd.strings_HasPrefix ⟨l.toArray⟩ ⟨#[34]⟩ w
  simp only [str_data, show (⟨#[34]⟩ : ByteArray).data.toList = [34] from rfl, (trim_one 34 l).2] at c1 c2
  unfold wrV
  generalize (tkm 34 l).1 = p at *
  generalize (l.takeWhile wbB).length = n at *
  cases p
  · by_cases hn : 0 < n
    · have h1 : (0 : Int) < n := by omega
      rw [if_neg (by decide), if_pos hn]
      clear hn
      go_enter Tryd.func63, Tryd.ntmps63
      go_wp2_with (first | (go_at_call 41; refine (c1 _).mono ?_; rintro e w' ⟨rfl, hw⟩; rw [hw]) | (go_at_call 50; refine (c2 _).mono ?_; rintro e w' ⟨rfl, hw⟩; rw [hw]))
      go_ret
      exact ⟨rfl, rfl⟩
    · obtain rfl : n = 0 := by omega
      rw [if_neg (by decide), if_neg hn]
      clear hn
      go_enter Tryd.func63, Tryd.ntmps63
      go_wp2_with (first | (go_at_call 41; refine (c1 _).mono ?_; rintro e w' ⟨rfl, hw⟩; rw [hw]) | (go_at_call 50; refine (c2 _).mono ?_; rintro e w' ⟨rfl, hw⟩; rw [hw]))
      go_ret
      exact ⟨rfl, rfl⟩
  · rw [if_pos rfl]
    go_enter Tryd.func63, Tryd.ntmps63
    go_wp2_with (first | (go_at_call 41; refine (c1 _).mono ?_; rintro e w' ⟨rfl, hw⟩; rw [hw]) | (go_at_call 50; refine (c2 _).mono ?_; rintro e w' ⟨rfl, hw⟩; rw [hw]))
    go_ret
    exact ⟨rfl, rfl⟩
end Go.Proofs.YtgdcdknmijeioaaDoor
