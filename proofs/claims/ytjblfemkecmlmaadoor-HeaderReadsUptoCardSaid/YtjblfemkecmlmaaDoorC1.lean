/- The kinds of bytes. -/
import Derived.Test.YtjblfemkecmlmaaDoorQ2
import Derived.Test.YtjblfemkecmlmaaDoorShelf
import Derived.Lib.Hide
import Derived.WalkKit
import Derived.BigCall
import Derived.BigQuiet
import Derived.Deep.QuietTactic
import Derived.Lib.LaidTab
import Derived.Lib.OthersKept
set_option linter.unusedSimpArgs false
set_option linter.unusedVariables false
namespace Go.Proofs.YtjblfemkecmlmaaDoor
open Go.RowKit Go.Shelf

theorem ret_bool {a b : Bool} (h : a = b) : Ending.returned (.bool a) = .returned (.bool b) := by rw [h]
/-- What a kind of bytes says: function k. -/
def KindOf (k : Nat) (p : UInt8 → Bool) : Prop := ∀ (c : UInt8) (w : World), Calls Tryd.prog k #[.int .u8 c.toNat] w fun e w' => e = .returned (.bool (p c)) ∧ w' = w
theorem grB_iff (c : UInt8) (x : Int) (h : x = (c.toNat : Int)) : grB c = decide (33 ≤ x ∧ x ≤ 126) := by
  subst h
  unfold grB
  rw [Bool.eq_iff_iff]
  simp
  omega
set_option maxHeartbeats 1000000 in
theorem gr_any : KindOf 72 grB := by
  intro c w
  have hc := c.toNat_lt
  obtain ⟨x, hx⟩ : ∃ x : Int, (c.toNat : Int) = x := ⟨_, rfl⟩
  rw [grB_iff c x hx.symm, hx]
  have h0 : 0 ≤ x := by omega
  have h1 : x < 256 := by omega
  clear hx hc
  go_enter Tryd.func72, Tryd.ntmps72
  go_wp2
  all_goals
    go_ret
    refine ⟨ret_bool ?_, rfl⟩
    first
      | rfl
      | (rw [Bool.eq_iff_iff]; simp only [Bool.or_eq_true, Bool.and_eq_true, decide_eq_true_eq, Bool.false_eq_true, true_iff, false_iff]; omega)
theorem contains_index (c : UInt8) : ∀ l : List UInt8, (0 ≤ Lib.indexByte l c) ↔ l.contains c = true
  | [] => by simp [Lib.indexByte]
  | b :: l => by
    have ih := contains_index c l
    have hg := Lib.indexByte_ge l c
    unfold Lib.indexByte
    by_cases h : b = c
    · subst h; simp
    · have h' : ¬ c = b := fun e => h e.symm
      have hb : (b == c) = false := by simpa using h
      rw [hb, List.contains_cons]
      have hb' : (c == b) = false := by simpa using h'
      rw [hb', Bool.false_or, ← ih]
      simp only [Bool.false_eq_true, if_false]
      split
      · rename_i h1; have := beq_iff_eq.1 h1; omega
      · rename_i h1; have : Lib.indexByte l c ≠ -1 := fun e => h1 (by rw [e]; rfl); omega
theorem toU8 (c : UInt8) : ((c.toNat : Int)).toNat.toUInt8 = c := by simp
theorem eq_nat (c : UInt8) (n : Nat) (hn : n < 256) : (c == UInt8.ofNat n) = decide ((c.toNat : Int) = n) := by
  rw [Bool.eq_iff_iff]
  simp only [beq_iff_eq, decide_eq_true_eq]
  constructor
  · rintro rfl; simp [Nat.mod_eq_of_lt hn]
  · intro h; apply UInt8.toNat_inj.1; simp [Nat.mod_eq_of_lt hn]; omega
set_option maxHeartbeats 1000000 in
theorem tk_any : KindOf 76 tkB := by
  intro c w
  have c1 := fun w => gr_any c w
  have c2 := fun w => Tryd.strings_IndexByte ⟨#[40, 41, 60, 62, 64, 44, 59, 58, 92, 34, 47, 91, 93, 63, 61]⟩ c.toNat w
  have hi := contains_index c marksL
  rw [toU8] at c2
  have hm : (⟨#[40, 41, 60, 62, 64, 44, 59, 58, 92, 34, 47, 91, 93, 63, 61]⟩ : ByteArray).data.toList = marksL := rfl
  rw [hm] at c2
  unfold tkB
  generalize Lib.indexByte marksL c = ix at *
  generalize marksL.contains c = bc at *
  generalize grB c = bl at *
  clear hm
  cases bl
  · go_enter Tryd.func76, Tryd.ntmps76
    go_wp2_with (first | (go_at_call 72; refine (c1 _).mono ?_; rintro e w' ⟨rfl, rfl⟩) | (go_at_call 50; refine (c2 _).mono ?_; rintro e w' ⟨rfl, rfl⟩))
    go_ret
    exact ⟨rfl, rfl⟩
  · go_enter Tryd.func76, Tryd.ntmps76
    go_wp2_with (first | (go_at_call 72; refine (c1 _).mono ?_; rintro e w' ⟨rfl, rfl⟩) | (go_at_call 50; refine (c2 _).mono ?_; rintro e w' ⟨rfl, rfl⟩))
    go_ret
    refine ⟨ret_bool ?_, rfl⟩
    cases bc <;> simp at hi ⊢ <;> omega
set_option maxHeartbeats 1000000 in
theorem nm_any : KindOf 48 nmB := by
  intro c w
  have c1 := fun w => gr_any c w
  unfold nmB
  rw [show (58 : UInt8) = UInt8.ofNat 58 from rfl, eq_nat c 58 (by omega)]
  generalize grB c = bl at *
  generalize (c.toNat : Int) = x at *
  cases bl
  · go_enter Tryd.func48, Tryd.ntmps48
    go_wp2_with (go_at_call 72; refine (c1 _).mono ?_; rintro e w' ⟨rfl, rfl⟩)
    go_ret
    exact ⟨rfl, rfl⟩
  · go_enter Tryd.func48, Tryd.ntmps48
    go_wp2_with (go_at_call 72; refine (c1 _).mono ?_; rintro e w' ⟨rfl, rfl⟩)
    all_goals
      go_ret
      refine ⟨ret_bool ?_, rfl⟩
      first | rfl | simp_all
set_option maxHeartbeats 1000000 in
theorem pr_any : KindOf 56 prB := by
  intro c w
  have c1 := fun w => gr_any c w
  unfold prB
  rw [show (32 : UInt8) = UInt8.ofNat 32 from rfl, eq_nat c 32 (by omega)]
  generalize grB c = bl at *
  generalize (c.toNat : Int) = x at *
  cases bl
  · go_enter Tryd.func56, Tryd.ntmps56
    go_wp2_with (go_at_call 72; refine (c1 _).mono ?_; rintro e w' ⟨rfl, rfl⟩)
    all_goals
      go_ret
      refine ⟨ret_bool ?_, rfl⟩
      first | rfl | simp_all
  · go_enter Tryd.func56, Tryd.ntmps56
    go_wp2_with (go_at_call 72; refine (c1 _).mono ?_; rintro e w' ⟨rfl, rfl⟩)
    go_ret
    exact ⟨rfl, rfl⟩
end Go.Proofs.YtjblfemkecmlmaaDoor
