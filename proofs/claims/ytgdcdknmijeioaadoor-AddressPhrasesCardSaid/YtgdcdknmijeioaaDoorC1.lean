/- isLetterOrDigit; the library's IndexByte; the kinds of bytes. -/
import Derived.Test.YtgdcdknmijeioaaDoorQ1
import Derived.Test.YtgdcdknmijeioaaDoorShelf
import Derived.WalkKit
import Derived.BigCall
import Derived.BigQuiet
import Derived.Deep.QuietTactic
import Derived.Lib.LaidTab
import Derived.Lib.OthersKept
set_option linter.unusedSimpArgs false
set_option linter.unusedVariables false
namespace Go.Proofs.YtgdcdknmijeioaaDoor
open Go.RowKit Go.Shelf

theorem ret_bool {a b : Bool} (h : a = b) : Ending.returned (.bool a) = .returned (.bool b) := by rw [h]
theorem ldB_iff (c : UInt8) (x : Int) (h : x = (c.toNat : Int)) : ldB c = (decide (97 ≤ x ∧ x ≤ 122) || decide (65 ≤ x ∧ x ≤ 90) || decide (48 ≤ x ∧ x ≤ 57)) := by
  subst h
  unfold ldB
  rw [Bool.eq_iff_iff]
  simp
  omega
set_option maxHeartbeats 1000000 in
theorem ld_any (c : UInt8) (w : World) : Calls Tryd.prog 61 #[.int .u8 c.toNat] w fun e w' => e = .returned (.bool (ldB c)) ∧ w' = w := by
  have hc := c.toNat_lt
  obtain ⟨x, hx⟩ : ∃ x : Int, (c.toNat : Int) = x := ⟨_, rfl⟩
  rw [ldB_iff c x hx.symm, hx]
  have h0 : 0 ≤ x := by omega
  have h1 : x < 256 := by omega
  clear hx hc
  go_enter Tryd.func61, Tryd.ntmps61
  go_wp2
  all_goals
    go_ret
    refine ⟨ret_bool ?_, rfl⟩
    first
      | rfl
      | (rw [Bool.eq_iff_iff]; simp only [Bool.or_eq_true, Bool.and_eq_true, decide_eq_true_eq, Bool.false_eq_true, true_iff, false_iff]; omega)
/-- What a kind of bytes says: function k. -/
def KindOf (k : Nat) (p : UInt8 → Bool) : Prop := ∀ (c : UInt8) (w : World), Calls Tryd.prog k #[.int .u8 c.toNat] w fun e w' => e = .returned (.bool (p c)) ∧ w' = w
theorem contains_index (c : UInt8) : ∀ l : List UInt8, (0 ≤ Lib.indexByte l c) ↔ l.contains c = true
  | [] => by simp [Lib.indexByte]
  | b :: l => by
    have ih := contains_index c l
    have hg := Lib.indexByte_ge l c
    unfold Lib.indexByte
    by_cases h : b = c
    · subst h; simp
    · have h' : ¬ c = b := fun e => h e.symm
      have hb : (b == c) = false := by simpa using h
      rw [hb, List.contains_cons]
      have hb' : (c == b) = false := by simpa using h'
      rw [hb', Bool.false_or, ← ih]
      simp only [Bool.false_eq_true, if_false]
      split
      · rename_i h1; have := beq_iff_eq.1 h1; omega
      · rename_i h1; have : Lib.indexByte l c ≠ -1 := fun e => h1 (by rw [e]; rfl); omega
theorem toU8 (c : UInt8) : ((c.toNat : Int)).toNat.toUInt8 = c := by simp
set_option maxHeartbeats 1000000 in
theorem ab_any : KindOf 42 abB := by
  intro c w
  have c1 := fun w => ld_any c w
  have c2 := fun w => Tryd.strings_IndexByte ⟨#[33, 35, 36, 37, 38, 39, 42, 43, 45, 47, 61, 63, 94, 95, 123, 124, 125, 126, 96]⟩ c.toNat w
  have hi := contains_index c marksL
  rw [toU8] at c2
  have hm : (⟨#[33, 35, 36, 37, 38, 39, 42, 43, 45, 47, 61, 63, 94, 95, 123, 124, 125, 126, 96]⟩ : ByteArray).data.toList = marksL := rfl
  rw [hm] at c2
  unfold abB
  generalize Lib.indexByte marksL c = ix at *
  generalize marksL.contains c = bc at *
  generalize ldB c = bl at *
  clear hm
  cases bl
  · go_enter Tryd.func42, Tryd.ntmps42
    go_wp2_with (first | (go_at_call 61; refine (c1 _).mono ?_; rintro e w' ⟨rfl, rfl⟩) | (go_at_call 62; refine (c2 _).mono ?_; rintro e w' ⟨rfl, rfl⟩))
    go_ret
    refine ⟨ret_bool ?_, rfl⟩
    cases bc <;> simp at hi ⊢ <;> omega
  · go_enter Tryd.func42, Tryd.ntmps42
    go_wp2_with (first | (go_at_call 61; refine (c1 _).mono ?_; rintro e w' ⟨rfl, rfl⟩) | (go_at_call 62; refine (c2 _).mono ?_; rintro e w' ⟨rfl, rfl⟩))
    go_ret
    exact ⟨rfl, rfl⟩
theorem eq_nat (c : UInt8) (n : Nat) (hn : n < 256) : (c == UInt8.ofNat n) = decide ((c.toNat : Int) = n) := by
  rw [Bool.eq_iff_iff]
  simp only [beq_iff_eq, decide_eq_true_eq]
  constructor
  · rintro rfl; simp [Nat.mod_eq_of_lt hn]
  · intro h; apply UInt8.toNat_inj.1; simp [Nat.mod_eq_of_lt hn]; omega
set_option maxHeartbeats 1000000 in
theorem lb_any : KindOf 43 lbB := by
  intro c w
  have c1 := fun w => ld_any c w
  unfold lbB
  rw [show (45 : UInt8) = UInt8.ofNat 45 from rfl, eq_nat c 45 (by omega)]
  generalize ldB c = bl at *
  generalize (c.toNat : Int) = x at *
  cases bl
  · go_enter Tryd.func43, Tryd.ntmps43
    go_wp2_with (go_at_call 61; refine (c1 _).mono ?_; rintro e w' ⟨rfl, rfl⟩)
    all_goals
      go_ret
      refine ⟨ret_bool ?_, rfl⟩
      first | rfl | simp_all
  · go_enter Tryd.func43, Tryd.ntmps43
    go_wp2_with (go_at_call 61; refine (c1 _).mono ?_; rintro e w' ⟨rfl, rfl⟩)
    go_ret
    exact ⟨rfl, rfl⟩
set_option maxHeartbeats 1000000 in
theorem wb_any : KindOf 51 wbB := by
  intro c w
  have c1 := fun w => ab_any c w
  unfold wbB
  rw [show (46 : UInt8) = UInt8.ofNat 46 from rfl, eq_nat c 46 (by omega)]
  generalize abB c = bl at *
  generalize (c.toNat : Int) = x at *
  cases bl
  · go_enter Tryd.func51, Tryd.ntmps51
    go_wp2_with (go_at_call 42; refine (c1 _).mono ?_; rintro e w' ⟨rfl, rfl⟩)
    all_goals
      go_ret
      refine ⟨ret_bool ?_, rfl⟩
      first | rfl | simp_all
  · go_enter Tryd.func51, Tryd.ntmps51
    go_wp2_with (go_at_call 42; refine (c1 _).mono ?_; rintro e w' ⟨rfl, rfl⟩)
    go_ret
    exact ⟨rfl, rfl⟩
set_option maxHeartbeats 1000000 in
theorem ad_any : KindOf 52 adB := by
  intro c w
  have c1 := fun w => wb_any c w
  unfold adB
  rw [show (64 : UInt8) = UInt8.ofNat 64 from rfl, eq_nat c 64 (by omega)]
  generalize wbB c = bl at *
  generalize (c.toNat : Int) = x at *
  cases bl
  · go_enter Tryd.func52, Tryd.ntmps52
    go_wp2_with (go_at_call 51; refine (c1 _).mono ?_; rintro e w' ⟨rfl, rfl⟩)
    all_goals
      go_ret
      refine ⟨ret_bool ?_, rfl⟩
      first | rfl | simp_all
  · go_enter Tryd.func52, Tryd.ntmps52
    go_wp2_with (go_at_call 51; refine (c1 _).mono ?_; rintro e w' ⟨rfl, rfl⟩)
    go_ret
    exact ⟨rfl, rfl⟩
set_option maxHeartbeats 1000000 in
theorem bl_any : KindOf 49 blB := by
  intro c w
  unfold blB
  rw [show (32 : UInt8) = UInt8.ofNat 32 from rfl, show (9 : UInt8) = UInt8.ofNat 9 from rfl, eq_nat c 32 (by omega), eq_nat c 9 (by omega)]
  generalize (c.toNat : Int) = x at *
  go_enter Tryd.func49, Tryd.ntmps49
  go_wp2
  all_goals
    go_ret
    refine ⟨ret_bool ?_, rfl⟩
    first | rfl | simp_all
end Go.Proofs.YtgdcdknmijeioaaDoor
