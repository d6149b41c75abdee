/- strings.Cut at the @; isValid, Parse, Print. -/
import Derived.Test.YtgdcdknmijeioaaDoorC5
import Derived.OwnWalk
set_option linter.unusedSimpArgs false
set_option linter.unusedVariables false
namespace Go.Proofs.YtgdcdknmijeioaaDoor
open Go.RowKit Go.Shelf

theorem below_dN {B : Nat} {a w : World} (h : Below B a w) (n : Nat) : Below B a (w.drewN n) := ⟨h.os, h.tape, h.output, h.size, h.block⟩
theorem str_data (l : List UInt8) : (⟨l.toArray⟩ : ByteArray).data.toList = l := rfl
theorem ext_take (s : ByteArray) (n : Nat) : s.extract 0 n = ⟨(s.data.toList.take n).toArray⟩ := by
  conv => lhs; rw [of_list s]
  exact str_take _ _
theorem ext_drop (s : ByteArray) (n : Nat) : s.extract n s.size = ⟨(s.data.toList.drop n).toArray⟩ := by
  have h := str_drop s.data.toList n
  rw [← of_list s, ← Lib.size_eq] at h
  exact h
set_option maxHeartbeats 1000000 in
theorem cut_lite (s : ByteArray) (hs : s.size ≤ 9223372036854775807) (w : World) :
    Calls Tryd.prog 26 #[.string s, .string ⟨#[64]⟩] w fun e w' => (∃ b, e = .returned (.tuple #[.string ⟨(loc s.data.toList).toArray⟩, .string ⟨(dom s.data.toList).toArray⟩, .bool b])) ∧ Below w.heap.size w w' := by
  have c1 := fun w => Tryd.stringslite_Index_one s 64 w
  rw [← index_one] at c1
  have hcut := cut_eq s.data.toList
  rw [← hcut.1, ← hcut.2]
  unfold Lib.cut
  rcases index_at 64 s.data.toList with ⟨h1, h2⟩ | ⟨t, h1, h2⟩
  · rw [h2] at c1 ⊢
    rw [if_neg (by decide)]
    rw [← of_list s]
    clear h1 h2 hcut
    go_enter Tryd.func26, Tryd.ntmps26
    go_wp2_with (go_at_call 39; refine (c1 _).mono ?_; rintro e w' ⟨rfl, rfl⟩)
    go_ret3
    exact ⟨⟨_, rfl⟩, Below.refl _ _⟩
  · rw [h2] at c1 ⊢
    rw [if_pos (by omega)]
    have hle := len_takeWhile (· != 64) s.data.toList
    have hdl := congrArg List.length (List.takeWhile_append_dropWhile (p := (· != (64 : UInt8))) (l := s.data.toList))
    rw [List.length_append, h1, List.length_cons, ← Lib.size_eq] at hdl
    simp only [Int.toNat_natCast, List.length_cons, List.length_nil]
    rw [← ext_take, ← ext_drop]
    generalize (s.data.toList.takeWhile (· != 64)).length = n at *
    have g1 : (n : Int) ≤ s.size := by omega
    have g2 : (n : Int) + 1 ≤ s.size := by omega
    have g3 : wrap64 ((n : Int) + 1) = (n : Int) + 1 := by unfold wrap64; omega
    have g4 : ((n : Int) + 1).toNat = n + 1 := by omega
    clear h1 h2 hcut hle hdl
    go_enter Tryd.func26, Tryd.ntmps26
    go_wp2_with (go_at_call 39; refine (c1 _).mono ?_; rintro e w' ⟨rfl, rfl⟩)
    go_quiet (fail)
    go_wp2
    go_ret3
    exact ⟨⟨_, rfl⟩, below_dN (Below.refl _ _) _⟩
set_option maxHeartbeats 1000000 in
theorem cut_any (s : ByteArray) (hs : s.size ≤ 9223372036854775807) (w : World) :
    Calls Tryd.prog 17 #[.string s, .string ⟨#[64]⟩] w fun e w' => (∃ b, e = .returned (.tuple #[.string ⟨(loc s.data.toList).toArray⟩, .string ⟨(dom s.data.toList).toArray⟩, .bool b])) ∧ Below w.heap.size w w' := by
  go_enter Tryd.func17, Tryd.ntmps17
  go_wp2_with (go_at_call 26; refine (cut_lite s hs _).mono ?_; rintro e w' ⟨⟨b, rfl⟩, hb⟩)
  go_ret3
  exact ⟨⟨b, rfl⟩, hb⟩
/-- Three texts of an address. -/
def adr (n a d : ByteArray) : Array Value := #[.string n, .string a, .string d]
set_option maxHeartbeats 1000000 in
theorem isValid_any (n a d : ByteArray) (ha : a.size ≤ 9223372036854775807) (hd : d.size ≤ 9223372036854775807) (w : World) (hM : Max w) :
    Calls Tryd.prog 18 #[.agg #[.string n, .string a, .string d]] w fun e w' => e = .returned (.bool (validP a.data.toList d.data.toList)) ∧ Below w.heap.size w w' := by
  have c1 := fun w hM => side_28 a ha w hM
  have c2 := fun w hM => side_29 d hd w hM
  unfold SideRes at c1 c2
  unfold validP
  generalize sideP false a.data.toList = x at *
  generalize sideP true d.data.toList = y at *
  have hb0 : Below w.heap.size w (w.alloc (.cells #[.string n, .string a, .string d] 23)) := (Below.refl _ _).alloc (Nat.le_refl _) _
  have hh0 : (w.alloc (.cells #[.string n, .string a, .string d] 23)).heap[w.heap.size]? = some (.cells #[.string n, .string a, .string d] 23) := heap_alloc_new w _
  have hz0 : w.heap.size < (w.alloc (.cells #[.string n, .string a, .string d] 23)).heap.size := by simp
  have M0 := hM.below hb0
  cases x
  · go_enter Tryd.func18, Tryd.ntmps18
    go_wp2_with fail
    refine (c1 _ M0).mono ?_; rintro e w1 ⟨rfl, b1⟩
    go_wp2_with fail
    go_ret
    exact ⟨rfl, hb0.trans (b1.mono (Nat.le_of_lt hz0))⟩
  · go_enter Tryd.func18, Tryd.ntmps18
    go_wp2_with fail
    refine (c1 _ M0).mono ?_; rintro e w1 ⟨rfl, b1⟩
    have B1 := hb0.trans (b1.mono (Nat.le_of_lt hz0))
    have H1 := (b1.block _ hz0).trans hh0
    have M1 := M0.below b1
    have q1 : w1.cell? ⟨w.heap.size, 2, none⟩ = some (.string d) := by rw [cell_of_row _ _ _ _ _ _ H1]; rfl
    have Z1 := Nat.lt_of_lt_of_le hz0 b1.size
    clear b1 hb0 hh0 hz0 M0
    go_wp2_with fail
    refine (c2 _ M1).mono ?_; rintro e w2 ⟨rfl, b2⟩
    go_wp2_with fail
    go_ret
    exact ⟨rfl, B1.trans (b2.mono (Nat.le_of_lt Z1))⟩
end Go.Proofs.YtgdcdknmijeioaaDoor
