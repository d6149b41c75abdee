/- Unstuff, the code's and the document's. -/
import Derived.Test.YtdikgifgapbocaaDoorC10
set_option linter.unusedSimpArgs false
set_option linter.unusedVariables false
namespace Go.Proofs.YtdikgifgapbocaaDoor
open Go.RowKit Go.Shelf

/-- What a line of a stuffed message was. -/
def uns (l : List UInt8) : List UInt8 := match l with
  | 46 :: t => t
  | l => l
theorem uns_dot (t : List UInt8) : uns (46 :: t) = t := rfl
theorem uns_other {l : List UInt8} (h : ∀ t, l ≠ 46 :: t) : uns l = l := by
  unfold uns
  split
  · rename_i t
    exact absurd rfl (h t)
  · rfl
theorem uns_trim (l : List UInt8) : Lib.trimPrefix l [46] = uns l := by
  unfold Lib.trimPrefix Lib.hasPrefix
  cases l with
  | nil => rfl
  | cons c t =>
    by_cases h : c = 46
    · subst h; simp [uns]
    · rw [if_neg (by simp [List.isPrefixOf, Ne.symm h]), uns_other (by intro t' e; cases e; exact h rfl)]

set_option maxHeartbeats 1000000 in
set_option maxRecDepth 100000 in
theorem unstuff_any (s : ByteArray) (w : World) :
    Calls Tryd.prog 16 #[.string s] w fun e w' => e = .returned (.tuple #[.string ⟨(uns s.data.toList).toArray⟩, .bool (s.data.toList == [46])]) ∧ w' = w := by
  go_enter Tryd.func16, Tryd.ntmps16
  go_wp2_with (go_at_call 37; refine (Tryd.strings_TrimPrefix _ _ _).mono ?_; rintro e w' ⟨rfl, hw⟩; rw [hw])
  go_ret2
  refine ⟨?_, rfl⟩
  rw [← uns_trim, ← Lib.toList_data]
  rfl
theorem tail_str (s : ByteArray) (c : UInt8) (t : List UInt8) (h : s.data.toList = c :: t) : s.extract 1 s.size = ⟨t.toArray⟩ := by
  apply ByteArray.ext
  apply Array.ext'
  rw [Lib.extract_to_end, h]
  rfl
theorem uns_way (s : ByteArray) : (s.toList == [46]) = true ∧ uns s.data.toList = [] ∨ (s.toList == [46]) = false ∧ (∃ t, s.data.toList = 46 :: t ∧ uns s.data.toList = t) ∨ (s.toList == [46]) = false ∧ (∀ t, s.data.toList ≠ 46 :: t) ∧ uns s.data.toList = s.data.toList := by
  rw [Lib.toList_data]
  cases h : s.data.toList with
  | nil => exact .inr (.inr ⟨rfl, fun t e => (by cases e), rfl⟩)
  | cons c t =>
    by_cases hc : c = 46
    · subst hc
      cases t with
      | nil => exact .inl ⟨rfl, rfl⟩
      | cons d t => exact .inr (.inl ⟨by simp, _, rfl, rfl⟩)
    · exact .inr (.inr ⟨by simp [hc], fun t' e => (by cases e; exact hc rfl), uns_other (by intro t' e; cases e; exact hc rfl)⟩)
set_option maxHeartbeats 1000000 in
set_option maxRecDepth 100000 in
theorem runstuff_any (s : ByteArray) (hs : s.size ≤ 8388608) (w : World) :
    Calls Tryd.prog 17 #[.string s] w fun e w' => e = .returned (.tuple #[.string ⟨(uns s.data.toList).toArray⟩, .bool (s.data.toList == [46])]) ∧ w' = w := by
  rcases uns_way s with ⟨h1, h2⟩ | ⟨h1, t, h3, h2⟩ | ⟨h1, h3, h2⟩
  · have H2 := Lib.hid h2
    clear h2
    go_enter Tryd.func17, Tryd.ntmps17
    go_wp2
    go_ret2
    refine ⟨?_, rfl⟩
    rw [H2.out, ← Lib.toList_data, h1]
    rfl
  · have H2 := Lib.hid h2
    have hp : 0 < s.size := by rw [Lib.size_eq, h3]; simp
    have hz : (((s[0]'hp).toNat : Int) == 46) = true := by
      have : s[0]'hp = 46 := by
        have h4 := Lib.data_getElem? s 0 hp
        rw [h3] at h4
        exact (Option.some.inj h4).symm
      rw [this]; rfl
    have HT := Lib.hid (tail_str s 46 t h3)
    clear h2 h3
    go_enter Tryd.func17, Tryd.ntmps17
    go_wp2
    go_ret2
    refine ⟨?_, rfl⟩
    rw [H2.out, ← Lib.toList_data, h1, ← HT.out]
    rfl
  · have H2 := Lib.hid h2
    by_cases hp : 0 < s.size
    · have hz : (((s[0]'hp).toNat : Int) == 46) = false := by
        rw [beq_eq_false_iff_ne]
        intro e
        have h5 : s[0]'hp = 46 := UInt8.toNat_inj.1 (by have e' : (s[0]'hp).toNat = 46 := by omega
                                                        exact e')
        have h4 := drop_at s 0 hp
        rw [List.drop_zero, h5] at h4
        exact h3 _ h4
      clear h2 h3
      go_enter Tryd.func17, Tryd.ntmps17
      go_wp2
      go_ret2
      refine ⟨?_, rfl⟩
      rw [H2.out, ← Lib.toList_data, h1, Lib.toList_data, str_eq rfl]
      rfl
    · clear h2 h3
      go_enter Tryd.func17, Tryd.ntmps17
      go_wp2
      go_ret2
      refine ⟨?_, rfl⟩
      rw [H2.out, ← Lib.toList_data, h1, Lib.toList_data, str_eq rfl]
      rfl
end Go.Proofs.YtdikgifgapbocaaDoor
