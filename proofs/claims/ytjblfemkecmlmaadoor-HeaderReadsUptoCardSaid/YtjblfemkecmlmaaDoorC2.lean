/- count, at each kind of bytes. -/
import Derived.Test.YtjblfemkecmlmaaDoorC1
set_option linter.unusedSimpArgs false
set_option linter.unusedVariables false
namespace Go.Proofs.YtjblfemkecmlmaaDoor
open Go.RowKit Go.Shelf

theorem len_takeWhile (p : UInt8 → Bool) (l : List UInt8) : (l.takeWhile p).length ≤ l.length := (List.takeWhile_sublist _).length_le
theorem tw_step (p : UInt8 → Bool) (l : List UInt8) (n : Nat) (h : n < l.length) (hn : n ≤ (l.takeWhile p).length) : (p l[n] = true ∧ n + 1 ≤ (l.takeWhile p).length) ∨ (p l[n] = false ∧ n = (l.takeWhile p).length) := by
  induction l generalizing n with
  | nil => simp at h
  | cons c t ih =>
    rw [List.takeWhile_cons] at hn ⊢
    by_cases hc : p c = true
    · rw [if_pos hc] at hn ⊢
      cases n with
      | zero => exact .inl ⟨hc, by simp⟩
      | succ n =>
        simp at h hn
        rcases ih n h hn with ⟨h1, h2⟩ | ⟨h1, h2⟩
        · exact .inl ⟨h1, by simp; omega⟩
        · exact .inr ⟨h1, by simp; omega⟩
    · rw [if_neg hc] at hn ⊢
      simp at hn
      subst hn
      exact .inr ⟨by simpa using hc, by simp⟩
set_option maxHeartbeats 1000000 in
theorem count_nm (s : ByteArray) (hs : s.size ≤ 9223372036854775807) (w : World) :
    Calls Tryd.prog 47 #[.string s, .func (.func 48) #[] #[]] w fun e w' => e = .returned (.int .i64 (s.data.toList.takeWhile nmB).length) ∧ w' = w := by
  have hlen : s.data.toList.length = s.size := (Lib.size_eq s).symm
  have htl := len_takeWhile nmB s.data.toList
  have cK := fun (c : UInt8) w => nm_any c w
  go_enter Tryd.func47, Tryd.ntmps47
  go_wp2
  go_loop [5] (fun i => ∃ n : Nat, i = .int .i64 n ∧ n ≤ (s.data.toList.takeWhile nmB).length) (fun i => s.size - (intOf i).toNat)
  case atStart => exact ⟨0, rfl, Nat.zero_le _⟩
  case round =>
    obtain ⟨n, rfl, hn⟩ := hrel
    by_cases hlt : n < s.size
    · have hl : n < s.data.toList.length := by omega
      have hstep := tw_step nmB s.data.toList n hl hn
      have hsn : s[n]'hlt = s.data.toList[n]'hl := rfl
      have hcb := (s.data.toList[n]'hl).toNat_lt
      generalize s.data.toList[n]'hl = c at *
      have c1 := fun w => cK c w
      clear cK
      rcases hstep with ⟨hp, hm⟩ | ⟨hp, hm⟩
      · rw [hp] at c1
        have HM := Lib.hid hm
        clear hp hm hn htl hlen
        go_wp2_with (go_at_call 48; refine (c1 _).mono ?_; rintro e w' ⟨rfl, rfl⟩)
        exact ⟨⟨n + 1, by go_num, HM.out⟩, by simp [intOf]; omega⟩
      · rw [hp] at c1
        have HM := Lib.hid hm
        clear hp hm hn htl hlen
        go_wp2_with (go_at_call 48; refine (c1 _).mono ?_; rintro e w' ⟨rfl, rfl⟩)
        go_ret
        exact ⟨by rw [← HM.out]; rfl, rfl⟩
    · have hm : n = (s.data.toList.takeWhile nmB).length := by omega
      have HM := Lib.hid hm
      clear hm hn htl hlen cK
      go_wp2_with fail
      go_ret
      exact ⟨by rw [← HM.out]; rfl, rfl⟩
set_option maxHeartbeats 1000000 in
theorem count_tk (s : ByteArray) (hs : s.size ≤ 9223372036854775807) (w : World) :
    Calls Tryd.prog 47 #[.string s, .func (.func 76) #[] #[]] w fun e w' => e = .returned (.int .i64 (s.data.toList.takeWhile tkB).length) ∧ w' = w := by
  have hlen : s.data.toList.length = s.size := (Lib.size_eq s).symm
  have htl := len_takeWhile tkB s.data.toList
  have cK := fun (c : UInt8) w => tk_any c w
  go_enter Tryd.func47, Tryd.ntmps47
  go_wp2
  go_loop [5] (fun i => ∃ n : Nat, i = .int .i64 n ∧ n ≤ (s.data.toList.takeWhile tkB).length) (fun i => s.size - (intOf i).toNat)
  case atStart => exact ⟨0, rfl, Nat.zero_le _⟩
  case round =>
    obtain ⟨n, rfl, hn⟩ := hrel
    by_cases hlt : n < s.size
    · have hl : n < s.data.toList.length := by omega
      have hstep := tw_step tkB s.data.toList n hl hn
      have hsn : s[n]'hlt = s.data.toList[n]'hl := rfl
      have hcb := (s.data.toList[n]'hl).toNat_lt
      generalize s.data.toList[n]'hl = c at *
      have c1 := fun w => cK c w
      clear cK
      rcases hstep with ⟨hp, hm⟩ | ⟨hp, hm⟩
      · rw [hp] at c1
        have HM := Lib.hid hm
        clear hp hm hn htl hlen
        go_wp2_with (go_at_call 76; refine (c1 _).mono ?_; rintro e w' ⟨rfl, rfl⟩)
        exact ⟨⟨n + 1, by go_num, HM.out⟩, by simp [intOf]; omega⟩
      · rw [hp] at c1
        have HM := Lib.hid hm
        clear hp hm hn htl hlen
        go_wp2_with (go_at_call 76; refine (c1 _).mono ?_; rintro e w' ⟨rfl, rfl⟩)
        go_ret
        exact ⟨by rw [← HM.out]; rfl, rfl⟩
    · have hm : n = (s.data.toList.takeWhile tkB).length := by omega
      have HM := Lib.hid hm
      clear hm hn htl hlen cK
      go_wp2_with fail
      go_ret
      exact ⟨by rw [← HM.out]; rfl, rfl⟩
set_option maxHeartbeats 1000000 in
theorem count_pr (s : ByteArray) (hs : s.size ≤ 9223372036854775807) (w : World) :
    Calls Tryd.prog 47 #[.string s, .func (.func 56) #[] #[]] w fun e w' => e = .returned (.int .i64 (s.data.toList.takeWhile prB).length) ∧ w' = w := by
  have hlen : s.data.toList.length = s.size := (Lib.size_eq s).symm
  have htl := len_takeWhile prB s.data.toList
  have cK := fun (c : UInt8) w => pr_any c w
  go_enter Tryd.func47, Tryd.ntmps47
  go_wp2
  go_loop [5] (fun i => ∃ n : Nat, i = .int .i64 n ∧ n ≤ (s.data.toList.takeWhile prB).length) (fun i => s.size - (intOf i).toNat)
  case atStart => exact ⟨0, rfl, Nat.zero_le _⟩
  case round =>
    obtain ⟨n, rfl, hn⟩ := hrel
    by_cases hlt : n < s.size
    · have hl : n < s.data.toList.length := by omega
      have hstep := tw_step prB s.data.toList n hl hn
      have hsn : s[n]'hlt = s.data.toList[n]'hl := rfl
      have hcb := (s.data.toList[n]'hl).toNat_lt
      generalize s.data.toList[n]'hl = c at *
      have c1 := fun w => cK c w
      clear cK
      rcases hstep with ⟨hp, hm⟩ | ⟨hp, hm⟩
      · rw [hp] at c1
        have HM := Lib.hid hm
        clear hp hm hn htl hlen
        go_wp2_with (go_at_call 56; refine (c1 _).mono ?_; rintro e w' ⟨rfl, rfl⟩)
        exact ⟨⟨n + 1, by go_num, HM.out⟩, by simp [intOf]; omega⟩
      · rw [hp] at c1
        have HM := Lib.hid hm
        clear hp hm hn htl hlen
        go_wp2_with (go_at_call 56; refine (c1 _).mono ?_; rintro e w' ⟨rfl, rfl⟩)
        go_ret
        exact ⟨by rw [← HM.out]; rfl, rfl⟩
    · have hm : n = (s.data.toList.takeWhile prB).length := by omega
      have HM := Lib.hid hm
      clear hm hn htl hlen cK
      go_wp2_with fail
      go_ret
      exact ⟨by rw [← HM.out]; rfl, rfl⟩
end Go.Proofs.YtjblfemkecmlmaaDoor
