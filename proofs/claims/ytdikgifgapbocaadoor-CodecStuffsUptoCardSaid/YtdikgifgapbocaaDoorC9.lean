/- codec.Decode64. -/
import Derived.Test.YtdikgifgapbocaaDoorC8
set_option linter.unusedSimpArgs false
set_option linter.unusedVariables false
namespace Go.Proofs.YtdikgifgapbocaaDoor
open Go.RowKit Go.Shelf

theorem trim_enc (l : List UInt8) : Lib.trimRightB (enc l) 61 = lets l := by
  obtain ⟨k, _, h⟩ := enc_lets l
  rw [h]
  unfold Lib.trimRightB
  rw [List.reverse_append, List.reverse_replicate, List.dropWhile_append_of_pos (by intro c hc; simp [List.eq_of_mem_replicate hc])]
  have : (lets l).reverse.dropWhile (· == 61) = (lets l).reverse := by
    cases hr : (lets l).reverse with
    | nil => rfl
    | cons c t =>
      have hm : c ∈ lets l := by rw [← List.mem_reverse, hr]; simp
      rw [List.dropWhile_cons_of_neg (by simpa using lets_ne l c hm)]
  rw [this, List.reverse_reverse]
theorem trim_le (l : List UInt8) (c : UInt8) : (Lib.trimRightB l c).length ≤ l.length := by
  unfold Lib.trimRightB
  rw [List.length_reverse]
  have := (List.dropWhile_sublist (· == c) (l := l.reverse)).length_le
  simpa using this

/-- What Decode64 is to answer: the bytes whose encoding s is, or none. -/
def Dec64 (w : World) (s : List UInt8) (e : Ending) (w' : World) : Prop :=
  (∃ l a cap, enc l = s ∧ e = .returned (.tuple #[.slice a l.length cap, .int .i64 0]) ∧ OB w w' a cap l) ∨
  ((∀ l, enc l ≠ s) ∧ e = .returned (.tuple #[.slice none 0 0, .int .i64 70]) ∧ Below w.heap.size w w')
theorem str_eq {l : List UInt8} {s : ByteArray} (h : l = s.data.toList) : (⟨l.toArray⟩ : ByteArray) = s := by subst h; simp
theorem str_ne {l : List UInt8} {s : ByteArray} (h : l ≠ s.data.toList) : (⟨l.toArray⟩ : ByteArray) ≠ s := fun e => h (by rw [← e])

set_option maxHeartbeats 4000000 in
set_option maxRecDepth 1000000 in
theorem decode_any (s : ByteArray) (w : World) (hs : s.size ≤ 8388608) :
    Calls Tryd.prog 12 #[.string s] w (Dec64 w s.data.toList) := by
  have ht := trim_le s.data.toList 61
  have hsl : s.data.toList.length = s.size := Lib.size_eq s ▸ rfl
  cases hd : dec [] 0 0 (Lib.trimRightB s.data.toList 61) with
  | none =>
    have hno : ∀ l, enc l ≠ s.data.toList := by
      intro l e
      rw [← e, trim_enc, dec_lets] at hd
      cases hd
    have HN := Lib.hid hno
    have HD := Lib.hid hd
    clear hno hd
    go_enter Tryd.func12, Tryd.ntmps12
    go_wp2_with (first | (go_at_call 32; refine (Tryd.strings_TrimRight_one s 61 (by decide) _ (by omega)).mono ?_; rintro e w' ⟨rfl, hw⟩; rw [hw]) | (go_at_call 31; refine (decodeLetters_any _ _ (by rw [Lib.size_eq]; simp; omega)).mono ?_; intro e w1 hp; rw [HD.out] at hp; obtain ⟨rfl, hb⟩ := hp))
    go_ret2
    exact .inr ⟨HN.out, rfl, hb⟩
  | some out =>
    have hl := dec_len _ _ _ _ _ hd
    simp only [List.length_nil] at hl
    by_cases he : enc out = s.data.toList
    · have hne : (enc out == s.toList) = true := by rw [he, beq_iff_eq]; exact (Lib.toList_data s).symm
      have HE := Lib.hid he
      have HD := Lib.hid hd
      clear he hd
      go_enter Tryd.func12, Tryd.ntmps12
      go_wp2_with (first | (go_at_call 32; refine (Tryd.strings_TrimRight_one s 61 (by decide) _ (by omega)).mono ?_; rintro e w' ⟨rfl, hw⟩; rw [hw]) | (go_at_call 31; refine (decodeLetters_any _ _ (by rw [Lib.size_eq]; simp; omega)).mono ?_; intro e w1 hp; rw [HD.out] at hp; obtain ⟨a, cap, rfl, hob⟩ := hp) | (go_at_call 11; refine (encode_any _ _ _ _ hob.cap.1 hob.cap.2 (by omega) hob.cells).mono ?_; rintro e w2 ⟨rfl, hb⟩))
      go_ret2
      exact .inl ⟨out, _, _, HE.out, rfl, hob.below hb⟩
    · have hne : (enc out == s.toList) = false := by
        rw [beq_eq_false_iff_ne]
        intro e
        exact he (e.trans (Lib.toList_data s))
      have hno : ∀ l, enc l ≠ s.data.toList := by
        intro l e
        rw [← e, trim_enc, dec_lets] at hd
        apply he
        rw [← e]
        congr 1
        simpa using (Option.some.inj hd).symm
      have HN := Lib.hid hno
      have HD := Lib.hid hd
      clear he hd hno
      go_enter Tryd.func12, Tryd.ntmps12
      go_wp2_with (first | (go_at_call 32; refine (Tryd.strings_TrimRight_one s 61 (by decide) _ (by omega)).mono ?_; rintro e w' ⟨rfl, hw⟩; rw [hw]) | (go_at_call 31; refine (decodeLetters_any _ _ (by rw [Lib.size_eq]; simp; omega)).mono ?_; intro e w1 hp; rw [HD.out] at hp; obtain ⟨a, cap, rfl, hob⟩ := hp) | (go_at_call 11; refine (encode_any _ _ _ _ hob.cap.1 hob.cap.2 (by omega) hob.cells).mono ?_; rintro e w2 ⟨rfl, hb⟩))
      go_ret2
      exact .inr ⟨HN.out, rfl, hob.bel.trans (hb.mono hob.size)⟩
end Go.Proofs.YtdikgifgapbocaaDoor
