/- The document's Number. -/
import Derived.Test.YtdikgifgapbocaaDoorC19
import Derived.Test.YtdikgifgapbocaaDoorL1
set_option linter.unusedSimpArgs false
set_option linter.unusedVariables false
namespace Go.Proofs.YtdikgifgapbocaaDoor
open Go.RowKit Go.Shelf

set_option maxHeartbeats 2000000 in
set_option maxRecDepth 20000 in
theorem rnumber_any (s : ByteArray) (most : Int) (w : World) (hs : s.size ≤ 8388608) :
    Calls Tryd.prog 20 #[.string s, .int .i64 most] w (NumPost w (number s.data.toList) most) := by
  have hlen : s.data.toList.length = s.size := (Lib.size_eq s).symm
  have htl := Lib.toList_data s
  by_cases hbad : s.size < 1 ∨ 10 < s.size
  · have hn : number s.data.toList = none := by
      unfold number
      rw [if_pos]
      rcases hbad with h | h
      · exact .inl (List.eq_nil_of_length_eq_zero (by omega))
      · exact .inr (.inl (by omega))
    have HN := Lib.hid hn
    clear hn htl hlen
    rcases hbad with h | h
    · go_enter Tryd.func20, Tryd.ntmps20
      go_wp2
      go_ret2
      unfold NumPost; rw [HN.out]
      exact ⟨rfl, Below.refl _ _⟩
    · have h' : ¬ s.size < 1 := by omega
      go_enter Tryd.func20, Tryd.ntmps20
      go_wp2
      go_ret2
      unfold NumPost; rw [HN.out]
      exact ⟨rfl, Below.refl _ _⟩
  have h1 : 1 ≤ s.size := by omega
  have h10 : s.size ≤ 10 := by omega
  have HD0 : Hid (∀ n, dg s.data.toList 0 = some n → number s.data.toList = if Lib.decDigits n = s.data.toList then some n else none) :=
    Lib.hid fun n hn => number_dg (by intro e; rw [e] at hlen; simp at hlen; omega) (by omega) hn
  have HNo : Hid (dg s.data.toList 0 = none → number s.data.toList = none) := Lib.hid fun h => by
    unfold number
    split
    · rfl
    · exact h
  clear hlen hbad
  go_enter Tryd.func20, Tryd.ntmps20
  go_wp2
  go_loopw [6, 7] (fun v i wr => ∃ (j n : Nat), j ≤ s.size ∧ v = .int .i64 n ∧ i = .int .i64 j ∧ Hid (n < pw j) ∧ Below w.heap.size w wr ∧ dg (s.data.toList.drop j) n = dg s.data.toList 0) (fun v i wr => s.size - (intOf i).toNat)
  case atStart => exact ⟨0, 0, by omega, rfl, rfl, (by decide : 0 < 1), Below.refl _ _, rfl⟩
  case round =>
    obtain ⟨j, n, hj, rfl, rfl, hn, hb, hdg⟩ := hrel
    have hn10 : n < 10000000000 := by have := hn.out; have := pw_lt j (by omega); omega
    by_cases hp : j < s.size
    · rw [drop_at s j hp] at hdg
      have hc8 := (s[j]'hp).toNat_lt
      by_cases hdig : 48 ≤ (s[j]'hp).toNat ∧ (s[j]'hp).toNat ≤ 57
      · rw [dg_yes hdig] at hdg
        have HD := Lib.hid hdg
        clear hdg
        have hn9 : n * 10 + 9 < 10000000000 * 10 := by omega
        have hn2 : n * 10 + ((s[j]'hp).toNat - 48) < pw (j + 1) := by have := hn.out; show _ < pw j * 10; omega
        generalize hcc : s[j]'hp = c at *
        obtain ⟨l1, l2⟩ := hdig
        have l1' : (48 : Int) ≤ (c.toNat : Int) := by omega
        have l2' : (c.toNat : Int) ≤ 57 := by omega
        have HN2 := Lib.hid hn2
        clear hn2 htl
        go_wp2
        exact ⟨⟨j + 1, n * 10 + (c.toNat - 48), by omega, by go_num, by go_num, HN2.out, hb, HD.out⟩, by simp [intOf]; omega⟩
      · rw [dg_no hdig] at hdg
        have HD := Lib.hid (HNo.out hdg.symm)
        clear hdg htl
        generalize hcc : s[j]'hp = c at *
        by_cases l1 : c.toNat < 48
        · have l1' : (c.toNat : Int) < 48 := by omega
          go_wp2
          go_ret2
          unfold NumPost; rw [HD.out]
          exact ⟨rfl, hb⟩
        · have l1' : ¬ (c.toNat : Int) < 48 := by omega
          have l2' : (57 : Int) < (c.toNat : Int) := by omega
          go_wp2
          go_ret2
          unfold NumPost; rw [HD.out]
          exact ⟨rfl, hb⟩
    · rw [List.drop_eq_nil_of_le (by simpa using hp), dg] at hdg
      have HN := Lib.hid (HD0.out n hdg.symm)
      clear hdg
      have hR := rdigits_any n hn10 wr
      by_cases he : Lib.decDigits n = s.data.toList
      · have HV : Hid (number s.data.toList = some n) := Lib.hid (by rw [HN.out, if_pos he])
        by_cases hm : (n : Int) ≤ most
        · have HR := Lib.hid (show numRes (some n) most = .tuple #[.int .i64 n, .bool true] by show (if (n : Int) ≤ most then _ else _) = _; rw [if_pos hm])
          go_wp2_with (go_at_call 27; refine hR.mono ?_; rintro e w1 ⟨rfl, hb1⟩)
          go_ret2
          unfold NumPost; rw [HV.out, HR.out]
          exact ⟨rfl, below_trans hb hb1⟩
        · have hm' : most < (n : Int) := by omega
          have HR := Lib.hid (show numRes (some n) most = .tuple #[.int .i64 0, .bool false] by show (if (n : Int) ≤ most then _ else _) = _; rw [if_neg hm])
          go_wp2_with (go_at_call 27; refine hR.mono ?_; rintro e w1 ⟨rfl, hb1⟩)
          go_ret2
          unfold NumPost; rw [HV.out, HR.out]
          exact ⟨rfl, below_trans hb hb1⟩
      · have HV : Hid (number s.data.toList = none) := Lib.hid (by rw [HN.out, if_neg he])
        have he' : (Lib.decDigits n == s.data.toList) = false := by simpa using he
        go_wp2_with (go_at_call 27; refine hR.mono ?_; rintro e w1 ⟨rfl, hb1⟩)
        go_ret2
        unfold NumPost; rw [HV.out]
        exact ⟨rfl, below_trans hb hb1⟩
end Go.Proofs.YtdikgifgapbocaaDoor
