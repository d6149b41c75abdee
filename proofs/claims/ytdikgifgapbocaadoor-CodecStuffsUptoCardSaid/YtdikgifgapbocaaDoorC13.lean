/- Great and Small of the document. -/
import Derived.Test.YtdikgifgapbocaaDoorC12
set_option linter.unusedSimpArgs false
set_option linter.unusedVariables false
namespace Go.Proofs.YtdikgifgapbocaaDoor
open Go.RowKit Go.Shelf

set_option maxHeartbeats 1000000 in
set_option maxRecDepth 100000 in
theorem rgreat_any (s : ByteArray) (hs : s.size ≤ 8388608) (w : World) :
    Calls Tryd.prog 24 #[.string s] w fun e w' => e = .returned (.string ⟨(great s.data.toList).toArray⟩) ∧ Below w.heap.size w w' := by
  have hlen : s.data.toList.length = s.size := (Lib.size_eq s).symm
  unfold great
  go_enter Tryd.func24, Tryd.ntmps24
  go_wp2_with (refine wpL_tobytes (w0 := w) (s := s) rfl rfl rfl (Below.refl _ _) (by unfold maxLen; omega) ?_; intro cap w1 hr hc1 hc2 hb1)
  unfold maxLen at hc2
  go_loopw [4] (fun i wr => ∃ (j : Nat) (l : List UInt8), j ≤ s.size ∧ i = .int .i64 j ∧ RowB w wr w.heap.size l ∧ l.length = s.size ∧ l.take j ++ (l.drop j).map (mvB 97 65) = s.data.toList.map (mvB 97 65)) (fun i wr => s.size - (intOf i).toNat)
  case atStart => exact ⟨0, s.data.toList, by omega, rfl, hr, hlen, by simp⟩
  case round =>
    obtain ⟨j, l, hj, rfl, hrow, hl, hm⟩ := hrel
    by_cases hlt : j < s.size
    · have hjl : j < l.length := by omega
      have hcell := hrow.cell j l[j] (List.getElem?_eq_getElem hjl)
      have hfr := hrow.free j hjl
      have hm' : (l.set j (mvB 97 65 l[j])).take (j + 1) ++ ((l.set j (mvB 97 65 l[j])).drop (j + 1)).map (mvB 97 65) = s.data.toList.map (mvB 97 65) := by
        rw [← hm, List.drop_set_of_lt (by omega), List.take_set, List.take_succ_eq_append_getElem hjl, List.set_append_right _ _ (by simp; omega)]
        rw [List.drop_eq_getElem_cons hjl, List.map_cons]
        simp [-List.map_drop, Nat.min_eq_left (Nat.le_of_lt hjl)]
      have hcb := (l[j]).toNat_lt
      have HL := Lib.hid hl
      by_cases hin : 97 ≤ (l[j]).toNat ∧ (l[j]).toNat ≤ 122
      · have hnew := hrow.set hjl (mvB 97 65 l[j])
        rw [mvB_num 97 65 (by omega)] at hnew
        have he : mv 97 65 (l[j].toNat : Int) = (l[j].toNat : Int) - 32 := by unfold mv; rw [if_pos (by omega)]; omega
        rw [he] at hnew
        have HM := Lib.hid hm'
        clear hm hm' hl hlen he
        generalize l[j] = c at *
        obtain ⟨h1, h2⟩ := hin
        have h1' : (97 : Int) ≤ (c.toNat : Int) := by omega
        have h2' : (c.toNat : Int) ≤ 122 := by omega
        have hd1 : decide ((97 : Int) ≤ (c.toNat : Int)) = true := by simpa using h1'
        go_wp2
        exact ⟨⟨j + 1, _, by omega, by go_num, hnew, by rw [List.length_set]; exact HL.out, HM.out⟩, by simp [intOf]; omega⟩
      · have he : mvB 97 65 l[j] = l[j] := by
          apply UInt8.toNat_inj.1
          have := mvB_num 97 65 (by omega) l[j]
          unfold mv at this
          rw [if_neg (by omega)] at this
          omega
        rw [he] at hm'
        have hsame : l.set j l[j] = l := List.set_getElem_self hjl
        rw [hsame] at hm'
        have HM := Lib.hid hm'
        clear hm hm' hl hlen he hsame
        generalize l[j] = c at *
        by_cases h1 : 97 ≤ c.toNat
        · have h1' : (97 : Int) ≤ (c.toNat : Int) := by omega
          have h2' : ¬ (c.toNat : Int) ≤ 122 := by omega
          have hd1 : decide ((97 : Int) ≤ (c.toNat : Int)) = true := by simpa using h1'
          go_wp2
          exact ⟨⟨j + 1, l, by omega, by go_num, hrow, HL.out, HM.out⟩, by simp [intOf]; omega⟩
        · have h1' : ¬ (97 : Int) ≤ (c.toNat : Int) := by omega
          have hd1 : decide ((97 : Int) ≤ (c.toNat : Int)) = false := by simpa using h1'
          go_wp2
          exact ⟨⟨j + 1, l, by omega, by go_num, hrow, HL.out, HM.out⟩, by simp [intOf]; omega⟩
    · have hs1 := bs_string' (n := s.size) cap hrow.bs hl
      have e1 : List.take j l = l := List.take_of_length_le (by omega)
      have e2 : List.drop j l = [] := List.drop_eq_nil_of_le (by omega)
      rw [e1, e2, List.map_nil, List.append_nil] at hm
      have HM := Lib.hid hm
      clear e1 e2 hm hl hlen
      go_wp2
      go_ret
      exact ⟨by rw [← HM.out]; rfl, hrow.bel⟩
set_option maxHeartbeats 1000000 in
set_option maxRecDepth 100000 in
theorem rsmall_any (s : ByteArray) (hs : s.size ≤ 8388608) (w : World) :
    Calls Tryd.prog 26 #[.string s] w fun e w' => e = .returned (.string ⟨(small s.data.toList).toArray⟩) ∧ Below w.heap.size w w' := by
  have hlen : s.data.toList.length = s.size := (Lib.size_eq s).symm
  unfold small
  go_enter Tryd.func26, Tryd.ntmps26
  go_wp2_with (refine wpL_tobytes (w0 := w) (s := s) rfl rfl rfl (Below.refl _ _) (by unfold maxLen; omega) ?_; intro cap w1 hr hc1 hc2 hb1)
  unfold maxLen at hc2
  go_loopw [4] (fun i wr => ∃ (j : Nat) (l : List UInt8), j ≤ s.size ∧ i = .int .i64 j ∧ RowB w wr w.heap.size l ∧ l.length = s.size ∧ l.take j ++ (l.drop j).map (mvB 65 97) = s.data.toList.map (mvB 65 97)) (fun i wr => s.size - (intOf i).toNat)
  case atStart => exact ⟨0, s.data.toList, by omega, rfl, hr, hlen, by simp⟩
  case round =>
    obtain ⟨j, l, hj, rfl, hrow, hl, hm⟩ := hrel
    by_cases hlt : j < s.size
    · have hjl : j < l.length := by omega
      have hcell := hrow.cell j l[j] (List.getElem?_eq_getElem hjl)
      have hfr := hrow.free j hjl
      have hm' : (l.set j (mvB 65 97 l[j])).take (j + 1) ++ ((l.set j (mvB 65 97 l[j])).drop (j + 1)).map (mvB 65 97) = s.data.toList.map (mvB 65 97) := by
        rw [← hm, List.drop_set_of_lt (by omega), List.take_set, List.take_succ_eq_append_getElem hjl, List.set_append_right _ _ (by simp; omega)]
        rw [List.drop_eq_getElem_cons hjl, List.map_cons]
        simp [-List.map_drop, Nat.min_eq_left (Nat.le_of_lt hjl)]
      have hcb := (l[j]).toNat_lt
      have HL := Lib.hid hl
      by_cases hin : 65 ≤ (l[j]).toNat ∧ (l[j]).toNat ≤ 90
      · have hnew := hrow.set hjl (mvB 65 97 l[j])
        rw [mvB_num 65 97 (by omega)] at hnew
        have he : mv 65 97 (l[j].toNat : Int) = (l[j].toNat : Int) + 32 := by unfold mv; rw [if_pos (by omega)]; omega
        rw [he] at hnew
        have HM := Lib.hid hm'
        clear hm hm' hl hlen he
        generalize l[j] = c at *
        obtain ⟨h1, h2⟩ := hin
        have h1' : (65 : Int) ≤ (c.toNat : Int) := by omega
        have h2' : (c.toNat : Int) ≤ 90 := by omega
        have hd1 : decide ((65 : Int) ≤ (c.toNat : Int)) = true := by simpa using h1'
        go_wp2
        exact ⟨⟨j + 1, _, by omega, by go_num, hnew, by rw [List.length_set]; exact HL.out, HM.out⟩, by simp [intOf]; omega⟩
      · have he : mvB 65 97 l[j] = l[j] := by
          apply UInt8.toNat_inj.1
          have := mvB_num 65 97 (by omega) l[j]
          unfold mv at this
          rw [if_neg (by omega)] at this
          omega
        rw [he] at hm'
        have hsame : l.set j l[j] = l := List.set_getElem_self hjl
        rw [hsame] at hm'
        have HM := Lib.hid hm'
        clear hm hm' hl hlen he hsame
        generalize l[j] = c at *
        by_cases h1 : 65 ≤ c.toNat
        · have h1' : (65 : Int) ≤ (c.toNat : Int) := by omega
          have h2' : ¬ (c.toNat : Int) ≤ 90 := by omega
          have hd1 : decide ((65 : Int) ≤ (c.toNat : Int)) = true := by simpa using h1'
          go_wp2
          exact ⟨⟨j + 1, l, by omega, by go_num, hrow, HL.out, HM.out⟩, by simp [intOf]; omega⟩
        · have h1' : ¬ (65 : Int) ≤ (c.toNat : Int) := by omega
          have hd1 : decide ((65 : Int) ≤ (c.toNat : Int)) = false := by simpa using h1'
          go_wp2
          exact ⟨⟨j + 1, l, by omega, by go_num, hrow, HL.out, HM.out⟩, by simp [intOf]; omega⟩
    · have hs1 := bs_string' (n := s.size) cap hrow.bs hl
      have e1 : List.take j l = l := List.take_of_length_le (by omega)
      have e2 : List.drop j l = [] := List.drop_eq_nil_of_le (by omega)
      rw [e1, e2, List.map_nil, List.append_nil] at hm
      have HM := Lib.hid hm
      clear e1 e2 hm hl hlen
      go_wp2
      go_ret
      exact ⟨by rw [← HM.out]; rfl, hrow.bel⟩
end Go.Proofs.YtdikgifgapbocaaDoor
