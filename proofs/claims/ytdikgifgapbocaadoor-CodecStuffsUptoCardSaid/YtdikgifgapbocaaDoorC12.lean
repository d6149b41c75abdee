/- Great, Small: letters moved. -/
import Derived.Test.YtdikgifgapbocaaDoorC11
import Derived.Test.YtdikgifgapbocaaDoorC12a
set_option linter.unusedSimpArgs false
set_option linter.unusedVariables false
namespace Go.Proofs.YtdikgifgapbocaaDoor
open Go.RowKit Go.Shelf

def mv (a b : Int) (c : Int) : Int := if (c - a) % 256 < 26 then (c - a + b) % 256 else c
set_option maxHeartbeats 1000000 in
set_option maxRecDepth 100000 in
theorem conv_any (a b c : Int) (ha : 0 ≤ a ∧ a < 256) (hb : 0 ≤ b ∧ b < 256) (hc : 0 ≤ c ∧ c < 256) (p q : Nat) (w : World) (hp : w.cell? ⟨p, 0, none⟩ = some (.int .u8 a)) (hq : w.cell? ⟨q, 0, none⟩ = some (.int .u8 b)) :
    Calls Tryd.prog 54 #[.int .u8 c, .pointer (some ⟨p, 0, none⟩), .pointer (some ⟨q, 0, none⟩)] w fun e w' => e = .returned (.int .u8 (mv a b c)) ∧ w = w' := by
  go_enter Tryd.func54, Tryd.ntmps54
  go_wp2
  · have h : (c - a) % 256 < 26 := by assumption
    go_ret
    refine ⟨ret_int ?_, rfl⟩
    unfold mv
    rw [if_pos h]
    omega
  · have h : ¬ (c - a) % 256 < 26 := by omega
    go_ret
    refine ⟨ret_int ?_, rfl⟩
    unfold mv
    rw [if_neg h]
set_option maxHeartbeats 1000000 in
set_option maxRecDepth 100000 in
theorem moving_any (a b : Int) (w : World) :
    Calls Tryd.prog 42 #[.int .u8 a, .int .u8 b] w fun e w' => e = .returned (.func (.func 54) #[] #[.pointer (some ⟨w.heap.size, 0, none⟩), .pointer (some ⟨w.heap.size + 1, 0, none⟩)]) ∧ w' = (w.alloc (.cells #[.int .u8 a] 5)).alloc (.cells #[.int .u8 b] 5) := by
  go_enter Tryd.func42, Tryd.ntmps42
  go_wp2
  go_ret
  exact ⟨rfl, rfl⟩
def mvB (a b : Int) (c : UInt8) : UInt8 := UInt8.ofNat (mv a b c.toNat).toNat
theorem mvB_num (a b : Int) (hb : 0 ≤ b ∧ b < 256) (c : UInt8) : ((mvB a b c).toNat : Int) = mv a b c.toNat := by
  have hc := c.toNat_lt
  unfold mvB
  rw [toNat_ofNat_mod]
  unfold mv
  split <;> omega
set_option maxHeartbeats 1000000 in
set_option maxRecDepth 100000 in
theorem eachByte_any (a b : Int) (ha : 0 ≤ a ∧ a < 256) (hb : 0 ≤ b ∧ b < 256) (p q : Nat) (s : ByteArray) (hs : s.size ≤ 8388608) (w : World) (hp : w.cell? ⟨p, 0, none⟩ = some (.int .u8 a)) (hq : w.cell? ⟨q, 0, none⟩ = some (.int .u8 b)) (hpl : p < w.heap.size) (hql : q < w.heap.size) :
    Calls Tryd.prog 41 #[.string s, .func (.func 54) #[] #[.pointer (some ⟨p, 0, none⟩), .pointer (some ⟨q, 0, none⟩)]] w fun e w' => e = .returned (.string ⟨(s.data.toList.map (mvB a b)).toArray⟩) ∧ Below w.heap.size w w' := by
  have hlen : s.data.toList.length = s.size := (Lib.size_eq s).symm
  go_enter Tryd.func41, Tryd.ntmps41
  go_wp2_with (refine wpL_tobytes (w0 := w) (s := s) rfl rfl rfl (Below.refl _ _) (by unfold maxLen; omega) ?_; intro cap w1 hr hc1 hc2 hb1)
  unfold maxLen at hc2
  go_loopw [12] (fun i wr => ∃ (j : Nat) (l : List UInt8), j ≤ s.size ∧ i = .int .i64 j ∧ RowB w wr w.heap.size l ∧ l.length = s.size ∧ l.take j ++ (l.drop j).map (mvB a b) = s.data.toList.map (mvB a b)) (fun i wr => s.size - (intOf i).toNat)
  case atStart => exact ⟨0, s.data.toList, by omega, rfl, hr, hlen, by simp⟩
  case round =>
    obtain ⟨j, l, hj, rfl, hrow, hl, hm⟩ := hrel
    by_cases hlt : j < s.size
    · have hjl : j < l.length := by omega
      have hcell := hrow.cell j l[j] (List.getElem?_eq_getElem hjl)
      have hfr := hrow.free j hjl
      have hpc : wr.cell? ⟨p, 0, none⟩ = some (.int .u8 a) := by rw [hrow.bel.cell (p := ⟨p, 0, none⟩) hpl]; exact hp
      have hqc : wr.cell? ⟨q, 0, none⟩ = some (.int .u8 b) := by rw [hrow.bel.cell (p := ⟨q, 0, none⟩) hql]; exact hq
      have hnew := hrow.set hjl (mvB a b l[j])
      rw [mvB_num a b hb] at hnew
      have hm' : (l.set j (mvB a b l[j])).take (j + 1) ++ ((l.set j (mvB a b l[j])).drop (j + 1)).map (mvB a b) = s.data.toList.map (mvB a b) := by
        rw [← hm, List.drop_set_of_lt (by omega), List.take_set, List.take_succ_eq_append_getElem hjl, List.set_append_right _ _ (by simp; omega)]
        rw [List.drop_eq_getElem_cons hjl, List.map_cons]
        simp [-List.map_drop, Nat.min_eq_left (Nat.le_of_lt hjl)]
      have hcb := (l[j]).toNat_lt
      have HL := Lib.hid hl
      have HM := Lib.hid hm'
      clear hm hm' hl hlen
      generalize l[j] = c at *
      go_wp2_with (go_at_call 54; refine (conv_any a b c.toNat ha hb (by omega) p q _ hpc hqc).mono ?_; rintro e w' ⟨rfl, rfl⟩)
      exact ⟨⟨j + 1, _, by omega, by go_num, hnew, by rw [List.length_set]; exact HL.out, HM.out⟩, by simp [intOf]; omega⟩
    · have hs1 := bs_string' (n := s.size) cap hrow.bs hl
      have e1 : List.take j l = l := List.take_of_length_le (by omega)
      have e2 : List.drop j l = [] := List.drop_eq_nil_of_le (by omega)
      rw [e1, e2, List.map_nil, List.append_nil] at hm
      have HM := Lib.hid hm
      clear e1 e2 hm hl hlen
      go_wp2
      go_ret
      exact ⟨by rw [← HM.out]; rfl, hrow.bel⟩

def great (l : List UInt8) : List UInt8 := l.map (mvB 97 65)
def small (l : List UInt8) : List UInt8 := l.map (mvB 65 97)
set_option maxHeartbeats 1000000 in
set_option maxRecDepth 100000 in
theorem great_any (s : ByteArray) (hs : s.size ≤ 8388608) (w : World) :
    Calls Tryd.prog 23 #[.string s] w fun e w' => e = .returned (.string ⟨(great s.data.toList).toArray⟩) ∧ Below w.heap.size w w' := by
  have b2 : Below w.heap.size w ((w.alloc (.cells #[.int .u8 97] 5)).alloc (.cells #[.int .u8 65] 5)) := ((Below.refl _ _).alloc (Nat.le_refl _) _).alloc (by simp) _
  go_enter Tryd.func23, Tryd.ntmps23
  go_wp2_with (first | (go_at_call 42; refine (moving_any _ _ _).mono ?_; rintro e w' ⟨rfl, rfl⟩) | (go_at_call 41; refine (eachByte_any 97 65 (by omega) (by omega) _ _ s hs _ (by simp) (by simp) (by simp; omega) (by simp)).mono ?_; rintro e w' ⟨rfl, hb⟩))
  go_ret
  exact ⟨rfl, b2.trans (hb.mono (by simp; omega))⟩
set_option maxHeartbeats 1000000 in
set_option maxRecDepth 100000 in
theorem small_any (s : ByteArray) (hs : s.size ≤ 8388608) (w : World) :
    Calls Tryd.prog 25 #[.string s] w fun e w' => e = .returned (.string ⟨(small s.data.toList).toArray⟩) ∧ Below w.heap.size w w' := by
  have b2 : Below w.heap.size w ((w.alloc (.cells #[.int .u8 65] 5)).alloc (.cells #[.int .u8 97] 5)) := ((Below.refl _ _).alloc (Nat.le_refl _) _).alloc (by simp) _
  go_enter Tryd.func25, Tryd.ntmps25
  go_wp2_with (first | (go_at_call 42; refine (moving_any _ _ _).mono ?_; rintro e w' ⟨rfl, rfl⟩) | (go_at_call 41; refine (eachByte_any 65 97 (by omega) (by omega) _ _ s hs _ (by simp) (by simp) (by simp; omega) (by simp)).mono ?_; rintro e w' ⟨rfl, hb⟩))
  go_ret
  exact ⟨rfl, b2.trans (hb.mono (by simp; omega))⟩
end Go.Proofs.YtdikgifgapbocaaDoor
