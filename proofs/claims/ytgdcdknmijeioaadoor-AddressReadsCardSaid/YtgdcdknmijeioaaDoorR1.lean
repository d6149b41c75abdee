/- The document's letters, atoms, sides. -/
import Derived.Test.YtgdcdknmijeioaaDoorC20
set_option linter.unusedSimpArgs false
set_option linter.unusedVariables false
namespace Go.Proofs.YtgdcdknmijeioaaDoor
open Go.RowKit Go.Shelf

set_option maxHeartbeats 1000000 in
theorem rld_any : KindOf 44 ldB := by
  intro c w
  have hc := c.toNat_lt
  obtain ⟨x, hx⟩ : ∃ x : Int, (c.toNat : Int) = x := ⟨_, rfl⟩
  rw [ldB_iff c x hx.symm, hx]
  have h0 : 0 ≤ x := by omega
  have h1 : x < 256 := by omega
  clear hx hc
  go_enter Tryd.func44, Tryd.ntmps44
  go_wp2
  all_goals
    go_ret
    refine ⟨ret_bool ?_, rfl⟩
    first
      | rfl
      | (rw [Bool.eq_iff_iff]; simp only [Bool.or_eq_true, Bool.and_eq_true, decide_eq_true_eq, Bool.false_eq_true, true_iff, false_iff]; omega)
def marks18 : List UInt8 := [33, 35, 36, 37, 38, 39, 42, 43, 45, 47, 61, 63, 94, 95, 123, 124, 125, 126]
theorem contains_snoc (l : List UInt8) (m c : UInt8) : (l ++ [m]).contains c = (l.contains c || c == m) := by
  rw [Bool.eq_iff_iff]
  simp
theorem ab_18 (c : UInt8) : abB c = (ldB c || c == 96 || marks18.contains c) := by
  unfold abB
  have : marksL = marks18 ++ [96] := rfl
  rw [this]
  rw [Bool.eq_iff_iff]
  simp
  constructor
  · rintro (h | h | h)
    · exact .inl (.inl h)
    · exact .inr h
    · exact .inl (.inr h)
  · rintro ((h | h) | h)
    · exact .inl h
    · exact .inr (.inr h)
    · exact .inr (.inl h)
set_option maxHeartbeats 1000000 in
theorem rab_any : KindOf 45 abB := by
  intro c w
  have c1 := fun w => rld_any c w
  have hr := ab_18 c
  rw [show (96 : UInt8) = UInt8.ofNat 96 from rfl, eq_nat c 96 (by omega)] at hr
  replace hr : abB c = (ldB c || decide ((c.toNat : Int) = 96) || marks18.contains c) := hr
  generalize abB c = res at *
  generalize ldB c = bl at *
  have hcl := c.toNat_lt
  cases bl
  · by_cases h96 : (c.toNat : Int) = 96
    · have HR : Hid (res = true) := Lib.hid (by rw [hr, decide_eq_true h96]; rfl)
      have f1 := beq_yes h96
      clear h96 hr
      go_enter Tryd.func45, Tryd.ntmps45
      go_wp2_with (go_at_call 44; refine (c1 _).mono ?_; rintro e w' ⟨rfl, hw⟩; rw [hw])
      go_ret
      exact ⟨by rw [HR.out]; rfl, rfl⟩
    · have hr2 : res = marks18.contains c := by rw [hr, decide_eq_false h96]; rfl
      have f1 := beq_no h96
      have HR := Lib.hid hr2
      obtain ⟨mk, hmk⟩ : ∃ mk : ByteArray, mk = ⟨#[33, 35, 36, 37, 38, 39, 42, 43, 45, 47, 61, 63, 94, 95, 123, 124, 125, 126]⟩ := ⟨_, rfl⟩
      have hl : mk.data.toList = marks18 := by rw [hmk]; rfl
      have hz : mk.size = 18 := by rw [hmk]; rfl
      clear hr hr2
      go_enter Tryd.func45, Tryd.ntmps45
      go_wp2_with (go_at_call 44; refine (c1 _).mono ?_; rintro e w' ⟨rfl, hw⟩; rw [hw])
      rw [← hmk]
      have HZ := Lib.hid hz
      have HL := Lib.hid hl
      clear hmk c1 hl hz
      go_loop [4] (fun i => ∃ n : Nat, i = .int .i64 n ∧ n ≤ mk.size ∧ Hid ((marks18.take n).contains c = false)) (fun i => mk.size - (intOf i).toNat)
      case atStart => exact ⟨0, rfl, Nat.zero_le _, Lib.hid rfl⟩
      case round =>
        obtain ⟨n, rfl, hn, hC⟩ := hrel
        have hb18 : (mk.size : Int) ≤ 18 := by have := HZ.out; omega
        by_cases hlt : n < mk.size
        · have hl2 : n < marks18.length := by have := HZ.out; have h3 : marks18.length = 18 := rfl; omega
          have hx : mk[n]'hlt = marks18[n]'hl2 := by
            have h1 : mk.data.toList[n]? = marks18[n]? := by rw [HL.out]
            rw [List.getElem?_eq_getElem (show n < mk.data.toList.length by rw [← Lib.size_eq]; exact hlt), List.getElem?_eq_getElem hl2] at h1
            exact Option.some.inj h1
          have hT : (marks18.take (n + 1)).contains c = (c == marks18[n]'hl2) := by
            rw [List.take_succ_eq_append_getElem hl2, contains_snoc, hC.out, Bool.false_or]
          have hin : c = marks18[n]'hl2 → marks18.contains c = true := fun e => by rw [e]; simp
          generalize marks18[n]'hl2 = m at *
          by_cases hm : c = m
          · have HE : Hid (res = true) := Lib.hid (by rw [HR.out]; exact hin hm)
            have f2 : ((m.toNat : Int) == c.toNat) = true := by rw [hm]; simp
            clear hm hT hin
            go_wp2_with fail
            go_ret
            exact ⟨by rw [HE.out]; rfl, rfl⟩
          · have HC2 : Hid ((marks18.take (n + 1)).contains c = false) := Lib.hid (by rw [hT]; simpa using hm)
            have f2 : ((m.toNat : Int) == c.toNat) = false := by
              have : ¬ m.toNat = c.toNat := fun e => hm (UInt8.toNat_inj.1 e.symm)
              simp; omega
            clear hm hT hin
            go_wp2_with fail
            exact ⟨⟨n + 1, by go_num, by omega, HC2⟩, by simp [intOf]; omega⟩
        · have HE : Hid (res = false) := Lib.hid (by
            have h1 := hC.out
            have h2 := HZ.out
            have h3 : marks18.length = 18 := rfl
            rw [List.take_of_length_le (by omega)] at h1
            rw [HR.out]; exact h1)
          go_wp2_with fail
          go_ret
          exact ⟨by rw [HE.out]; rfl, rfl⟩
  · have HR : Hid (res = true) := Lib.hid (by rw [hr]; rfl)
    clear hr
    go_enter Tryd.func45, Tryd.ntmps45
    go_wp2_with (go_at_call 44; refine (c1 _).mono ?_; rintro e w' ⟨rfl, hw⟩; rw [hw])
    go_ret
    exact ⟨by rw [HR.out]; rfl, rfl⟩
end Go.Proofs.YtgdcdknmijeioaaDoor
