/- The document's sides. -/
import Derived.Test.YtgdcdknmijeioaaDoorR1
set_option linter.unusedSimpArgs false
set_option linter.unusedVariables false
namespace Go.Proofs.YtgdcdknmijeioaaDoor
open Go.RowKit Go.Shelf

theorem piece_step (l : List UInt8) (f n : Nat) (h : n < l.length) (hf : f ≤ n) : (l.take (n + 1)).drop f = (l.take n).drop f ++ [l[n]] := by
  rw [List.take_succ_eq_append_getElem h, List.drop_append_of_le_length (by simp; omega)]
theorem piece_none (l : List UInt8) (n : Nat) : (l.take n).drop n = [] := List.drop_eq_nil_of_le (by simp; omega)
theorem end_none (lab : Bool) : endP lab [] = false := rfl
theorem end_some (lab : Bool) (l : List UInt8) (f m : Nat) (hm : m < l.length) (hf : f ≤ m) : endP lab ((l.take (m + 1)).drop f) = !(lab && (l[f]'(by omega) == 45 || l[m] == 45)) := by
  have h1 : ((l.take (m + 1)).drop f).isEmpty = false := by
    rw [List.isEmpty_eq_false_iff]
    intro e
    have := congrArg List.length e
    simp at this
    omega
  have h2 : ((l.take (m + 1)).drop f).head? = some (l[f]'(by omega)) := by
    rw [List.head?_drop, List.getElem?_take_of_lt (by omega), List.getElem?_eq_getElem (by omega)]
  have h3 : ((l.take (m + 1)).drop f).getLast? = some l[m] := by
    rw [piece_step l f m hm hf]; simp
  unfold endP
  rw [h1, h2, h3]
  simp
theorem dot_dot (lab : Bool) (p t : List UInt8) : dotS lab p (46 :: t) = (endP lab p && dotS lab [] t) := by rw [dotS, if_pos rfl]
theorem dot_byte (lab : Bool) (p t : List UInt8) (c : UInt8) (h : ¬ c = 46) : dotS lab p (c :: t) = (okB lab c && dotS lab (p ++ [c]) t) := by rw [dotS, if_neg h]
/-- Where the loop is. -/
def DR (lab : Bool) (l : List UInt8) (T : Bool) (n f : Nat) : Prop := (n ≤ l.length ∧ f ≤ n ∧ dotS lab ((l.take n).drop f) (l.drop n) = T) ∨ (n = l.length + 1 ∧ T = true)
theorem DR.byte {lab : Bool} {l : List UInt8} {T : Bool} {n f : Nat} (h : DR lab l T n f) (hn : n < l.length) (hc : ¬ l[n] = 46) : (okB lab l[n] = true → DR lab l T (n + 1) f) ∧ (okB lab l[n] = false → T = false) := by
  rcases h with ⟨h1, h2, h3⟩ | ⟨h1, _⟩
  · rw [List.drop_eq_getElem_cons hn, dot_byte _ _ _ _ hc] at h3
    refine ⟨fun ho => .inl ⟨by omega, by omega, ?_⟩, fun ho => ?_⟩
    · rw [ho, Bool.true_and] at h3
      rw [piece_step l f n hn h2]
      exact h3
    · rw [ho] at h3; exact h3.symm
  · omega
theorem DR.stop {lab : Bool} {l : List UInt8} {T : Bool} {n f : Nat} (h : DR lab l T n f) (hn : n = l.length ∨ ∃ h : n < l.length, l[n] = 46) : f ≤ n ∧ (endP lab ((l.take n).drop f) = true → DR lab l T (n + 1) (n + 1)) ∧ (endP lab ((l.take n).drop f) = false → T = false) := by
  rcases h with ⟨h1, h2, h3⟩ | ⟨h1, _⟩
  · refine ⟨h2, ?_⟩
    rcases hn with rfl | ⟨hl, hc⟩
    · rw [List.drop_length, dotS] at h3
      refine ⟨fun ho => .inr ⟨rfl, by rw [← h3]; exact ho⟩, fun ho => by rw [← h3]; exact ho⟩
    · rw [List.drop_eq_getElem_cons hl, hc, dot_dot] at h3
      refine ⟨fun ho => .inl ⟨by omega, Nat.le_refl _, ?_⟩, fun ho => ?_⟩
      · rw [ho, Bool.true_and] at h3
        rw [piece_none]; exact h3
      · rw [ho] at h3; exact h3.symm
  · rcases hn with rfl | ⟨hl, _⟩ <;> omega
set_option maxHeartbeats 2000000 in
theorem rside_f (s : ByteArray) (hs : s.size ≤ 9223372036854775807) (w : World) :
    Calls Tryd.prog 30 #[.string s, .bool false] w fun e w' => e = .returned (.bool (sideP false s.data.toList)) ∧ w' = w := by
  have hsz := Lib.size_eq s
  rw [sideP_dot]
  by_cases hlen : 1 ≤ s.size ∧ s.size ≤ 64
  · rw [decide_eq_true (by omega), Bool.true_and]
    obtain ⟨hlo, hhi⟩ := hlen
    have h1 : ¬ (s.size : Int) < 1 := by omega
    have h2 : ¬ (64 : Int) < s.size := by omega
    have h2' : (s.size : Int) ≤ 64 := by omega
    have HD : Hid (DR false s.data.toList (dotS false [] s.data.toList) 0 0) := Lib.hid (.inl ⟨Nat.zero_le _, Nat.le_refl _, rfl⟩)
    have HS := Lib.hid hsz
    have cK := fun (c : UInt8) w => rab_any c w
    have hat : ∀ n (h : n < s.size), s[n]'h = s.data.toList[n]'(by rw [← Lib.size_eq]; exact h) := fun n h => rfl
    generalize dotS false [] s.data.toList = T at *
    have HAT := Lib.hid hat
    clear hsz hat
    go_enter Tryd.func30, Tryd.ntmps30
    go_wp2
    go_loop [5, 6] (fun fv iv => ∃ n f : Nat, fv = .int .i64 f ∧ iv = .int .i64 n ∧ n ≤ s.size + 1 ∧ f ≤ s.size + 1 ∧ Hid (DR false s.data.toList T n f)) (fun fv iv => s.size + 1 - (intOf iv).toNat)
    case atStart => exact ⟨0, 0, rfl, rfl, by omega, by omega, HD⟩
    case round =>
      obtain ⟨n, f, rfl, rfl, hn, hf, HR⟩ := hrel
      clear HD
      by_cases hle : n ≤ s.size
      · have hsl := HS.out
        have g0 : ¬ (s.size : Int) < n := by omega
        have g0' : (n : Int) ≤ s.size := by omega
        by_cases hb : ∃ h : n < s.size, ¬ s.data.toList[n]'(by rw [← Lib.size_eq]; exact h) = 46
        · obtain ⟨hlt, hc⟩ := hb
          obtain ⟨d1, d2⟩ := HR.out.byte (by rw [← Lib.size_eq]; exact hlt) hc
          have D1 := Lib.hid d1
          have D2 := Lib.hid d2
          have hx := HAT.out n hlt
          have hcn : ¬ ((s.data.toList[n]'(by rw [← Lib.size_eq]; exact hlt)).toNat : Int) = 46 := nat_ne hc
          have b1 := bne_no hcn
          have hcl := (s.data.toList[n]'(by rw [← Lib.size_eq]; exact hlt)).toNat_lt
          have c1 := fun w => cK (s.data.toList[n]'(by rw [← Lib.size_eq]; exact hlt)) w
          clear d1 d2 cK hc
          have HSL := Lib.hid hsl
          generalize s.data.toList[n]'(by rw [← Lib.size_eq]; exact hlt) = c at *
          clear hsl
          have ho : okB false c = abB c := rfl
          rw [ho] at D1 D2
          cases hv : abB c
          · rw [hv] at c1 D2
            have HE := Lib.hid (D2.out rfl)
            clear hv ho D1 D2 hle
            go_wp2_with (go_at_call 45; refine (c1 _).mono ?_; rintro e w' ⟨rfl, hw⟩; rw [hw])
            go_ret
            exact ⟨by rw [HE.out]; rfl, rfl⟩
          · rw [hv] at c1 D1
            have HE := Lib.hid (D1.out rfl)
            clear hv ho D1 D2 hle
            go_wp2_with (go_at_call 45; refine (c1 _).mono ?_; rintro e w' ⟨rfl, hw⟩; rw [hw])
            exact ⟨⟨n + 1, f, rfl, by go_num, by omega, by omega, HE.out |> Lib.hid⟩, by simp [intOf]; omega⟩
        · have hst : n = s.data.toList.length ∨ ∃ h : n < s.data.toList.length, s.data.toList[n] = 46 := by
            by_cases hlt : n < s.size
            · right
              refine ⟨by omega, ?_⟩
              by_cases h46 : s.data.toList[n]'(by rw [← Lib.size_eq]; omega) = 46
              · exact h46
              · exact absurd ⟨hlt, h46⟩ hb
            · left; omega
          obtain ⟨hfn, d1, d2⟩ := HR.out.stop hst
          have D1 := Lib.hid d1
          have D2 := Lib.hid d2
          -- what the first test finds
          clear d1 d2 cK hst
          by_cases hfe : f = n
          · subst hfe
            rw [piece_none] at D2
            have HE := Lib.hid (D2.out (end_none _))
            have q0 : ((f : Int) == f) = true := by simp
            clear D1 D2
            by_cases hlt : f < s.size
            · have hx := HAT.out f hlt
              have b1 := bne_yes (show ((s.data.toList[f]'(by rw [← Lib.size_eq]; omega)).toNat : Int) = 46 by
                have : s.data.toList[f]'(by rw [← Lib.size_eq]; omega) = 46 := by
                  by_cases h46 : s.data.toList[f]'(by rw [← Lib.size_eq]; omega) = 46
                  · exact h46
                  · exact absurd ⟨hlt, h46⟩ hb
                rw [this]; rfl)
              generalize s.data.toList[f]'(by rw [← Lib.size_eq]; omega) = c at *
              clear hb hle hsl
              go_wp2_with fail
              go_ret
              exact ⟨by rw [HE.out]; rfl, rfl⟩
            · have g1 : ¬ (f : Int) < s.size := by omega
              clear hb hle hsl hlt
              go_wp2_with fail
              go_ret
              exact ⟨by rw [HE.out]; rfl, rfl⟩
          · obtain ⟨m, rfl⟩ : ∃ m, n = m + 1 := ⟨n - 1, by omega⟩
            have hfm : f ≤ m := by omega
            have hend := end_some false s.data.toList f m (by omega) hfm
            rw [hend] at D1 D2
            have q0 : ((m : Int) + 1 == f) = false := by
              have : ¬ (m : Int) + 1 = f := by omega
              simpa using this
            have q1 : ¬ (m : Int) + 1 = f := by omega
            by_cases hlt : m + 1 < s.size
            · have hx := HAT.out (m + 1) hlt
              have b1 := bne_yes (show ((s.data.toList[m + 1]'(by rw [← Lib.size_eq]; omega)).toNat : Int) = 46 by
                have : s.data.toList[m + 1]'(by rw [← Lib.size_eq]; omega) = 46 := by
                  by_cases h46 : s.data.toList[m + 1]'(by rw [← Lib.size_eq]; omega) = 46
                  · exact h46
                  · exact absurd ⟨hlt, h46⟩ hb
                rw [this]; rfl)
              have gl : (m : Int) + 1 < s.size := by omega
              have gt : ((m : Int) + 1).toNat = m + 1 := by omega
              generalize s.data.toList[m + 1]'(by rw [← Lib.size_eq]; omega) = cc at *
              have HE := Lib.hid (D1.out rfl)
              clear D1 D2 hend hb hle hsl
              go_wp2_with fail
              exact ⟨⟨m + 1 + 1, m + 1 + 1, by go_num, by go_num, by omega, by omega, Lib.hid HE.out⟩, by simp [intOf]; omega⟩
            · have g1 : ¬ (m : Int) + 1 < s.size := by omega
              have HE := Lib.hid (D1.out rfl)
              clear D1 D2 hend hb hle hsl hlt
              go_wp2_with fail
              exact ⟨⟨m + 1 + 1, m + 1 + 1, by go_num, by go_num, by omega, by omega, Lib.hid HE.out⟩, by simp [intOf]; omega⟩
      · have HE : Hid (T = true) := Lib.hid (by
          rcases HR.out with ⟨h, _⟩ | ⟨_, h⟩
          · have := HS.out; omega
          · exact h)
        have g0 : (s.size : Int) < n := by omega
        have g0' : ¬ (n : Int) ≤ s.size := by omega
        clear hle
        go_wp2_with fail
        go_ret
        exact ⟨by rw [HE.out]; rfl, rfl⟩
  · rw [decide_eq_false (by omega), Bool.false_and]
    by_cases hlo : s.size < 1
    · have h1 : (s.size : Int) < 1 := by omega
      clear hsz hlen
      go_enter Tryd.func30, Tryd.ntmps30
      go_wp2
      go_ret
      exact ⟨rfl, rfl⟩
    · have h1 : ¬ (s.size : Int) < 1 := by omega
      have h2 : (64 : Int) < s.size := by omega
      clear hsz hlen hlo
      go_enter Tryd.func30, Tryd.ntmps30
      go_wp2
      go_ret
      exact ⟨rfl, rfl⟩
set_option maxHeartbeats 2000000 in
theorem rside_t (s : ByteArray) (hs : s.size ≤ 9223372036854775807) (w : World) :
    Calls Tryd.prog 30 #[.string s, .bool true] w fun e w' => e = .returned (.bool (sideP true s.data.toList)) ∧ w' = w := by
  have hsz := Lib.size_eq s
  rw [sideP_dot]
  by_cases hlen : 1 ≤ s.size ∧ s.size ≤ 64
  · rw [decide_eq_true (by omega), Bool.true_and]
    obtain ⟨hlo, hhi⟩ := hlen
    have h1 : ¬ (s.size : Int) < 1 := by omega
    have h2 : ¬ (64 : Int) < s.size := by omega
    have h2' : (s.size : Int) ≤ 64 := by omega
    have HD : Hid (DR true s.data.toList (dotS true [] s.data.toList) 0 0) := Lib.hid (.inl ⟨Nat.zero_le _, Nat.le_refl _, rfl⟩)
    have HS := Lib.hid hsz
    have cK := fun (c : UInt8) w => rld_any c w
    have hat : ∀ n (h : n < s.size), s[n]'h = s.data.toList[n]'(by rw [← Lib.size_eq]; exact h) := fun n h => rfl
    generalize dotS true [] s.data.toList = T at *
    have HAT := Lib.hid hat
    clear hsz hat
    go_enter Tryd.func30, Tryd.ntmps30
    go_wp2
    go_loop [5, 6] (fun fv iv => ∃ n f : Nat, fv = .int .i64 f ∧ iv = .int .i64 n ∧ n ≤ s.size + 1 ∧ f ≤ s.size + 1 ∧ Hid (DR true s.data.toList T n f)) (fun fv iv => s.size + 1 - (intOf iv).toNat)
    case atStart => exact ⟨0, 0, rfl, rfl, by omega, by omega, HD⟩
    case round =>
      obtain ⟨n, f, rfl, rfl, hn, hf, HR⟩ := hrel
      clear HD
      by_cases hle : n ≤ s.size
      · have hsl := HS.out
        have g0 : ¬ (s.size : Int) < n := by omega
        have g0' : (n : Int) ≤ s.size := by omega
        by_cases hb : ∃ h : n < s.size, ¬ s.data.toList[n]'(by rw [← Lib.size_eq]; exact h) = 46
        · obtain ⟨hlt, hc⟩ := hb
          obtain ⟨d1, d2⟩ := HR.out.byte (by rw [← Lib.size_eq]; exact hlt) hc
          have D1 := Lib.hid d1
          have D2 := Lib.hid d2
          have hx := HAT.out n hlt
          have hcn : ¬ ((s.data.toList[n]'(by rw [← Lib.size_eq]; exact hlt)).toNat : Int) = 46 := nat_ne hc
          have b1 := bne_no hcn
          have hcl := (s.data.toList[n]'(by rw [← Lib.size_eq]; exact hlt)).toNat_lt
          have c1 := fun w => cK (s.data.toList[n]'(by rw [← Lib.size_eq]; exact hlt)) w
          clear d1 d2 cK hc
          have HSL := Lib.hid hsl
          generalize s.data.toList[n]'(by rw [← Lib.size_eq]; exact hlt) = c at *
          clear hsl
          have ho : okB true c = (ldB c || c == 45) := rfl
          rw [ho] at D1 D2
          cases hv : ldB c
          · rw [hv] at c1 D1 D2
            by_cases h45 : c = 45
            · have b2 := bne_yes (show (c.toNat : Int) = 45 by rw [h45]; rfl)
              have HE := Lib.hid (D1.out (by rw [h45]; rfl))
              clear hv ho D1 D2 hle h45
              go_wp2_with (go_at_call 44; refine (c1 _).mono ?_; rintro e w' ⟨rfl, hw⟩; rw [hw])
              exact ⟨⟨n + 1, f, rfl, by go_num, by omega, by omega, HE.out |> Lib.hid⟩, by simp [intOf]; omega⟩
            · have b2 := bne_no (show ¬ (c.toNat : Int) = 45 from nat_ne h45)
              have HE := Lib.hid (D2.out (by simpa using h45))
              clear hv ho D1 D2 hle h45
              go_wp2_with (go_at_call 44; refine (c1 _).mono ?_; rintro e w' ⟨rfl, hw⟩; rw [hw])
              go_ret
              exact ⟨by rw [HE.out]; rfl, rfl⟩
          · rw [hv] at c1 D1
            have HE := Lib.hid (D1.out rfl)
            clear hv ho D1 D2 hle
            go_wp2_with (go_at_call 44; refine (c1 _).mono ?_; rintro e w' ⟨rfl, hw⟩; rw [hw])
            exact ⟨⟨n + 1, f, rfl, by go_num, by omega, by omega, HE.out |> Lib.hid⟩, by simp [intOf]; omega⟩
        · have hst : n = s.data.toList.length ∨ ∃ h : n < s.data.toList.length, s.data.toList[n] = 46 := by
            by_cases hlt : n < s.size
            · right
              refine ⟨by omega, ?_⟩
              by_cases h46 : s.data.toList[n]'(by rw [← Lib.size_eq]; omega) = 46
              · exact h46
              · exact absurd ⟨hlt, h46⟩ hb
            · left; omega
          obtain ⟨hfn, d1, d2⟩ := HR.out.stop hst
          have D1 := Lib.hid d1
          have D2 := Lib.hid d2
          -- what the first test finds
          clear d1 d2 cK hst
          by_cases hfe : f = n
          · subst hfe
            rw [piece_none] at D2
            have HE := Lib.hid (D2.out (end_none _))
            have q0 : ((f : Int) == f) = true := by simp
            clear D1 D2
            by_cases hlt : f < s.size
            · have hx := HAT.out f hlt
              have b1 := bne_yes (show ((s.data.toList[f]'(by rw [← Lib.size_eq]; omega)).toNat : Int) = 46 by
                have : s.data.toList[f]'(by rw [← Lib.size_eq]; omega) = 46 := by
                  by_cases h46 : s.data.toList[f]'(by rw [← Lib.size_eq]; omega) = 46
                  · exact h46
                  · exact absurd ⟨hlt, h46⟩ hb
                rw [this]; rfl)
              generalize s.data.toList[f]'(by rw [← Lib.size_eq]; omega) = c at *
              clear hb hle hsl
              go_wp2_with fail
              go_ret
              exact ⟨by rw [HE.out]; rfl, rfl⟩
            · have g1 : ¬ (f : Int) < s.size := by omega
              clear hb hle hsl hlt
              go_wp2_with fail
              go_ret
              exact ⟨by rw [HE.out]; rfl, rfl⟩
          · obtain ⟨m, rfl⟩ : ∃ m, n = m + 1 := ⟨n - 1, by omega⟩
            have hfm : f ≤ m := by omega
            have hend := end_some true s.data.toList f m (by omega) hfm
            rw [hend] at D1 D2
            have q0 : ((m : Int) + 1 == f) = false := by
              have : ¬ (m : Int) + 1 = f := by omega
              simpa using this
            have q1 : ¬ (m : Int) + 1 = f := by omega
            by_cases hlt : m + 1 < s.size
            · have hx := HAT.out (m + 1) hlt
              have b1 := bne_yes (show ((s.data.toList[m + 1]'(by rw [← Lib.size_eq]; omega)).toNat : Int) = 46 by
                have : s.data.toList[m + 1]'(by rw [← Lib.size_eq]; omega) = 46 := by
                  by_cases h46 : s.data.toList[m + 1]'(by rw [← Lib.size_eq]; omega) = 46
                  · exact h46
                  · exact absurd ⟨hlt, h46⟩ hb
                rw [this]; rfl)
              have gl : (m : Int) + 1 < s.size := by omega
              have gt : ((m : Int) + 1).toNat = m + 1 := by omega
              generalize s.data.toList[m + 1]'(by rw [← Lib.size_eq]; omega) = cc at *
              have hfl : f < s.size := by omega
              have hml : m < s.size := by omega
              have x1 := HAT.out f hfl
              have x2 := HAT.out m hml
              have hwm : wrap64 (m : Int) = m := by unfold wrap64; omega
              by_cases e1 : s.data.toList[f]'(by rw [← Lib.size_eq]; omega) = 45
              · have HE := Lib.hid (D2.out (by rw [e1]; rfl))
                have b2 := beq_yes (show ((s.data.toList[f]'(by rw [← Lib.size_eq]; omega)).toNat : Int) = 45 by rw [e1]; rfl)
                generalize s.data.toList[f]'(by rw [← Lib.size_eq]; omega) = y1 at *
                clear D1 D2 hend hb hle hsl e1
                go_wp2_with fail
                go_ret
                exact ⟨by rw [HE.out]; rfl, rfl⟩
              · have b2 := beq_no (show ¬ ((s.data.toList[f]'(by rw [← Lib.size_eq]; omega)).toNat : Int) = 45 from nat_ne e1)
                by_cases e2 : s.data.toList[m]'(by rw [← Lib.size_eq]; omega) = 45
                · have HE := Lib.hid (D2.out (by rw [e2]; simp))
                  have b3 := beq_yes (show ((s.data.toList[m]'(by rw [← Lib.size_eq]; omega)).toNat : Int) = 45 by rw [e2]; rfl)
                  clear D1 D2 hend
                  generalize s.data.toList[f]'(by rw [← Lib.size_eq]; omega) = y1 at *
                  generalize s.data.toList[m]'(by rw [← Lib.size_eq]; omega) = y2 at *
                  clear hb hle hsl e1 e2
                  go_wp2_with fail
                  go_ret
                  exact ⟨by rw [HE.out]; rfl, rfl⟩
                · have b3 := beq_no (show ¬ ((s.data.toList[m]'(by rw [← Lib.size_eq]; omega)).toNat : Int) = 45 from nat_ne e2)
                  have HE := Lib.hid (D1.out (by
                    have z1 : (s.data.toList[f]'(by rw [← Lib.size_eq]; omega) == 45) = false := by simpa using e1
                    have z2 : (s.data.toList[m]'(by rw [← Lib.size_eq]; omega) == 45) = false := by simpa using e2
                    rw [z1, z2]; rfl))
                  clear D1 D2 hend
                  generalize s.data.toList[f]'(by rw [← Lib.size_eq]; omega) = y1 at *
                  generalize s.data.toList[m]'(by rw [← Lib.size_eq]; omega) = y2 at *
                  clear hb hle hsl e1 e2
                  go_wp2_with fail
                  exact ⟨⟨m + 1 + 1, m + 1 + 1, by go_num, by go_num, by omega, by omega, Lib.hid HE.out⟩, by simp [intOf]; omega⟩
            · have g1 : ¬ (m : Int) + 1 < s.size := by omega
              have hfl : f < s.size := by omega
              have hml : m < s.size := by omega
              have x1 := HAT.out f hfl
              have x2 := HAT.out m hml
              have hwm : wrap64 (m : Int) = m := by unfold wrap64; omega
              by_cases e1 : s.data.toList[f]'(by rw [← Lib.size_eq]; omega) = 45
              · have HE := Lib.hid (D2.out (by rw [e1]; rfl))
                have b2 := beq_yes (show ((s.data.toList[f]'(by rw [← Lib.size_eq]; omega)).toNat : Int) = 45 by rw [e1]; rfl)
                generalize s.data.toList[f]'(by rw [← Lib.size_eq]; omega) = y1 at *
                clear D1 D2 hend hb hle hsl hlt e1
                go_wp2_with fail
                go_ret
                exact ⟨by rw [HE.out]; rfl, rfl⟩
              · have b2 := beq_no (show ¬ ((s.data.toList[f]'(by rw [← Lib.size_eq]; omega)).toNat : Int) = 45 from nat_ne e1)
                by_cases e2 : s.data.toList[m]'(by rw [← Lib.size_eq]; omega) = 45
                · have HE := Lib.hid (D2.out (by rw [e2]; simp))
                  have b3 := beq_yes (show ((s.data.toList[m]'(by rw [← Lib.size_eq]; omega)).toNat : Int) = 45 by rw [e2]; rfl)
                  clear D1 D2 hend
                  generalize s.data.toList[f]'(by rw [← Lib.size_eq]; omega) = y1 at *
                  generalize s.data.toList[m]'(by rw [← Lib.size_eq]; omega) = y2 at *
                  clear hb hle hsl hlt e1 e2
                  go_wp2_with fail
                  go_ret
                  exact ⟨by rw [HE.out]; rfl, rfl⟩
                · have b3 := beq_no (show ¬ ((s.data.toList[m]'(by rw [← Lib.size_eq]; omega)).toNat : Int) = 45 from nat_ne e2)
                  have HE := Lib.hid (D1.out (by
                    have z1 : (s.data.toList[f]'(by rw [← Lib.size_eq]; omega) == 45) = false := by simpa using e1
                    have z2 : (s.data.toList[m]'(by rw [← Lib.size_eq]; omega) == 45) = false := by simpa using e2
                    rw [z1, z2]; rfl))
                  clear D1 D2 hend
                  generalize s.data.toList[f]'(by rw [← Lib.size_eq]; omega) = y1 at *
                  generalize s.data.toList[m]'(by rw [← Lib.size_eq]; omega) = y2 at *
                  clear hb hle hsl hlt e1 e2
                  go_wp2_with fail
                  exact ⟨⟨m + 1 + 1, m + 1 + 1, by go_num, by go_num, by omega, by omega, Lib.hid HE.out⟩, by simp [intOf]; omega⟩
      · have HE : Hid (T = true) := Lib.hid (by
          rcases HR.out with ⟨h, _⟩ | ⟨_, h⟩
          · have := HS.out; omega
          · exact h)
        have g0 : (s.size : Int) < n := by omega
        have g0' : ¬ (n : Int) ≤ s.size := by omega
        clear hle
        go_wp2_with fail
        go_ret
        exact ⟨by rw [HE.out]; rfl, rfl⟩
  · rw [decide_eq_false (by omega), Bool.false_and]
    by_cases hlo : s.size < 1
    · have h1 : (s.size : Int) < 1 := by omega
      clear hsz hlen
      go_enter Tryd.func30, Tryd.ntmps30
      go_wp2
      go_ret
      exact ⟨rfl, rfl⟩
    · have h1 : ¬ (s.size : Int) < 1 := by omega
      have h2 : (64 : Int) < s.size := by omega
      clear hsz hlen hlo
      go_enter Tryd.func30, Tryd.ntmps30
      go_wp2
      go_ret
      exact ⟨rfl, rfl⟩
end Go.Proofs.YtgdcdknmijeioaaDoor
