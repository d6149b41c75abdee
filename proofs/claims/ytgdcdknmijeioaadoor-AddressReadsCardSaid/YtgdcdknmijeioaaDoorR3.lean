/- The document's Good, Print, Parse. -/
import Derived.Test.YtgdcdknmijeioaaDoorR2
set_option linter.unusedSimpArgs false
set_option linter.unusedVariables false
namespace Go.Proofs.YtgdcdknmijeioaaDoor
open Go.RowKit Go.Shelf

set_option maxHeartbeats 1000000 in
theorem good_any (n a d : ByteArray) (ha : a.size ≤ 9223372036854775807) (hd : d.size ≤ 9223372036854775807) (w : World) :
    Calls Tryd.prog 19 #[.agg #[.string n, .string a, .string d]] w fun e w' => e = .returned (.bool (validP a.data.toList d.data.toList)) ∧ Below w.heap.size w w' := by
  have c1 := fun w => rside_f a ha w
  have c2 := fun w => rside_t d hd w
  unfold validP
  generalize sideP false a.data.toList = x at *
  generalize sideP true d.data.toList = y at *
  have hb0 : Below w.heap.size w (w.alloc (.cells #[.string n, .string a, .string d] 23)) := (Below.refl _ _).alloc (Nat.le_refl _) _
  cases x
  · go_enter Tryd.func19, Tryd.ntmps19
    go_wp2_with fail
    refine (c1 _).mono ?_; rintro e w1 ⟨rfl, hw⟩; rw [hw]
    go_wp2_with fail
    go_ret
    exact ⟨rfl, hb0⟩
  · go_enter Tryd.func19, Tryd.ntmps19
    go_wp2_with fail
    refine (c1 _).mono ?_; rintro e w1 ⟨rfl, hw⟩; rw [hw]
    go_wp2_with fail
    refine (c2 _).mono ?_; rintro e w2 ⟨rfl, hw⟩; rw [hw]
    go_wp2_with fail
    go_ret
    exact ⟨rfl, hb0⟩
set_option maxHeartbeats 1000000 in
theorem rprint_any (n a d : ByteArray) (ha : a.size ≤ 9223372036854775807) (hd : d.size ≤ 9223372036854775807) (w : World) :
    Calls Tryd.prog 13 #[.agg #[.string n, .string a, .string d]] w fun e w' => e = .returned (priV a.data.toList d.data.toList) ∧ Below w.heap.size w w' := by
  have c1 := fun w => good_any n a d ha hd w
  have hv := priV_eq a d
  have hl : validP a.data.toList d.data.toList = true → a.size ≤ 64 ∧ d.size ≤ 64 := fun h => by rw [Lib.size_eq, Lib.size_eq]; exact valid_len h
  generalize priV a.data.toList d.data.toList = rv at *
  generalize validP a.data.toList d.data.toList = q at *
  have HV := Lib.hid hv
  clear hv
  have hb0 : Below w.heap.size w (w.alloc (.cells #[.string n, .string a, .string d] 23)) := (Below.refl _ _).alloc (Nat.le_refl _) _
  have hh0 : (w.alloc (.cells #[.string n, .string a, .string d] 23)).heap[w.heap.size]? = some (.cells #[.string n, .string a, .string d] 23) := heap_alloc_new w _
  have hz0 : w.heap.size < (w.alloc (.cells #[.string n, .string a, .string d] 23)).heap.size := by simp
  go_enter Tryd.func13, Tryd.ntmps13
  go_wp2_with fail
  refine (c1 _).mono ?_; rintro e w1 ⟨rfl, b1⟩
  have B1 := hb0.trans (b1.mono (Nat.le_of_lt hz0))
  have H1 := (b1.block _ hz0).trans hh0
  clear b1 hb0 hh0 hz0 c1
  have r1 := cellA H1 1 _ rfl
  have r2 := cellA H1 2 _ rfl
  cases q
  · go_wp2_with fail
    go_ret2
    exact ⟨by rw [HV.out]; rfl, B1⟩
  · have h1 := (hl rfl).1
    have h2 := (hl rfl).2
    clear hl
    go_wp2_with fail
    go_ret2
    exact ⟨by rw [HV.out]; rfl, B1⟩
theorem parV_none {s : List UInt8} (h : s.dropWhile (· != 64) = []) : parV s = .tuple #[adV [] [] [], .int .i64 90] := by
  have hd : dom s = [] := by unfold dom; rw [h]; rfl
  have hv : validP (loc s) (dom s) = false := by unfold validP; rw [hd, sideP_nil]; simp
  unfold parV parseP
  rw [hv]
  rfl
set_option maxHeartbeats 2000000 in
theorem rparse_any (s : ByteArray) (hs : s.size ≤ 9223372036854775807) (w : World) :
    Calls Tryd.prog 9 #[.string s] w fun e w' => e = .returned (parV s.data.toList) ∧ Below w.heap.size w w' := by
  have hsz := Lib.size_eq s
  have htl := len_takeWhile (· != (64 : UInt8)) s.data.toList
  rw [← hsz] at htl
  have hstep := fun n (h : n < s.data.toList.length) hn => tw_step (· != (64 : UInt8)) s.data.toList n h hn
  have hb0 : Below w.heap.size w (w.alloc (.cells #[.string ⟨#[]⟩, .string ⟨#[]⟩, .string ⟨#[]⟩] 23)) := (Below.refl _ _).alloc (Nat.le_refl _) _
  have hh0 : (w.alloc (.cells #[.string ⟨#[]⟩, .string ⟨#[]⟩, .string ⟨#[]⟩] 23)).heap[w.heap.size]? = some (.cells #[.string ⟨#[]⟩, .string ⟨#[]⟩, .string ⟨#[]⟩] 23) := heap_alloc_new w _
  have hz0 : w.heap.size < (w.alloc (.cells #[.string ⟨#[]⟩, .string ⟨#[]⟩, .string ⟨#[]⟩] 23)).heap.size := by simp
  have HSTEP := Lib.hid hstep
  have HSZ := Lib.hid hsz
  clear hstep hsz
  go_enter Tryd.func9, Tryd.ntmps9
  go_wp2
  generalize hW : w.alloc (.cells #[.string ⟨#[]⟩, .string ⟨#[]⟩, .string ⟨#[]⟩] 23) = w1 at *
  go_loopw [4] (fun i wr => ∃ n : Nat, i = .int .i64 n ∧ n ≤ s.size ∧ Hid (n ≤ (s.data.toList.takeWhile (· != 64)).length) ∧ wr = w1) (fun i _ => s.size - (intOf i).toNat)
  case atStart => exact ⟨0, rfl, Nat.zero_le _, Lib.hid (Nat.zero_le _), rfl⟩
  case round =>
    obtain ⟨n, rfl, hn, HN, hwr⟩ := hrel
    rw [hwr]
    clear hwr
    by_cases hlt : n < s.size
    · have hl : n < s.data.toList.length := by rw [← Lib.size_eq]; exact hlt
      have hsn : s[n]'hlt = s.data.toList[n]'hl := rfl
      have hst := HSTEP.out n hl HN.out
      have hcb := (s.data.toList[n]'hl).toNat_lt
      generalize s.data.toList[n]'hl = c at *
      rcases hst with ⟨hp, hm⟩ | ⟨hp, hm⟩
      · have hc : ¬ c = 64 := by simpa using hp
        have b1 := bne_no (show ¬ (c.toNat : Int) = 64 from nat_ne hc)
        have HM := Lib.hid hm
        clear hp hm hc HN htl HSTEP HSZ
        go_wp2_with fail
        exact ⟨⟨n + 1, by go_num, by omega, HM, trivial⟩, by simp [intOf]; omega⟩
      · have hc : c = 64 := by simpa using hp
        have b1 := bne_yes (show (c.toNat : Int) = 64 by rw [hc]; rfl)
        have e1 : (⟨(loc s.data.toList).toArray⟩ : ByteArray) = s.extract 0 n := by
          rw [ext_take, hm, take_takeWhile]; rfl
        have e2 : (⟨(dom s.data.toList).toArray⟩ : ByteArray) = s.extract (n + 1) s.size := by
          rw [ext_drop, ← List.drop_drop, hm, drop_takeWhile]; rfl
        have hv : parV s.data.toList = if validP (loc s.data.toList) (dom s.data.toList) = true then .tuple #[adV [] (loc s.data.toList) (dom s.data.toList), .int .i64 0] else .tuple #[adV [] [] [], .int .i64 90] := by
          unfold parV parseP
          by_cases h : validP (loc s.data.toList) (dom s.data.toList) = true
          · rw [if_pos h, if_pos h]
          · rw [if_neg h, if_neg h]
        have l1 := loc_len s.data.toList
        have l2 := dom_len s.data.toList
        have hsz := HSZ.out
        have c2 := fun w => good_any ⟨#[]⟩ ⟨(loc s.data.toList).toArray⟩ ⟨(dom s.data.toList).toArray⟩ (by show (loc s.data.toList).toArray.size ≤ _; rw [List.size_toArray]; omega) (by show (dom s.data.toList).toArray.size ≤ _; rw [List.size_toArray]; omega) w
        have c2' : ∀ w, Calls Tryd.prog 19 #[.agg #[.string ⟨#[]⟩, .string (s.extract 0 n), .string (s.extract (n + 1) s.size)]] w fun e w' => e = .returned (.bool (validP (loc s.data.toList) (dom s.data.toList))) ∧ Below w.heap.size w w' := by
          intro w
          have := c2 w
          simp only [str_data] at this
          rw [← e1, ← e2]
          exact this
        have HV := Lib.hid hv
        have HE1 := Lib.hid e1
        have HE2 := Lib.hid e2
        have g1 : (n : Int) ≤ s.size := by omega
        have g2 : (n : Int) + 1 ≤ s.size := by omega
        have g3 : wrap64 ((n : Int) + 1) = (n : Int) + 1 := by unfold wrap64; omega
        have g4 : ((n : Int) + 1).toNat = n + 1 := by omega
        have g5 : ((n : Int) == s.size) = false := by
          have : ¬ (n : Int) = s.size := by omega
          simpa using this
        clear hp hm hc HN htl HSTEP HSZ hv e1 e2 l1 l2 c2 hsz
        go_wp2_with fail
        have B2 : Below w.heap.size w (w1.alloc (.cells #[.string ⟨#[]⟩, .string (s.extract 0 n), .string (s.extract (n + 1) s.size)] 23)).drew := (hb0.alloc (Nat.le_of_lt hz0) _).drew
        have H2 : (w1.alloc (.cells #[.string ⟨#[]⟩, .string (s.extract 0 n), .string (s.extract (n + 1) s.size)] 23)).drew.heap[w.heap.size]? = some (.cells #[.string ⟨#[]⟩, .string ⟨#[]⟩, .string ⟨#[]⟩] 23) := (heap_alloc_old w1 _ hz0).trans hh0
        have A2 : (w1.alloc (.cells #[.string ⟨#[]⟩, .string (s.extract 0 n), .string (s.extract (n + 1) s.size)] 23)).drew.heap[w1.heap.size]? = some (.cells #[.string ⟨#[]⟩, .string (s.extract 0 n), .string (s.extract (n + 1) s.size)] 23) := heap_alloc_new w1 _
        have r0 := cellA A2 0 (.string ⟨#[]⟩) rfl
        have r1 := cellA A2 1 (.string (s.extract 0 n)) rfl
        have r2 := cellA A2 2 (.string (s.extract (n + 1) s.size)) rfl
        have Z2 : w.heap.size < (w1.alloc (.cells #[.string ⟨#[]⟩, .string (s.extract 0 n), .string (s.extract (n + 1) s.size)] 23)).drew.heap.size := Nat.lt_of_lt_of_le hz0 (by show w1.heap.size ≤ (w1.alloc _).heap.size; simp)
        have AZ : w1.heap.size < (w1.alloc (.cells #[.string ⟨#[]⟩, .string (s.extract 0 n), .string (s.extract (n + 1) s.size)] 23)).drew.heap.size := by show w1.heap.size < (w1.alloc _).heap.size; simp
        go_region
        generalize s.extract 0 n = x1 at *
        generalize s.extract (n + 1) s.size = x2 at *
        generalize (w1.alloc (.cells #[.string ⟨#[]⟩, .string x1, .string x2] 23)).drew = w4 at *
        have K2 : w.heap.size ≠ w1.heap.size := Nat.ne_of_lt hz0
        generalize w1.heap.size = g at *
        clear hb0 hh0 hz0 g1 g2 g3 g4 g5
        go_wp2_with fail
        refine (c2' _).mono ?_; rintro e w5 ⟨rfl, b5⟩
        have B5 := B2.trans (b5.mono (Nat.le_of_lt Z2))
        have H5 := (b5.block _ Z2).trans H2
        have A5 := (b5.block _ AZ).trans A2
        clear r0 r1 r2 b5 B2 H2 A2 Z2 AZ c2'
        have r0 := cellA A5 0 (.string ⟨#[]⟩) rfl
        have r1 := cellA A5 1 (.string x1) rfl
        have r2 := cellA A5 2 (.string x2) rfl
        cases hq : validP (loc s.data.toList) (dom s.data.toList)
        · have HR : Hid (parV s.data.toList = .tuple #[adV [] [] [], .int .i64 90]) := Lib.hid <| by have := HV.out; rwa [if_neg (by rw [hq]; decide)] at this
          clear hq HV HE1 HE2 r0 r1 r2
          go_wp2_with (refine wpL_storeA rfl (.tmp 2) (.tmp 34) rfl rfl rfl H5 rfl rfl (by simp [Value.oneCell']) B5 (Nat.le_refl _) ?_; intro w3 h3 b3 _ _)
          refine bodyPost_ret (results_A2 Tryd.results9 rfl rfl h3 rfl) rfl ?_
          exact ⟨by rw [HR.out]; rfl, b3⟩
        · have HR : Hid (parV s.data.toList = .tuple #[.agg #[.string ⟨#[]⟩, .string x1, .string x2], .int .i64 0]) := Lib.hid <| by
            have := HV.out
            rw [if_pos hq] at this
            rw [this, ← HE1.out, ← HE2.out]
            rfl
          clear hq HV HE1 HE2
          go_wp2_with (refine wpL_storeA rfl (.tmp 2) (.tmp 35) rfl rfl rfl H5 rfl rfl (by simp [Value.oneCell']) B5 (Nat.le_refl _) ?_; intro w3 h3 b3 _ _)
          refine bodyPost_ret (results_A2 Tryd.results9 rfl rfl h3 rfl) rfl ?_
          exact ⟨by rw [HR.out]; rfl, b3⟩
    · have HP : Hid (parV s.data.toList = .tuple #[adV [] [] [], .int .i64 90]) := Lib.hid (parV_none (by
        have h1 := HN.out
        have h2 := HSZ.out
        have h3 := congrArg List.length (List.takeWhile_append_dropWhile (p := (· != (64 : UInt8))) (l := s.data.toList))
        rw [List.length_append] at h3
        exact List.length_eq_zero_iff.1 (by omega)))
      have g5 : ((n : Int) == s.size) = true := by
        have : (n : Int) = s.size := by omega
        simpa using this
      clear HN htl HSTEP HSZ
      go_wp2_with (refine wpL_storeA rfl (.tmp 2) (.tmp 22) rfl rfl rfl hh0 rfl rfl (by simp [Value.oneCell']) hb0 (Nat.le_refl _) ?_; intro w3 h3 b3 _ _)
      refine bodyPost_ret (results_A2 Tryd.results9 rfl rfl h3 rfl) rfl ?_
      exact ⟨by rw [HP.out]; rfl, b3⟩
end Go.Proofs.YtgdcdknmijeioaaDoor
