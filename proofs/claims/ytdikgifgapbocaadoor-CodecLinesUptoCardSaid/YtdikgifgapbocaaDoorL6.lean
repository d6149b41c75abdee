/- CodecLines' walk. -/
import Derived.Test.YtdikgifgapbocaaDoorC22
import Derived.Test.YtdikgifgapbocaaDoorQ2
set_option linter.unusedSimpArgs false
set_option linter.unusedVariables false
namespace Go.Proofs.YtdikgifgapbocaaDoor
open Go.RowKit Go.Shelf

theorem stuff_len (l : List UInt8) (h : l.length ≤ 1048576) : (stuff l).length ≤ 3000000 ∧ 3 ≤ (stuff l).length := by
  unfold stuff
  have h1 := stm_len (ended l) 2
  have h2 : (ended l).length ≤ l.length + 2 := by unfold ended; split <;> simp
  simp only [List.length_append, List.length_cons, List.length_nil]
  omega
theorem last_of {X ln : List UInt8} {f j : Nat} (h : ln ++ X.drop j = X.drop f) (hj : f + ln.length = j) (h0 : ln ≠ []) : ln.getLast? = X[j - 1]? := by
  have hp := List.length_pos_iff.2 h0
  have e : (ln ++ X.drop j)[ln.length - 1]? = (X.drop f)[ln.length - 1]? := by rw [h]
  rw [List.getElem?_append_left (by omega), List.getElem?_drop] at e
  rw [List.getLast?_eq_getElem?, e]
  congr 1
  omega
set_option maxHeartbeats 4000000 in
set_option maxRecDepth 1000000 in
theorem lines_any (a : Option Addr) (cap : Nat) (l : List UInt8) (w : World) (hc : l.length ≤ cap) (hm : cap ≤ maxLen) (hl : l.length ≤ 1048576) (hB : Bs w a l) (hM : Max w) :
    Calls Tryd.prog 6 #[.slice a l.length cap] w fun e w' => e = .returned (.bool true) ∧ Below w.heap.size w w' := by
  unfold maxLen at hm
  have HS0 := Lib.hid (scn_stuff l)
  obtain ⟨hx1, hx3⟩ := stuff_len l hl
  go_enter Tryd.func6, Tryd.ntmps6
  go_wp2_with fail
  refine (shown_any w hM).mono ?_; rintro e w1 ⟨rfl, b1⟩
  go_wp2_with fail
  have HST := stuff_any a cap l w1 (by omega) (hB.below b1) (hM.below b1)
  unfold StuffPost at HST
  generalize stuff l = X at *
  refine HST.mono ?_; rintro e w2 ⟨g, c3, rfl, r3, q3, q4⟩
  have b2 := below_trans b1 r3.bel
  unfold maxLen at q4
  clear HST
  go_wp2
  go_loopw [5, 6, 7, 8] (fun o fr en i wr => ∃ (f j : Nat) (ln : List UInt8) (a' : Option Addr) (cap' : Nat) (acc : List UInt8), 1 ≤ j ∧ j ≤ X.length ∧ o = .slice a' acc.length cap' ∧ fr = .int .i64 f ∧ en = .bool false ∧ i = .int .i64 j ∧ OB w2 wr a' cap' acc ∧ Hid (scn ln acc (X.drop j) = some (ended l, [])) ∧ Hid (ln ++ X.drop j = X.drop f ∧ f + ln.length = j ∧ (ln = [] → X[j - 1]? = some 10)) ∧ acc.length ≤ f ∧ f ≤ j) (fun o fr en i wr => X.length - (intOf i).toNat)
  case atStart =>
    refine ⟨0, 1, X.take 1, _, 0, [], Nat.le_refl _, by omega, rfl, rfl, rfl, rfl, OB.made w2 #[] 0 (by unfold maxLen; omega) rfl, ?_, ?_, by simp, by omega⟩
    · refine Lib.hid ?_
      have := HS0.out
      cases X with
      | nil => simp at hx3
      | cons c t => simpa [scn] using this
    · refine Lib.hid ⟨by rw [List.drop_zero]; exact List.take_append_drop 1 X, by rw [List.length_take]; omega, fun e => ?_⟩
      have := congrArg List.length e
      rw [List.length_take] at this
      simp only [List.length_nil] at this
      omega
  case round =>
    obtain ⟨f, j, ln, a', cap', acc, hj1, hj, rfl, rfl, rfl, rfl, hob, hsc, hln, hal, hfj⟩ := hrel
    by_cases hlt : j < X.length
    · obtain ⟨c, hc'⟩ : ∃ c, X[j]? = some c := ⟨_, List.getElem?_eq_getElem hlt⟩
      obtain ⟨p, hp'⟩ : ∃ p, X[j - 1]? = some p := ⟨_, List.getElem?_eq_getElem (by omega)⟩
      have hdr : X.drop j = c :: X.drop (j + 1) := by rw [List.drop_eq_getElem_cons hlt]; congr 1; exact Option.some.inj ((List.getElem?_eq_getElem hlt).symm.trans hc')
      obtain ⟨hl1, hl2, hl3⟩ := hln.out
      have hq : ln.getLast? = some 13 ↔ p = 13 := by
        by_cases h0 : ln = []
        · have := hl3 h0
          rw [hp'] at this
          rw [h0, Option.some.inj this]
          simp
        · rw [last_of hl1 hl2 h0, hp']
          simp
      have hcell : ∀ (i : Nat) (y : UInt8), X[i]? = some y → ∀ wx, Below w2.heap.size w2 wx → wx.cell? ⟨g, i, none⟩ = some (.int .u8 y.toNat) := fun i y hy wx hbx => by rw [hbx.cell (p := ⟨g, i, none⟩) r3.lt]; exact r3.cell i y hy
      have k1 := hcell j c hc' wr hob.bel
      have k2 := hcell (j - 1) p hp' wr hob.bel
      have hs := hsc.out
      rw [hdr, scn] at hs
      have hb13 : ∀ (x : UInt8) (k : Nat), k < 256 → ((x.toNat : Int) = k ↔ x = UInt8.ofNat k) := fun x k hk =>
        ⟨fun h => UInt8.toNat_inj.1 (by simp; omega), fun h => by subst h; simp; omega⟩
      by_cases hpc : p = 13 ∧ c = 10
      · rw [if_pos ⟨hq.2 hpc.1, hpc.2⟩] at hs
        have m1 : (p.toNat : Int) = 13 := (hb13 p 13 (by omega)).2 hpc.1
        have m2 : (c.toNat : Int) = 10 := (hb13 c 10 (by omega)).2 hpc.2
        have hln0 : 0 < ln.length := by
          cases ln with
          | nil => have := hq.2 hpc.1; cases this
          | cons c t => simp
        have hf1 : f ≤ j - 1 := by omega
        have hcf : ¬ c3 = f := by omega
        have hdl : ln.dropLast.length = j - 1 - f := by rw [List.length_dropLast]; omega
        have hBl : Bs wr (some ⟨g, f, none⟩) ln.dropLast := fun i y hi => by
          have hi1 : i < ln.dropLast.length := (List.getElem?_eq_some_iff.1 hi).1
          rw [List.length_dropLast] at hi1
          refine ⟨g, f, rfl, Nat.lt_of_lt_of_le r3.lt hob.bel.size, hcell (f + i) y ?_ wr hob.bel⟩
          have h1 : ln[i]? = some y := by rw [← hi, List.getElem?_dropLast, if_pos hi1]
          rw [← List.getElem?_drop, ← hl1, List.getElem?_append_left (by omega)]
          exact h1
        have hcv := bs_string' (n := j - 1 - f) (c3 - f) hBl hdl
        have hU := unstuff_any ⟨ln.dropLast.toArray⟩ wr
        rw [arr_list] at hU
        generalize ln.dropLast = line at hs hdl hcv hU
        have hbw := below_trans b2 hob.bel
        have hBw := hB.below hbw
        by_cases h46 : line = [46]
        · rw [if_pos h46] at hs
          have hs1 := congrArg (fun x => x.map Prod.fst) hs
          have hs2 := congrArg (fun x => x.map Prod.snd) hs
          simp only [Option.map_some, Option.some.injEq] at hs1 hs2
          have hjx : (j : Int) + 1 = X.length := by
            have := congrArg List.length hs2
            rw [List.length_drop] at this
            simp only [List.length_nil] at this
            omega
          have hend : (line == [46]) = true := by simpa using h46
          rw [hend] at hU
          have ho : (convert 22 9 (.slice a' acc.length cap')).run Tryd.prog wr = .ok (.string ⟨(ended l).toArray⟩) wr := by rw [bs_string' cap' hob.cells rfl, hs1]
          have hlb := bs_string' cap hBw rfl
          clear hs hs1 hs2 hq hdr hb13 hl1 hl2 hl3 hsc hln hpc hBl hcell hend h46 hdl
          go_wp2_with fail
          refine hU.mono ?_; rintro e w3 ⟨rfl, hw⟩; rw [hw]
          clear hU
          rcases end_cases' l with ⟨h0, he⟩ | ⟨h0, he⟩ | ⟨d, e, h0, hd, hee, g1, he⟩ | ⟨d, e, h0, hd, hee, g1, g2, he⟩ | ⟨d, e, h0, hd, hee, g1, g2, he⟩
          · rw [he] at ho
            have hq0 : ¬ 0 < l.length := by omega
            clear he h0
            go_wp2
            go_ret
            exact ⟨rfl, hbw⟩
          · rw [he, ← crlf_off] at ho
            have hq0 : (l.length : Int) < 2 := by omega
            have hq1 : 0 < l.length := by omega
            clear he h0
            go_wp2
            go_ret
            exact ⟨rfl, hbw⟩
          all_goals
            have hq0 : ¬ (l.length : Int) < 2 := by omega
            obtain ⟨b2, off2, rfl, hb2, hc2⟩ := Bs.open' hBw (by omega)
            have q1 := hc2 _ _ hd
            have q2 := hc2 _ _ hee
          · rw [he, ← crlf_off] at ho
            have g1' : ¬ (d.toNat : Int) = 13 := by simpa using g1
            clear he g1
            go_wp2
            go_ret
            exact ⟨rfl, hbw⟩
          · rw [he, ← crlf_off] at ho
            have g1' : (d.toNat : Int) = 13 := by simpa using g1
            have g2' : ¬ (e.toNat : Int) = 10 := by simpa using g2
            have g2'' : ((e.toNat : Int) != 10) = true := by rw [bne, g2]; rfl
            clear he g1 g2
            go_wp2
            go_ret
            exact ⟨rfl, hbw⟩
          · rw [he] at ho
            have g1' : (d.toNat : Int) = 13 := by simpa using g1
            have g2' : (e.toNat : Int) = 10 := by simpa using g2
            clear he g1 g2
            go_wp2
            go_ret
            exact ⟨rfl, hbw⟩
        · have hs3 : scn [] (acc ++ uns line ++ [13, 10]) (X.drop (j + 1)) = some (ended l, []) := by rw [if_neg h46] at hs; exact hs
          have HS3 := Lib.hid hs3
          have H10 : Hid (X[j]? = some 10) := Lib.hid (by rw [hc', hpc.2])
          have hend : (line == [46]) = false := by simpa using h46
          rw [hend] at hU
          have hul : (uns line).length ≤ line.length := by
            unfold uns
            split <;> simp
          have hus := arr_size (uns line)
          have hut := arr_list (uns line)
          generalize uns line = u at HS3 hU hul hus hut
          generalize (⟨u.toArray⟩ : ByteArray) = U at hus hut hU
          have HUT := Lib.hid hut
          clear hut
          clear hs hs3 hq hdr hb13 hl1 hl2 hl3 hsc hln hpc hBl hcell hend h46
          go_wp2_with fail
          refine hU.mono ?_; rintro e w3 ⟨rfl, hw⟩; rw [hw]
          clear hU
          go_wp2_with (first | (refine wpL_tobytes (w0 := w2) (s := U) rfl rfl rfl hob.bel (by unfold maxLen; omega) ?_; intro cap4 w4 r4 q5 q6 b4) | (at_builtin; refine wpL_obs rfl rfl rfl (hob.below b4) rfl rfl hus.symm (by rw [← HUT.out]; exact r4.bs) (by omega) ?_; intro a5 c5 w5 o5) | (at_builtin; refine wpL_obs rfl rfl rfl (o5.alloc _) (by simp) rfl rfl (Bs.two _) (by simp; omega) ?_; intro a6 c6 w6 o6))
          exact ⟨⟨j + 1, j + 1, [], a6, c6, _, by omega, by omega, slice_eq (by simp; omega), by go_num, rfl, by go_num, o6, HS3, Lib.hid ⟨rfl, rfl, fun _ => by rw [Nat.add_sub_cancel]; exact H10.out⟩, by simp; omega, Nat.le_refl _⟩, by simp [intOf]; omega⟩
      · have hne : ¬ (ln.getLast? = some 13 ∧ c = 10) := fun h => hpc ⟨hq.1 h.1, h.2⟩
        rw [if_neg hne] at hs
        have hm' : ¬ (p.toNat : Int) = 13 ∨ ((p.toNat : Int) = 13 ∧ ¬ (c.toNat : Int) = 10) := by
          by_cases h1 : p = 13
          · exact .inr ⟨(hb13 p 13 (by omega)).2 h1, fun h => hpc ⟨h1, (hb13 c 10 (by omega)).1 h⟩⟩
          · exact .inl fun h => h1 ((hb13 p 13 (by omega)).1 h)
        have HS : Hid (scn (ln ++ [c]) acc (X.drop (j + 1)) = some (ended l, [])) := Lib.hid hs
        have HL : Hid ((ln ++ [c]) ++ X.drop (j + 1) = X.drop f ∧ f + (ln ++ [c]).length = j + 1 ∧ (ln ++ [c] = [] → X[j + 1 - 1]? = some 10)) := Lib.hid ⟨by rw [← hl1, hdr]; simp, by simp; omega, fun e => by simp at e⟩
        clear hs hq hdr hb13 hl1 hl2 hl3 hsc hln hne hpc
        rcases hm' with m1 | ⟨m1, m2⟩
        all_goals
          go_wp2
          exact ⟨⟨f, j + 1, ln ++ [c], a', cap', acc, by omega, by omega, rfl, rfl, rfl, by go_num, hob, HS, HL, hal, by omega⟩, by simp [intOf]; omega⟩
    · exfalso
      have := hsc.out
      rw [List.drop_eq_nil_of_le (by omega), scn] at this
      cases this
end Go.Proofs.YtdikgifgapbocaaDoor
