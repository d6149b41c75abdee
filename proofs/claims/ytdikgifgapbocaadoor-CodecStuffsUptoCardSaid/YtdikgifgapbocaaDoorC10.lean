/- The document's Decode64. -/
import Derived.Test.YtdikgifgapbocaaDoorC9
set_option linter.unusedSimpArgs false
set_option linter.unusedVariables false
namespace Go.Proofs.YtdikgifgapbocaaDoor
open Go.RowKit Go.Shelf

def tw (l : List UInt8) : List UInt8 := l.takeWhile (fun c => c != 61)
theorem tw_cons {c : UInt8} {t : List UInt8} (h : c ≠ 61) : tw (c :: t) = c :: tw t := by unfold tw; rw [List.takeWhile_cons_of_pos (by simpa using h)]
theorem tw_stop {c : UInt8} {t : List UInt8} (h : c = 61) : tw (c :: t) = [] := by unfold tw; rw [List.takeWhile_cons_of_neg (by simpa using h)]
theorem tw_le (l : List UInt8) : (tw l).length ≤ l.length := (List.takeWhile_sublist _).length_le

theorem andr0 (u v : Nat) (h : u < 64) (hv : v < 64) : bits .and .i64 (64 * (u : Int) + (v : Int)) 0 = 0 := by have := andu0 u v h hv; rwa [Int.mul_comm] at this
theorem andr3 (u v : Nat) (h : u < 64) (hv : v < 64) : bits .and .i64 (64 * (u : Int) + (v : Int)) 3 = (((u * 64 + v) % 4 : Nat) : Int) := by have := andu3 u v h hv; rwa [Int.mul_comm] at this
theorem andr15 (u v : Nat) (h : u < 64) (hv : v < 64) : bits .and .i64 (64 * (u : Int) + (v : Int)) 15 = (((u * 64 + v) % 16 : Nat) : Int) := by have := andu15 u v h hv; rwa [Int.mul_comm] at this
set_option maxHeartbeats 4000000 in
set_option maxRecDepth 1000000 in
theorem rdecode_any (s : ByteArray) (w : World) (hs : s.size ≤ 8388608) :
    Calls Tryd.prog 13 #[.string s] w (Dec64 w s.data.toList) := by
  go_enter Tryd.func13, Tryd.ntmps13
  go_wp2
  go_loopw [4, 5, 6, 7] (fun v n many i wr => ∃ (pos k u : Nat) (a' : Option Addr) (cap' : Nat) (acc : List UInt8), pos ≤ s.size ∧ (k = 0 ∧ u = 0 ∨ k = 2 ∧ u < 4 ∨ k = 4 ∧ u < 16 ∨ k = 6 ∧ u < 64) ∧ v = .slice a' acc.length cap' ∧ n = .int .i64 u ∧ many = .int .i64 k ∧ i = .int .i64 pos ∧ OB w wr a' cap' acc ∧ dec acc u k (tw (s.data.toList.drop pos)) = dec [] 0 0 (tw s.data.toList) ∧ acc.length ≤ pos) (fun v n many i wr => s.size - (intOf i).toNat)
  case atStart =>
    exact ⟨0, 0, 0, _, 0, [], by omega, .inl ⟨rfl, rfl⟩, rfl, rfl, rfl, rfl, OB.made w #[] 0 (by unfold maxLen; omega) rfl, rfl, by simp⟩
  case round =>
    obtain ⟨pos, k, u, a', cap', acc, hps, hk, rfl, rfl, rfl, rfl, hob, hdec, hal⟩ := hrel
    have fin : dec [] 0 0 (tw s.data.toList) = some acc → Calls Tryd.prog 14 #[.slice a' acc.length cap'] wr fun e w' => e = .returned (.string ⟨(enc acc).toArray⟩) ∧ Below wr.heap.size wr w' := fun _ => rencode_any _ _ _ _ hob.cap.1 hob.cap.2 (by omega) hob.cells
    by_cases hp : pos < s.size ∧ s.data.toList[pos]? ≠ some 61
    · obtain ⟨hp, hn61⟩ := hp
      have hc61 : s[pos]'hp ≠ 61 := fun e => hn61 (by rw [List.getElem?_eq_getElem (by simpa using hp)]; exact congrArg some e)
      rw [drop_at s pos hp, tw_cons hc61] at hdec
      have hne : (((s[pos]'hp).toNat : Int) != 61) = true := by
        simp only [bne_iff_ne, ne_eq]
        intro e
        exact hc61 (UInt8.toNat_inj.1 (by have e' : (s[pos]'hp).toNat = 61 := by omega
                                          exact e'))
      clear hn61 fin
      obtain ⟨c, hcd⟩ : ∃ c, s[pos]'hp = c := ⟨_, rfl⟩
      rw [hcd] at hdec hne hc61
      have hv1 := val_lt c.toNat
      have hv2 := val_ge c.toNat
      by_cases hv : val c.toNat < 0
      · rw [dec_none hv] at hdec
        have HD := Lib.hid hdec
        have HN := Lib.hid hne
        clear hdec hc61
        go_wp2_with (go_at_call 33; refine (value_any c _).mono ?_; rintro e w' ⟨rfl, rfl⟩)
        go_ret2
        refine .inr ⟨fun l e => ?_, rfl, hob.bel⟩
        have h2 := HD.out
        unfold tw at h2
        rw [← e, take_enc, dec_lets] at h2
        cases h2
      · have h0 : 0 ≤ val c.toNat := by omega
        have HN := Lib.hid hc61
        clear hc61
        rcases hk with ⟨rfl, rfl⟩ | ⟨rfl, hu⟩ | ⟨rfl, hu⟩ | ⟨rfl, hu⟩
        · rw [dec_few hv rfl] at hdec
          generalize hx : val c.toNat = x at *
          have HX := Lib.hid hx
          clear hx
          obtain ⟨v, rfl⟩ : ∃ v : Nat, x = v := ⟨x.toNat, by omega⟩
          rw [show 0 * 64 + (v : Int).toNat = v by omega] at hdec
          have HD := Lib.hid hdec
          clear hdec
          go_wp2_with (go_at_call 33; refine (value_any c _).mono ?_; rintro e w' ⟨rfl, rfl⟩; have hh := HX.out; rw [hh])
          refine ⟨⟨pos + 1, 6, v, a', cap', acc, by omega, .inr (.inr (.inr ⟨rfl, by omega⟩)), rfl, rfl, rfl, by go_num, hob, HD.out, by omega⟩, by simp [intOf]; omega⟩
        · rw [dec_more hv (by omega)] at hdec
          generalize hx : val c.toNat = x at *
          have HX := Lib.hid hx
          clear hx
          obtain ⟨v, rfl⟩ : ∃ v : Nat, x = v := ⟨x.toNat, by omega⟩
          rw [show u * 64 + (v : Int).toNat = u * 64 + v by omega, show 2 ^ (2 - 2) = 1 by rfl, show 2 - 2 = 0 from rfl] at hdec
          have HD := Lib.hid hdec
          clear hdec
          have hm := andr0 u v (by omega) (by omega)
          have hcc : ((UInt8.ofNat ((u * 64 + v) / 1)).toNat : Int) = (64 * (u : Int) + v) / 1 := by rw [toNat_ofNat_mod]; omega
          have HCC := Lib.hid hcc
          clear hcc
          go_wp2_with (first | (go_at_call 33; refine (value_any c _).mono ?_; rintro e w' ⟨rfl, rfl⟩; have hh := HX.out; rw [hh]) | (at_builtin; refine wpL_obx (UInt8.ofNat ((u * 64 + v) / 1)) rfl rfl rfl (by assumption) rfl rfl (by first | exact HCC.out | (have := HCC.out; omega)) (by omega) ?_; intro a2 cap2 w2 hob3 hk3))
          refine ⟨⟨pos + 1, 0, 0, a2, cap2, acc ++ [UInt8.ofNat ((u * 64 + v) / 1)], by omega, .inl ⟨rfl, rfl⟩, slice_eq (by simp), rfl, rfl, by go_num, hob3, by have := HD.out; rwa [Nat.mod_one] at this, by simp; omega⟩, by simp [intOf]; omega⟩
        · rw [dec_more hv (by omega)] at hdec
          generalize hx : val c.toNat = x at *
          have HX := Lib.hid hx
          clear hx
          obtain ⟨v, rfl⟩ : ∃ v : Nat, x = v := ⟨x.toNat, by omega⟩
          rw [show u * 64 + (v : Int).toNat = u * 64 + v by omega, show 2 ^ (4 - 2) = 4 by rfl, show 4 - 2 = 2 from rfl] at hdec
          have HD := Lib.hid hdec
          clear hdec
          have hm := andr3 u v (by omega) (by omega)
          have hcc : ((UInt8.ofNat ((u * 64 + v) / 4)).toNat : Int) = (64 * (u : Int) + v) / 4 := by rw [toNat_ofNat_mod]; omega
          have HCC := Lib.hid hcc
          clear hcc
          go_wp2_with (first | (go_at_call 33; refine (value_any c _).mono ?_; rintro e w' ⟨rfl, rfl⟩; have hh := HX.out; rw [hh]) | (at_builtin; refine wpL_obx (UInt8.ofNat ((u * 64 + v) / 4)) rfl rfl rfl (by assumption) rfl rfl (by first | exact HCC.out | (have := HCC.out; omega)) (by omega) ?_; intro a2 cap2 w2 hob3 hk3))
          refine ⟨⟨pos + 1, 2, (u * 64 + v) % 4, a2, cap2, acc ++ [UInt8.ofNat ((u * 64 + v) / 4)], by omega, .inr (.inl ⟨rfl, by omega⟩), slice_eq (by simp), by go_num, rfl, by go_num, hob3, HD.out, by simp; omega⟩, by simp [intOf]; omega⟩
        · rw [dec_more hv (by omega)] at hdec
          generalize hx : val c.toNat = x at *
          have HX := Lib.hid hx
          clear hx
          obtain ⟨v, rfl⟩ : ∃ v : Nat, x = v := ⟨x.toNat, by omega⟩
          rw [show u * 64 + (v : Int).toNat = u * 64 + v by omega, show 2 ^ (6 - 2) = 16 by rfl, show 6 - 2 = 4 from rfl] at hdec
          have HD := Lib.hid hdec
          clear hdec
          have hm := andr15 u v (by omega) (by omega)
          have hcc : ((UInt8.ofNat ((u * 64 + v) / 16)).toNat : Int) = (64 * (u : Int) + v) / 16 := by rw [toNat_ofNat_mod]; omega
          have HCC := Lib.hid hcc
          clear hcc
          go_wp2_with (first | (go_at_call 33; refine (value_any c _).mono ?_; rintro e w' ⟨rfl, rfl⟩; have hh := HX.out; rw [hh]) | (at_builtin; refine wpL_obx (UInt8.ofNat ((u * 64 + v) / 16)) rfl rfl rfl (by assumption) rfl rfl (by first | exact HCC.out | (have := HCC.out; omega)) (by omega) ?_; intro a2 cap2 w2 hob3 hk3))
          refine ⟨⟨pos + 1, 4, (u * 64 + v) % 16, a2, cap2, acc ++ [UInt8.ofNat ((u * 64 + v) / 16)], by omega, .inr (.inr (.inl ⟨rfl, by omega⟩)), slice_eq (by simp), by go_num, rfl, by go_num, hob3, HD.out, by simp; omega⟩, by simp [intOf]; omega⟩
    · have hfin : dec [] 0 0 (tw s.data.toList) = some acc := by
        rw [← hdec]
        by_cases h1 : pos < s.size
        · have h2 : s.data.toList[pos]? = some 61 := Classical.byContradiction fun h => hp ⟨h1, h⟩
          rw [drop_at s pos h1, tw_stop (by rw [List.getElem?_eq_getElem (by simpa using h1)] at h2; exact Option.some.inj h2), dec]
        · rw [List.drop_eq_nil_of_le (by simpa using h1)]; rfl
      have fin' := fin hfin
      have HP := Lib.hid hfin
      have hcs : (∃ h : pos < s.size, (((s[pos]'h).toNat : Int) != 61) = false) ∨ ¬ pos < s.size := by
        by_cases h1 : pos < s.size
        · have h2 : s.data.toList[pos]? = some 61 := Classical.byContradiction fun h => hp ⟨h1, h⟩
          rw [List.getElem?_eq_getElem (by simpa using h1)] at h2
          have h3 : s[pos]'h1 = 61 := Option.some.inj h2
          exact .inl ⟨h1, by rw [h3]; rfl⟩
        · exact .inr h1
      clear fin hfin hdec hp
      by_cases he : enc acc = s.data.toList
      · have hne : (enc acc == s.toList) = true := by rw [he, beq_iff_eq]; exact (Lib.toList_data s).symm
        have HE := Lib.hid he
        clear he
        rcases hcs with ⟨hp, hz⟩ | hp
        all_goals
          go_wp2_with (go_at_call 14; refine fin'.mono ?_; rintro e w2 ⟨rfl, hb⟩)
          go_ret2
          exact .inl ⟨acc, _, _, HE.out, rfl, hob.below hb⟩
      · have hne : (enc acc == s.toList) = false := by
          rw [beq_eq_false_iff_ne]
          intro e
          exact he (e.trans (Lib.toList_data s))
        have hno : ∀ l, enc l ≠ s.data.toList := by
          intro l e
          have h2 := HP.out
          unfold tw at h2
          rw [← e, take_enc, dec_lets] at h2
          apply he
          rw [← e]
          congr 1
          simpa using (Option.some.inj h2).symm
        have HNO := Lib.hid hno
        clear he hno
        rcases hcs with ⟨hp, hz⟩ | hp
        all_goals
          go_wp2_with (go_at_call 14; refine fin'.mono ?_; rintro e w2 ⟨rfl, hb⟩)
          go_ret2
          exact .inr ⟨HNO.out, rfl, hob.bel.trans (hb.mono hob.size)⟩
end Go.Proofs.YtdikgifgapbocaaDoor
