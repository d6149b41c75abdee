/- The document's Path. -/
import Derived.Test.YtgdcdknmijeioaaDoorR3
set_option linter.unusedSimpArgs false
set_option linter.unusedVariables false
namespace Go.Proofs.YtgdcdknmijeioaaDoor
open Go.RowKit Go.Shelf

theorem mid_short {l : List UInt8} (h : l.length < 2) : mid l = none := by
  match l, h with
  | [], _ => rfl
  | [c], _ => simp [mid]
theorem mid_long (l : List UInt8) (m : Nat) (h : l.length = m + 2) : mid l = if l[0]'(by omega) = 60 ∧ l[m + 1]'(by omega) = 62 then some ((l.take (m + 1)).drop 1) else none := by
  cases l with
  | nil => simp at h
  | cons c t =>
    simp at h
    have h1 : t.getLast? = some (t[m]'(by omega)) := by
      have h3 : t.length - 1 = m := by omega
      rw [List.getLast?_eq_getElem?, h3]
      exact List.getElem?_eq_getElem _
    have h2 : t.dropLast = t.take m := by rw [List.dropLast_eq_take, h]; simp
    simp only [mid]
    rw [h1, h2]
    simp
set_option maxHeartbeats 2000000 in
theorem rpath_any (s : ByteArray) (hs : s.size ≤ 9223372036854775807) (w : World) :
    Calls Tryd.prog 11 #[.string s] w fun e w' => e = .returned (patV s.data.toList) ∧ Below w.heap.size w w' := by
  have hb0 : Below w.heap.size w (w.alloc (.cells #[.string ⟨#[]⟩, .string ⟨#[]⟩, .string ⟨#[]⟩] 23)) := (Below.refl _ _).alloc (Nat.le_refl _) _
  have hh0 : (w.alloc (.cells #[.string ⟨#[]⟩, .string ⟨#[]⟩, .string ⟨#[]⟩] 23)).heap[w.heap.size]? = some (.cells #[.string ⟨#[]⟩, .string ⟨#[]⟩, .string ⟨#[]⟩] 23) := heap_alloc_new w _
  have hz0 : w.heap.size < (w.alloc (.cells #[.string ⟨#[]⟩, .string ⟨#[]⟩, .string ⟨#[]⟩] 23)).heap.size := by simp
  by_cases h0 : s.data.toList = [60, 62]
  · obtain rfl : s = ⟨#[60, 62]⟩ := by rw [of_list s, h0]
    go_enter Tryd.func11, Tryd.ntmps11
    go_wp2
    refine bodyPost_ret (results_A2 Tryd.results11 rfl rfl (heap_alloc_new w _) rfl) rfl ?_
    exact ⟨rfl, (Below.refl _ _).alloc (Nat.le_refl _) _⟩
  · have hne : (s.toList == [60, 62]) = false := by
      rw [Lib.toList_data, beq_eq_false_iff_ne]
      exact h0
    have hsz := Lib.size_eq s
    have hv : patV s.data.toList = match mid s.data.toList with | some m => parV m | none => .tuple #[adV [] [] [], .int .i64 90] := by unfold patV; rw [if_neg h0]; rfl
    clear h0
    by_cases hlen : s.size < 2
    · have HR : Hid (patV s.data.toList = .tuple #[adV [] [] [], .int .i64 90]) := Lib.hid (by rw [hv, mid_short (by omega)])
      have h1 : (s.size : Int) < 2 := by omega
      clear hv hsz hlen
      go_enter Tryd.func11, Tryd.ntmps11
      go_wp2_with (refine wpL_storeA rfl (.tmp 2) (.tmp 23) rfl rfl rfl hh0 rfl rfl (by simp [Value.oneCell']) hb0 (Nat.le_refl _) ?_; intro w3 h3 b3 _ _)
      refine bodyPost_ret (results_A2 Tryd.results11 rfl rfl h3 rfl) rfl ?_
      exact ⟨by rw [HR.out]; rfl, b3⟩
    · obtain ⟨m, hm⟩ : ∃ m, s.size = m + 2 := ⟨s.size - 2, by omega⟩
      have hml := mid_long s.data.toList m (by omega)
      have hp0 : 0 < s.size := by omega
      have hp1 : m + 1 < s.size := by omega
      have x0 : s[0]'hp0 = s.data.toList[0]'(by rw [← Lib.size_eq]; omega) := rfl
      have x1 : s[m + 1]'hp1 = s.data.toList[m + 1]'(by rw [← Lib.size_eq]; omega) := rfl
      have hx : (⟨((s.data.toList.take (m + 1)).drop 1).toArray⟩ : ByteArray) = s.extract 1 (m + 1) := by
        have e : (s.extract 1 (m + 1)).data.toList = (s.data.toList.take (m + 1)).drop 1 := by
          rw [← Lib.toList_data, Lib.extract_toList, List.drop_take]
        rw [← e]
      have c3 := rparse_any (s.extract 1 (m + 1)) (by rw [← hx]; show (((s.data.toList.take (m + 1)).drop 1).toArray).size ≤ _; rw [List.size_toArray, List.length_drop, List.length_take]; omega)
      rw [← hx] at c3
      simp only [str_data] at c3
      have h1 : ¬ (m : Int) + 2 < 2 := by omega
      have hw : wrap64 ((m : Int) + 1) = (m : Int) + 1 := by unfold wrap64; omega
      have hw2 : wrap64 ((m : Int) + 2 - 1) = (m : Int) + 1 := by unfold wrap64; omega
      have ht : ((m : Int) + 1).toNat = m + 1 := by omega
      have hl2 : (m : Int) + 1 < (m : Int) + 2 := by omega
      have hl3 : (m : Int) + 1 ≤ (m : Int) + 2 := by omega
      have hl4 : (1 : Int) ≤ (m : Int) + 1 := by omega
      rw [hml] at hv
      clear hml
      by_cases e0 : s.data.toList[0]'(by rw [← Lib.size_eq]; omega) = 60
      · by_cases e1 : s.data.toList[m + 1]'(by rw [← Lib.size_eq]; omega) = 62
        · have HR : Hid (patV s.data.toList = parV ((s.data.toList.take (m + 1)).drop 1)) := Lib.hid (by rw [hv, if_pos ⟨e0, e1⟩])
          have b0 := bne_yes (show ((s.data.toList[0]'(by rw [← Lib.size_eq]; omega)).toNat : Int) = 60 by rw [e0]; rfl)
          have b1 := bne_yes (show ((s.data.toList[m + 1]'(by rw [← Lib.size_eq]; omega)).toNat : Int) = 62 by rw [e1]; rfl)
          rw [hx] at c3
          obtain ⟨n', a', d', k', hp⟩ := parV_form ((s.data.toList.take (m + 1)).drop 1)
          have HP := Lib.hid hp
          clear hp
          generalize parV ((s.data.toList.take (m + 1)).drop 1) = rv at *
          clear hv e0 e1 hx
          generalize s.data.toList[0]'(by rw [← Lib.size_eq]; omega) = y0 at *
          generalize s.data.toList[m + 1]'(by rw [← Lib.size_eq]; omega) = y1 at *
          clear hsz
          go_enter Tryd.func11, Tryd.ntmps11
          go_wp2_with fail
          refine (c3 _).mono ?_; rintro e w1 ⟨rfl, b1'⟩
          have B1 := hb0.trans (b1'.mono (Nat.le_of_lt hz0))
          have H1 := (b1'.block _ hz0).trans hh0
          clear b1' hb0 hh0 hz0 c3
          have HR' := Lib.hid (HR.out.trans HP.out)
          rw [HP.out]
          clear HR HP
          unfold adV at HR' ⊢
          go_wp2_with (refine wpL_storeA rfl (.tmp 2) (.tmp 30) rfl rfl rfl H1 rfl rfl (by simp [Value.oneCell']) B1 (Nat.le_refl _) ?_; intro w3 h3 b3 _ _)
          refine bodyPost_ret (results_A2 Tryd.results11 rfl rfl h3 rfl) rfl ?_
          exact ⟨by rw [HR'.out]; rfl, b3⟩
        · have HR : Hid (patV s.data.toList = .tuple #[adV [] [] [], .int .i64 90]) := Lib.hid (by rw [hv, if_neg (fun h => e1 h.2)])
          have b0 := bne_yes (show ((s.data.toList[0]'(by rw [← Lib.size_eq]; omega)).toNat : Int) = 60 by rw [e0]; rfl)
          have b1 := bne_no (show ¬ ((s.data.toList[m + 1]'(by rw [← Lib.size_eq]; omega)).toNat : Int) = 62 from nat_ne e1)
          clear hv e0 e1 c3 hx
          generalize s.data.toList[0]'(by rw [← Lib.size_eq]; omega) = y0 at *
          generalize s.data.toList[m + 1]'(by rw [← Lib.size_eq]; omega) = y1 at *
          clear hsz
          go_enter Tryd.func11, Tryd.ntmps11
          go_wp2_with (refine wpL_storeA rfl (.tmp 2) (.tmp 23) rfl rfl rfl hh0 rfl rfl (by simp [Value.oneCell']) hb0 (Nat.le_refl _) ?_; intro w3 h3 b3 _ _)
          refine bodyPost_ret (results_A2 Tryd.results11 rfl rfl h3 rfl) rfl ?_
          exact ⟨by rw [HR.out]; rfl, b3⟩
      · have HR : Hid (patV s.data.toList = .tuple #[adV [] [] [], .int .i64 90]) := Lib.hid (by rw [hv, if_neg (fun h => e0 h.1)])
        have b0 := bne_no (show ¬ ((s.data.toList[0]'(by rw [← Lib.size_eq]; omega)).toNat : Int) = 60 from nat_ne e0)
        clear hv e0 c3 hx
        generalize s.data.toList[0]'(by rw [← Lib.size_eq]; omega) = y0 at *
        clear hsz x1
        go_enter Tryd.func11, Tryd.ntmps11
        go_wp2_with (refine wpL_storeA rfl (.tmp 2) (.tmp 23) rfl rfl rfl hh0 rfl rfl (by simp [Value.oneCell']) hb0 (Nat.le_refl _) ?_; intro w3 h3 b3 _ _)
        refine bodyPost_ret (results_A2 Tryd.results11 rfl rfl h3 rfl) rfl ?_
        exact ⟨by rw [HR.out]; rfl, b3⟩
end Go.Proofs.YtgdcdknmijeioaaDoor
