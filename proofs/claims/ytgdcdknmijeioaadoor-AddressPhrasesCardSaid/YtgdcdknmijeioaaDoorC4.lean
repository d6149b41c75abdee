/- strings.Cut at the @; isAtom, isLabel. -/
import Derived.Test.YtgdcdknmijeioaaDoorC3
import Derived.Deep.RegionHeld3
import Derived.Laws.DeepStrings4
set_option linter.unusedSimpArgs false
set_option linter.unusedVariables false
namespace Go.Proofs.YtgdcdknmijeioaaDoor
open Go.RowKit Go.Shelf

theorem tw_all (p : UInt8 → Bool) (l : List UInt8) (h : l.all p = true) : l.takeWhile p = l := by
  induction l with
  | nil => rfl
  | cons c t ih =>
    simp at h
    rw [List.takeWhile_cons, if_pos h.1, ih (by simpa using h.2)]
theorem tw_some (p : UInt8 → Bool) (l : List UInt8) (h : l.all p = false) : (l.takeWhile p).length < l.length := by
  induction l with
  | nil => simp at h
  | cons c t ih =>
    rw [List.takeWhile_cons]
    split
    · rename_i hc
      have := ih (by simpa [hc] using h)
      simp; omega
    · simp
theorem of_list (s : ByteArray) : s = ⟨s.data.toList.toArray⟩ := by cases s; simp
theorem isEmpty_cons {s : ByteArray} {c : UInt8} {t : List UInt8} (h : s.data.toList = c :: t) : s.toList.isEmpty = false := by rw [Lib.toList_data, h]; rfl
set_option maxHeartbeats 1000000 in
theorem isAtom_any (s : ByteArray) (hs : s.size ≤ 9223372036854775807) (w : World) :
    Calls Tryd.prog 28 #[.string s] w fun e w' => e = .returned (.bool (atomP s.data.toList)) ∧ w' = w := by
  have c1 := fun w => count_ab s hs w
  have hsz := Lib.size_eq s
  cases hl : s.data.toList with
  | nil =>
    obtain rfl : s = ⟨#[]⟩ := by rw [of_list s, hl]
    clear c1 hsz hl hs
    go_enter Tryd.func28, Tryd.ntmps28
    go_wp2
    go_ret
    exact ⟨rfl, rfl⟩
  | cons c t =>
    have he := isEmpty_cons hl
    rw [hl] at c1 hsz
    unfold atomP
    cases ha : (c :: t).all abB
    · have hlt := tw_some abB _ ha
      rw [← hsz] at hlt
      clear hl hsz
      generalize ((c :: t).takeWhile abB).length = n at *
      have h1 : (n : Int) < s.size := by omega
      have h2 : ¬ (n : Int) = s.size := by omega
      have h3 : ((n : Int) == s.size) = false := by simpa using h2
      clear hlt
      go_enter Tryd.func28, Tryd.ntmps28
      go_wp2_with (go_at_call 41; refine (c1 _).mono ?_; rintro e w' ⟨rfl, rfl⟩)
      go_ret
      exact ⟨rfl, rfl⟩
    · rw [tw_all abB _ ha, ← hsz] at c1
      clear hl hsz
      go_enter Tryd.func28, Tryd.ntmps28
      go_wp2_with (go_at_call 41; refine (c1 _).mono ?_; rintro e w' ⟨rfl, rfl⟩)
      go_ret
      exact ⟨rfl, rfl⟩
theorem label_eq (c : UInt8) (t : List UInt8) (d : UInt8) (hd : (c :: t).getLast? = some d) : labelP (c :: t) = ((c :: t).all lbB && !(c == 45) && !(d == 45)) := by
  unfold labelP
  rw [hd]
  generalize (c :: t).all lbB = q
  simp only [List.isEmpty_cons, List.head?_cons]
  by_cases h1 : c = 45 <;> by_cases h2 : d = 45 <;> cases q <;> simp [h1, h2, bne]
set_option maxHeartbeats 1000000 in
theorem isLabel_any (s : ByteArray) (hs : s.size ≤ 9223372036854775807) (w : World) :
    Calls Tryd.prog 29 #[.string s] w fun e w' => e = .returned (.bool (labelP s.data.toList)) ∧ w' = w := by
  have c1 := fun w => count_lb s hs w
  have hsz := Lib.size_eq s
  cases hl : s.data.toList with
  | nil =>
    obtain rfl : s = ⟨#[]⟩ := by rw [of_list s, hl]
    clear c1 hsz hl hs
    go_enter Tryd.func29, Tryd.ntmps29
    go_wp2
    go_ret
    exact ⟨rfl, rfl⟩
  | cons c t =>
    have he := isEmpty_cons hl
    rw [hl] at c1 hsz
    rw [List.length_cons] at hsz
    have hpos : 0 < s.size := by omega
    have g0 : s[0]'hpos = c := by
      have : s.data.toList[0]'(by rw [hl]; simp) = c := by simp [hl]
      exact this
    obtain ⟨d, hd⟩ : ∃ d, (c :: t).getLast? = some d := Option.isSome_iff_exists.1 (by simp)
    have g1 : s[s.size - 1]'(by omega) = d := by
      have h1 : (c :: t)[s.size - 1]? = some d := by rw [← hd, List.getLast?_eq_getElem?, hsz, List.length_cons]
      rw [← hl] at h1
      have h2 := List.getElem?_eq_some_iff.1 h1
      exact h2.2
    rw [label_eq c t d hd]
    cases ha : (c :: t).all lbB
    · have hlt := tw_some lbB _ ha
      rw [List.length_cons, ← hsz] at hlt
      clear hl g0 g1 hpos
      generalize ((c :: t).takeWhile lbB).length = n at *
      have h1 : (n : Int) < s.size := by omega
      have h2 : ¬ (n : Int) = s.size := by omega
      have h3 : ((n : Int) == s.size) = false := by simpa using h2
      clear hlt
      go_enter Tryd.func29, Tryd.ntmps29
      go_wp2_with (go_at_call 41; refine (c1 _).mono ?_; rintro e w' ⟨rfl, rfl⟩)
      go_ret
      exact ⟨rfl, rfl⟩
    · rw [tw_all lbB _ ha, List.length_cons, ← hsz] at c1
      rw [show (45 : UInt8) = UInt8.ofNat 45 from rfl, eq_nat c 45 (by omega), eq_nat d 45 (by omega)]
      have hc := c.toNat_lt
      have hd := d.toNat_lt
      have g2 : s[t.length]'(by omega) = d := by
        have : s.size - 1 = t.length := by omega
        simpa [this] using g1
      have hw : wrap64 (t.length : Int) = t.length := by
        unfold wrap64; omega
      clear hl g1
      go_enter Tryd.func29, Tryd.ntmps29
      go_wp2_with (go_at_call 41; refine (c1 _).mono ?_; rintro e w' ⟨rfl, rfl⟩)
      all_goals
        go_ret
        refine ⟨ret_bool ?_, rfl⟩
        first | rfl | simp_all [bne]
end Go.Proofs.YtgdcdknmijeioaaDoor
