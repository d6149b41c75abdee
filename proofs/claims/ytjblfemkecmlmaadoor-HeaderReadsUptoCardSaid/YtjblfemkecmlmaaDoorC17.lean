/- The document's way with lines: where a line ends; blanks. -/
import Derived.Test.YtjblfemkecmlmaaDoorC14
import Derived.Test.YtjblfemkecmlmaaDoorQ8
set_option linter.unusedSimpArgs false
set_option linter.unusedVariables false
namespace Go.Proofs.YtjblfemkecmlmaaDoor
open Go.RowKit Go.Shelf

theorem dblank_any (c : UInt8) (w : World) : Calls Tryd.prog 25 #[.int .u8 c.toNat] w fun e w' => e = .returned (.bool (blB c)) ∧ w' = w := by
  by_cases h1 : c = 32
  · subst h1
    go_enter Tryd.func25, Tryd.ntmps25
    go_wp2
    go_ret
    exact ⟨rfl, rfl⟩
  · have f1 : ¬ (c.toNat : Int) = 32 := nat_ne h1
    have e1 := beq_no f1
    by_cases h2 : c = 9
    · subst h2
      go_enter Tryd.func25, Tryd.ntmps25
      go_wp2
      go_ret
      exact ⟨rfl, rfl⟩
    · have f2 : ¬ (c.toNat : Int) = 9 := nat_ne h2
      have e2 := beq_no f2
      have hb : blB c = false := by simp [blB, h1, h2]
      rw [hb]
      have hc := c.toNat_lt
      clear h1 h2 hb
      go_enter Tryd.func25, Tryd.ntmps25
      go_wp2
      go_ret
      exact ⟨rfl, rfl⟩
set_option maxHeartbeats 4000000 in
set_option maxRecDepth 100000 in
theorem line_any (a : Option Addr) (s : List UInt8) (n cap at_ : Nat) (hs : s.length = n) (hn : n ≤ 1048576) (hat : at_ ≤ n) (w : World) (hB : Bs w a s) :
    Calls Tryd.prog 23 #[.slice a n cap, .int .i64 (at_ : Int)] w fun e w' => e = .returned (.tuple #[.int .i64 ((at_ + (lb (s.drop at_)).1.length : Nat) : Int), .int .i64 ((at_ + (lnL (s.drop at_)).length : Nat) : Int)]) ∧ w' = w := by
  generalize hE : at_ + (lb (s.drop at_)).1.length = E
  generalize hN : at_ + (lnL (s.drop at_)).length = N
  go_enter Tryd.func23, Tryd.ntmps23
  go_wp2_with fail
  go_loopw [6] (fun v6 wr => ∃ i : Nat, v6 = .int .i64 i ∧ at_ ≤ i ∧ i ≤ n ∧ wr = w ∧ Hid (LnI s at_ i)) (fun v6 wr => n - (intOf v6).toNat)
  case atStart => exact ⟨at_, rfl, Nat.le_refl _, hat, rfl, Lib.hid (LnI.start _ _)⟩
  case round =>
    obtain ⟨i, rfl, hi, hin, rfl, HI⟩ := hrel
    by_cases hlt : i + 1 < n
    · have h0 : i < s.length := by omega
      have h1 : i + 1 < s.length := by omega
      obtain ⟨b, off, rfl, hb, r0⟩ := hB i s[i] (List.getElem?_eq_getElem h0)
      obtain ⟨b', off', e', _, r1⟩ := hB (i + 1) s[i + 1] (List.getElem?_eq_getElem h1)
      injection e' with e'
      injection e' with e1 e2 e3
      subst e1 e2
      have hw : IntKind.i64.wrap ((i : Int) + 1) = (i : Int) + 1 := wrapI (by omega) (by omega)
      have hlt' : (i : Int) + 1 < n := by omega
      have r1' : wr.cell? ⟨b, off + (i + 1), none⟩ = some (.int .u8 (s[i + 1]).toNat) := r1
      have hc0 := (s[i]).toNat_lt
      have hc1 := (s[i + 1]).toNat_lt
      have hnx := HI.out.next hi h0
      have hfd := HI.out.found hi h0
      rw [List.getElem?_eq_getElem h1] at hnx hfd
      clear HI r1
      generalize s[i] = c at *
      generalize s[i + 1] = d at *
      by_cases hc : c = 13
      · subst hc
        by_cases hd : d = 10
        · subst hd
          have hf := hfd ⟨rfl, rfl⟩
          rw [hE, hN] at hf
          clear hfd hnx hB hE hN
          obtain ⟨rfl, rfl⟩ := hf
          go_wp2_with fail
          go_ret2
          exact ⟨rfl, rfl⟩
        · have hh := Lib.hid (hnx (by rintro ⟨_, h⟩; exact hd (Option.some.inj h)))
          have f1 : ¬ (d.toNat : Int) = 10 := nat_ne hd
          have f2 := beq_no f1
          clear hfd hnx hB hE hN hd
          go_wp2_with fail
          exact ⟨⟨i + 1, by go_num, by omega, by omega, trivial, hh⟩, by simp [intOf]; omega⟩
      · have hh := Lib.hid (hnx (by rintro ⟨h, _⟩; exact hc h))
        have f1 : ¬ (c.toNat : Int) = 13 := nat_ne hc
        have f2 := beq_no f1
        clear hfd hnx hB hE hN hc
        go_wp2_with fail
        exact ⟨⟨i + 1, by go_num, by omega, by omega, trivial, hh⟩, by simp [intOf]; omega⟩
    · have hf := HI.out.over hi (by omega) (by omega)
      rw [hE, hN] at hf
      have hw : IntKind.i64.wrap ((i : Int) + 1) = (i : Int) + 1 := wrapI (by omega) (by omega)
      have hlt' : ¬ (i : Int) + 1 < n := by omega
      have h1 : n = E := by omega
      have h2 : n = N := by omega
      clear HI hf hE hN hB hs
      subst h1
      subst h2
      go_wp2_with fail
      go_ret2
      exact ⟨rfl, rfl⟩
def stLen : Value → Nat
  | .string s => s.size
  | _ => 0
theorem tL_cons (c : UInt8) (t : List UInt8) : tL (c :: t) = if blB c = true then tL t else c :: t := by
  unfold tL
  rw [List.dropWhile_cons]
theorem tR_snoc (t : List UInt8) (c : UInt8) : tR (t ++ [c]) = if blB c = true then tR t else t ++ [c] := by
  unfold tR
  rw [List.reverse_append, show [c].reverse = [c] from rfl, List.singleton_append, List.dropWhile_cons]
  split
  · rfl
  · rw [List.reverse_cons, List.reverse_reverse]
theorem snoc_or (x : List UInt8) : x = [] ∨ ∃ t c, x = t ++ [c] := by
  by_cases h : x = []
  · exact .inl h
  · exact .inr ⟨x.dropLast, x.getLast h, (List.dropLast_concat_getLast h).symm⟩
theorem list_of (sv : ByteArray) : sv = ⟨sv.data.toList.toArray⟩ := by
  apply ByteArray.ext
  simp
set_option maxHeartbeats 4000000 in
set_option maxRecDepth 100000 in
theorem dtrim_any (l : List UInt8) (hl : l.length ≤ 9223372036854775807) (w : World) :
    Calls Tryd.prog 52 #[.string ⟨l.toArray⟩] w fun e w' => e = .returned (.string ⟨(trm l).toArray⟩) ∧ w' = w := by
  have cB := fun (c : UInt8) w => dblank_any c w
  have H0 : Hid (tL l = tL l) := Lib.hid rfl
  unfold trm
  generalize hT : tL l = T at *
  go_enter Tryd.func52, Tryd.ntmps52
  go_wp2_with fail
  go_loopw [0] (fun v0 wr => ∃ x : List UInt8, v0 = .string ⟨x.toArray⟩ ∧ wr = w ∧ Hid (tL x = T ∧ x.length ≤ 9223372036854775807)) (fun v0 wr => stLen v0)
  case atStart => exact ⟨l, rfl, rfl, Lib.hid ⟨hT, hl⟩⟩
  case round =>
    obtain ⟨x, rfl, rfl, HX⟩ := hrel
    have key : (∃ c t, x = c :: t ∧ blB c = true) ∨ (x = [] ∧ T = []) ∨ (∃ c t, x = c :: t ∧ blB c = false ∧ T = c :: t) := by
      obtain ⟨hx, _⟩ := HX.out
      cases x with
      | nil => exact .inr (.inl ⟨rfl, hx.symm⟩)
      | cons c t =>
        rw [tL_cons] at hx
        cases hb : blB c
        · rw [hb] at hx; exact .inr (.inr ⟨c, t, rfl, hb, hx.symm⟩)
        · exact .inl ⟨c, t, rfl, hb⟩
    rcases key with ⟨c, t, rfl, hb⟩ | key
    · obtain ⟨hx, hxl⟩ := HX.out
      rw [tL_cons] at hx
      have hz : (⟨(c :: t).toArray⟩ : ByteArray).size = t.length + 1 := rfl
      have e2 := str_drop (c :: t) 1
      rw [show (c :: t).length = t.length + 1 from rfl, show (c :: t).drop 1 = t from rfl] at e2
      have hsn : ∀ h, (⟨(c :: t).toArray⟩ : ByteArray)[0]'h = c := fun h => rfl
      have h1 : (0 : Int) < t.length + 1 := by omega
      have c1 := fun w => cB c w
      simp only [List.length_cons] at hxl
      have hst : stLen (.string ⟨t.toArray⟩) < stLen (.string ⟨(c :: t).toArray⟩) := by show t.length < t.length + 1; omega
      generalize (⟨(c :: t).toArray⟩ : ByteArray) = sv at *
      rw [hb] at c1 hx
      simp only [if_true] at hx
      have HX2 := Lib.hid hx
      clear hx HX hb hT cB
      go_wp2_with (go_at_call 25; refine (c1 _).mono ?_; rintro e w' ⟨rfl, rfl⟩)
      exact ⟨⟨t, rfl, trivial, Lib.hid ⟨HX2.out, by omega⟩⟩, hst⟩
    · have HT : Hid (x = T ∧ T.length ≤ 9223372036854775807) := Lib.hid (by
        have := HX.out.2
        rcases key with ⟨h1, h2⟩ | ⟨c, t, h1, _, h2⟩
        · rw [h1, h2]; exact ⟨rfl, by simp⟩
        · rw [h2, ← h1]; exact ⟨rfl, this⟩)
      rcases key with ⟨rfl, h2⟩ | ⟨c, t, rfl, hb, h2⟩
      · have hz : (⟨([] : List UInt8).toArray⟩ : ByteArray).size = 0 := rfl
        have HT2 := Lib.hid (congrArg (fun x : List UInt8 => (⟨x.toArray⟩ : ByteArray)) HT.out.1)
        clear HX hT H0 h2
        generalize (⟨([] : List UInt8).toArray⟩ : ByteArray) = sv at *
        obtain ⟨w', rfl⟩ : ∃ w', w' = wr := ⟨_, rfl⟩
        go_wp2_with (go_at_call 25; refine (cB _ _).mono ?_; rintro e w' ⟨rfl, rfl⟩)
        rw [HT2.out]
        clear HT2 hz
        go_loopw [0] (fun v0 wr => ∃ x : List UInt8, v0 = .string ⟨x.toArray⟩ ∧ wr = w' ∧ Hid (tR x = tR T ∧ x.length ≤ 9223372036854775807)) (fun v0 wr => stLen v0)
        case atStart => exact ⟨T, rfl, rfl, Lib.hid ⟨rfl, HT.out.2⟩⟩
        case round =>
          obtain ⟨x, rfl, rfl, HX⟩ := hrel
          rcases snoc_or x with rfl | ⟨t, c, rfl⟩
          · have hz : (⟨([] : List UInt8).toArray⟩ : ByteArray).size = 0 := rfl
            have HR := Lib.hid HX.out.1.symm
            clear HX
            have hsv : Hid ((⟨([] : List UInt8).toArray⟩ : ByteArray) = ⟨(tR T).toArray⟩) := Lib.hid (by rw [HR.out]; rfl)
            generalize (⟨([] : List UInt8).toArray⟩ : ByteArray) = sv at *
            go_wp2_with (go_at_call 25; refine (cB _ _).mono ?_; rintro e w' ⟨rfl, rfl⟩)
            go_ret
            exact ⟨by rw [hsv.out]; rfl, rfl⟩
          · obtain ⟨hx, hxl⟩ := HX.out
            rw [tR_snoc] at hx
            have hzl : (t ++ [c]).length = t.length + 1 := by simp
            have hz : (⟨(t ++ [c]).toArray⟩ : ByteArray).size = t.length + 1 := hzl
            have e2 := str_take (t ++ [c]) t.length
            rw [List.take_left] at e2
            have hsn : ∀ h, (⟨(t ++ [c]).toArray⟩ : ByteArray)[t.length]'h = c := fun h => by
              show (t ++ [c]).toArray[t.length]'h = c
              simp
            rw [hzl] at hxl
            have h1 : (0 : Int) < t.length + 1 := by omega
            have hst : stLen (.string ⟨t.toArray⟩) < stLen (.string ⟨(t ++ [c]).toArray⟩) := by show t.length < (t ++ [c]).length; omega
            have c1 := fun w => cB c w
            have hwr : IntKind.i64.wrap ((t.length : Int) + 1 - 1) = t.length := by rw [Int.add_sub_cancel]; exact wrapI (by omega) (by omega)
            have hself : Hid ((⟨(t ++ [c]).toArray⟩ : ByteArray) = ⟨(t ++ [c]).toArray⟩) := Lib.hid rfl
            clear HX cB HT
            cases hb : blB c
            · rw [hb] at c1 hx
              simp only [Bool.false_eq_true, if_false] at hx
              rw [hx] at hself
              have hs2 : Hid ((⟨(t ++ [c]).toArray⟩ : ByteArray) = ⟨(tR T).toArray⟩) := Lib.hid (by rw [hx])
              clear hx hzl hself
              generalize (⟨(t ++ [c]).toArray⟩ : ByteArray) = sv at *
              go_wp2_with (go_at_call 25; refine (c1 _).mono ?_; rintro e w' ⟨rfl, rfl⟩)
              go_ret
              exact ⟨by rw [hs2.out]; rfl, rfl⟩
            · rw [hb] at c1 hx
              simp only [if_true] at hx
              have HX2 := Lib.hid hx
              clear hx hzl hself
              generalize (⟨(t ++ [c]).toArray⟩ : ByteArray) = sv at *
              go_wp2_with (go_at_call 25; refine (c1 _).mono ?_; rintro e w' ⟨rfl, rfl⟩)
              exact ⟨⟨t, rfl, trivial, Lib.hid ⟨HX2.out, by omega⟩⟩, hst⟩
      · have hz : (⟨(c :: t).toArray⟩ : ByteArray).size = t.length + 1 := rfl
        have hsn : ∀ h, (⟨(c :: t).toArray⟩ : ByteArray)[0]'h = c := fun h => rfl
        have h1 : (0 : Int) < t.length + 1 := by omega
        have c1 := fun w => cB c w
        have HT2 := Lib.hid (congrArg (fun x : List UInt8 => (⟨x.toArray⟩ : ByteArray)) HT.out.1)
        rw [hb] at c1
        clear HX hT H0 h2
        generalize (⟨(c :: t).toArray⟩ : ByteArray) = sv at *
        go_wp2_with (go_at_call 25; refine (c1 _).mono ?_; rintro e w' ⟨rfl, rfl⟩)
        rw [HT2.out]
        clear HT2 hz
        go_loopw [0] (fun v0 wr => ∃ x : List UInt8, v0 = .string ⟨x.toArray⟩ ∧ wr = w' ∧ Hid (tR x = tR T ∧ x.length ≤ 9223372036854775807)) (fun v0 wr => stLen v0)
        case atStart => exact ⟨T, rfl, rfl, Lib.hid ⟨rfl, HT.out.2⟩⟩
        case round =>
          obtain ⟨x, rfl, rfl, HX⟩ := hrel
          rcases snoc_or x with rfl | ⟨t, c, rfl⟩
          · have hz : (⟨([] : List UInt8).toArray⟩ : ByteArray).size = 0 := rfl
            have HR := Lib.hid HX.out.1.symm
            clear HX
            have hsv : Hid ((⟨([] : List UInt8).toArray⟩ : ByteArray) = ⟨(tR T).toArray⟩) := Lib.hid (by rw [HR.out]; rfl)
            generalize (⟨([] : List UInt8).toArray⟩ : ByteArray) = sv at *
            go_wp2_with (go_at_call 25; refine (cB _ _).mono ?_; rintro e w' ⟨rfl, rfl⟩)
            go_ret
            exact ⟨by rw [hsv.out]; rfl, rfl⟩
          · obtain ⟨hx, hxl⟩ := HX.out
            rw [tR_snoc] at hx
            have hzl : (t ++ [c]).length = t.length + 1 := by simp
            have hz : (⟨(t ++ [c]).toArray⟩ : ByteArray).size = t.length + 1 := hzl
            have e2 := str_take (t ++ [c]) t.length
            rw [List.take_left] at e2
            have hsn : ∀ h, (⟨(t ++ [c]).toArray⟩ : ByteArray)[t.length]'h = c := fun h => by
              show (t ++ [c]).toArray[t.length]'h = c
              simp
            rw [hzl] at hxl
            have h1 : (0 : Int) < t.length + 1 := by omega
            have hst : stLen (.string ⟨t.toArray⟩) < stLen (.string ⟨(t ++ [c]).toArray⟩) := by show t.length < (t ++ [c]).length; omega
            have c1 := fun w => cB c w
            have hwr : IntKind.i64.wrap ((t.length : Int) + 1 - 1) = t.length := by rw [Int.add_sub_cancel]; exact wrapI (by omega) (by omega)
            have hself : Hid ((⟨(t ++ [c]).toArray⟩ : ByteArray) = ⟨(t ++ [c]).toArray⟩) := Lib.hid rfl
            clear HX cB HT
            cases hb : blB c
            · rw [hb] at c1 hx
              simp only [Bool.false_eq_true, if_false] at hx
              rw [hx] at hself
              have hs2 : Hid ((⟨(t ++ [c]).toArray⟩ : ByteArray) = ⟨(tR T).toArray⟩) := Lib.hid (by rw [hx])
              clear hx hzl hself
              generalize (⟨(t ++ [c]).toArray⟩ : ByteArray) = sv at *
              go_wp2_with (go_at_call 25; refine (c1 _).mono ?_; rintro e w' ⟨rfl, rfl⟩)
              go_ret
              exact ⟨by rw [hs2.out]; rfl, rfl⟩
            · rw [hb] at c1 hx
              simp only [if_true] at hx
              have HX2 := Lib.hid hx
              clear hx hzl hself
              generalize (⟨(t ++ [c]).toArray⟩ : ByteArray) = sv at *
              go_wp2_with (go_at_call 25; refine (c1 _).mono ?_; rintro e w' ⟨rfl, rfl⟩)
              exact ⟨⟨t, rfl, trivial, Lib.hid ⟨HX2.out, by omega⟩⟩, hst⟩
end Go.Proofs.YtjblfemkecmlmaaDoor
