/- reader: quoted, value. -/
import Derived.Test.YtjblfemkecmlmaaDoorC4
set_option linter.unusedSimpArgs false
set_option linter.unusedVariables false
namespace Go.Proofs.YtjblfemkecmlmaaDoor
open Go.RowKit Go.Shelf

theorem RS.belowB {w w' : World} {r B : Nat} {l : List UInt8} {b : Bool} (h : RS w r l b) (hb : Below B w w') (hr : r < B) : RS w' r l b := by
  unfold RS at *
  rw [hb.block r hr]
  exact h
theorem nat_ne {c : UInt8} {k : UInt8} (h : ¬ c = k) : ¬ (c.toNat : Int) = (k.toNat : Int) := fun e => h (UInt8.toNat_inj.1 (by omega))
theorem beq_no {a b : Int} (h : ¬ a = b) : (a == b) = false := by simpa using h
theorem bne_no {a b : Int} (h : ¬ a = b) : (a != b) = true := by simpa using h
theorem beq_yes {a b : Int} (h : a = b) : (a == b) = true := by simpa using h
theorem bne_yes {a b : Int} (h : a = b) : (a != b) = false := by simpa using h
/-- What is still to be read. -/
def qst (esc : Bool) (l acc : List UInt8) : Option (List UInt8 × List UInt8) := if esc then bs2 acc l else qt l acc
def QR (n : Nat) (l : List UInt8) (res : Option (List UInt8 × List UInt8)) (B : Nat) (w w' : World) (esc : Bool) (acc : List UInt8) : Prop :=
  Below B w w' ∧ qst esc (l.drop n) acc = res
theorem drop_at (l : List UInt8) (n : Nat) (h : n < l.length) : l.drop n = l[n] :: l.drop (n + 1) := List.drop_eq_getElem_cons h
def QV (t : List UInt8) (b : Bool) (res : Option (List UInt8 × List UInt8)) : List UInt8 × Rd := match res with | some (v, u) => (v, tL u, b) | none => ([], 34 :: t, true)
set_option maxHeartbeats 4000000 in
theorem quoted_any (r : Nat) (t : List UInt8) (b : Bool) (hl : t.length ≤ 70368744177000) (w : World) (h : RS w r (34 :: t) b) :
    Calls Tryd.prog 79 #[.pointer (some ⟨r, 0, none⟩)] w (TPost r (QV t b (qt t [])) w) := by
  have hz : (⟨(34 :: t).toArray⟩ : ByteArray).size = t.length + 1 := by show (34 :: t).length = _; simp
  have hrl := h.lt
  have c3 := fun n hn w h => take_any r (34 :: t) b n hn (by simp; omega) w h
  have HR0 : Hid (QR 1 (34 :: t) (qt t []) w.heap.size w w false []) := Lib.hid ⟨Below.refl _ _, rfl⟩
  generalize qt t [] = res at *
  unfold TPost
  go_enter Tryd.func79, Tryd.ntmps79
  go_wp2_with fail
  go_loopw [3, 4, 5] (fun v3 v4 v5 wr => ∃ (acc : List UInt8) (a : Option Addr) (cap : Nat) (esc : Bool) (n : Nat), v3 = .slice a acc.length cap ∧ v4 = .bool esc ∧ v5 = .int .i64 n ∧ OB w.heap.size wr a cap acc ∧ acc.length ≤ n ∧ 1 ≤ n ∧ n ≤ t.length + 1 ∧ Hid (QR n (34 :: t) res w.heap.size w wr esc acc)) (fun v3 v4 v5 wr => t.length + 1 - (intOf v5).toNat)
  case atStart => exact ⟨[], none, 0, false, 1, rfl, rfl, rfl, OB.nil w, by simp, by omega, by omega, HR0⟩
  case round =>
    obtain ⟨acc, a, cap, esc, n, rfl, rfl, rfl, hO, ha, h1, hn, HR⟩ := hrel
    clear HR0
    have hS : RS wr r (34 :: t) b := h.belowB HR.out.1 hrl
    have q0 := hS.c0
    have q1 := hS.c1
    have f1 := hS.f0 1
    have C1 := Chg.of_below HR.out.1 (Nat.le_of_lt hrl)
    have accl : acc.length < 70368744177664 := by omega
    by_cases hlt : n < t.length + 1
    · have hl' : n < (34 :: t).length := by simpa using hlt
      have hls : n < (⟨(34 :: t).toArray⟩ : ByteArray).size := by rw [hz]; exact hlt
      have hsn : (⟨(34 :: t).toArray⟩ : ByteArray)[n]'hls = (34 :: t)[n]'hl' := rfl
      have hE := HR.out.2
      rw [drop_at _ _ hl'] at hE
      have hcb := ((34 :: t)[n]'hl').toNat_lt
      have B1 := HR.out.1
      have c4 := fun w h => c3 (n + 1) (by simp; omega) w h
      generalize (34 :: t)[n]'hl' = c at *
      generalize hrest : (34 :: t).drop (n + 1) = rest at *
      have HS := Lib.hid hS
      have HC := Lib.hid C1
      have HB := Lib.hid B1
      have hz' : n + 1 ≤ (⟨(34 :: t).toArray⟩ : ByteArray).size := by rw [hz]; omega
      clear HR hS C1 c3 B1 hz h hl'
      generalize hsv : (⟨(34 :: t).toArray⟩ : ByteArray) = sv at *
      cases esc
      · rw [qst, if_neg (by decide), qt_cons] at hE
        by_cases e92 : c = 92
        · have f2 := beq_yes (show (c.toNat : Int) = 92 by rw [e92]; rfl)
          have f2' : (c.toNat : Int) = 92 := by rw [e92]; rfl
          have HE : Hid (qst true rest acc = res) := Lib.hid (by rw [← hE, if_neg (by rw [e92]; decide), if_pos e92]; rfl)
          clear hE e92
          go_wp2_with fail
          exact ⟨⟨acc, a, cap, true, n + 1, rfl, rfl, by go_num, hO, by omega, by omega, by omega, Lib.hid ⟨HB.out, by rw [hrest]; exact HE.out⟩⟩, by simp [intOf]; omega⟩
        · have f2 : ¬ (c.toNat : Int) = 92 := nat_ne e92
          have f2' := beq_no f2
          by_cases e34 : c = 34
          · have f3 : (c.toNat : Int) = 34 := by rw [e34]; rfl
            have f3' := beq_yes f3
            have HE : Hid (res = some (acc, rest)) := Lib.hid (by rw [← hE, if_pos e34])
            have hs1 := bs_string' (w := wr) (n := acc.length) cap hO.cells rfl
            have hOc := Lib.hid hO
            clear hE e34 e92 hO
            go_wp2_with fail
            refine (c4 _ HS.out).mono ?_; rintro e w3 ⟨rfl, h3, g3⟩
            have H3 := Lib.hid h3
            have G3 := Lib.hid g3
            have hs3 := bs_string' (w := w3) (n := acc.length) cap ((hOc.out.chg g3 hrl).cells) rfl
            clear h3 g3 c4 hs1
            go_wp2_with fail
            go_ret
            rw [HE.out]
            exact ⟨rfl, H3.out, HC.out.trans G3.out⟩
          · have f3 : ¬ (c.toNat : Int) = 34 := nat_ne e34
            have f3' := beq_no f3
            have HE : Hid (qst false rest (acc ++ [c]) = res) := Lib.hid (by rw [← hE, if_neg e34, if_neg e92]; rfl)
            clear hE e34 e92
            go_wp2_with (at_builtin; refine wpL_ob (c := c) rfl rfl rfl hO rfl rfl (by omega) ?_; intro a9 cap9 w9 O9 b9)
            exact ⟨⟨acc ++ [c], a9, cap9, false, n + 1, by simp, rfl, by go_num, O9, by simp; omega, by omega, by omega, Lib.hid ⟨HB.out.trans b9, by rw [hrest]; exact HE.out⟩⟩, by simp [intOf]; omega⟩
      · have HE : Hid (qst false rest (acc ++ [c]) = res) := Lib.hid (by rw [← hE]; rfl)
        clear hE
        go_wp2_with (at_builtin; refine wpL_ob (c := c) rfl rfl rfl hO rfl rfl (by omega) ?_; intro a9 cap9 w9 O9 b9)
        exact ⟨⟨acc ++ [c], a9, cap9, false, n + 1, by simp, rfl, by go_num, O9, by simp; omega, by omega, by omega, Lib.hid ⟨HB.out.trans b9, by rw [hrest]; exact HE.out⟩⟩, by simp [intOf]; omega⟩
    · have HE : Hid (res = none) := Lib.hid (by
        have := HR.out.2
        rw [List.drop_eq_nil_of_le (by simp; omega)] at this
        rw [← this]
        cases esc <;> rfl)
      have HS := Lib.hid (hS.set1 true)
      have HC := Lib.hid C1
      have hz' : (⟨(34 :: t).toArray⟩ : ByteArray).size ≤ n := by rw [hz]; omega
      clear HR hS C1 c3 hz h
      generalize hsv : (⟨(34 :: t).toArray⟩ : ByteArray) = sv at *
      go_wp2_with fail
      go_ret
      rw [HE.out]
      exact ⟨rfl, HS.out.1, HC.out.trans HS.out.2⟩
theorem vlR_q (t : List UInt8) (b : Bool) : vlR (34 :: t, b) = QV t b (qt t []) := by
  unfold vlR QV
  rfl
set_option maxHeartbeats 1000000 in
theorem value_any (r : Nat) (l : List UInt8) (b : Bool) (hl : l.length ≤ 70368744177000) (w : World) (h : RS w r l b) :
    Calls Tryd.prog 55 #[.pointer (some ⟨r, 0, none⟩)] w (TPost r (vlR (l, b)) w) := by
  have q0 := h.c0
  have c1 := fun w => Tryd.strings_HasPrefix ⟨l.toArray⟩ ⟨#[34]⟩ w
  have e0 : (⟨l.toArray⟩ : ByteArray).data.toList = l := rfl
  have e1 : (⟨#[34]⟩ : ByteArray).data.toList = [34] := rfl
  rw [e0, e1, trim_one] at c1
  clear e0 e1
  by_cases hc : l.head? = some 34
  · obtain ⟨t, rfl⟩ := head_cons hc
    have hp : ((34 :: t).head? == some 34) = true := by simp
    rw [hp] at c1
    have c3 := quoted_any r t b (by simp at hl; omega) w h
    rw [vlR_q]
    clear hp hc h hl
    generalize QV t b (qt t []) = res at *
    unfold TPost at *
    go_enter Tryd.func55, Tryd.ntmps55
    go_wp2_with (go_at_call 49; refine (c1 _).mono ?_; rintro e w' ⟨rfl, rfl⟩)
    refine c3.mono ?_; rintro e w3 ⟨rfl, h3, g3⟩
    have HS := Lib.hid h3
    have HG := Lib.hid g3
    clear h3 g3 c1
    go_wp2_with fail
    go_ret
    exact ⟨rfl, HS.out, HG.out⟩
  · have hp : (l.head? == some 34) = false := by simpa using hc
    rw [hp] at c1
    have c3 := token_any r l b (by omega) w h
    rw [vlR_tok b hc]
    clear hp hc h hl
    generalize tkR (l, b) = res at *
    unfold TPost at *
    go_enter Tryd.func55, Tryd.ntmps55
    go_wp2_with (go_at_call 49; refine (c1 _).mono ?_; rintro e w' ⟨rfl, rfl⟩)
    refine c3.mono ?_; rintro e w3 ⟨rfl, h3, g3⟩
    have HS := Lib.hid h3
    have HG := Lib.hid g3
    clear h3 g3 c1
    go_wp2_with fail
    go_ret
    exact ⟨rfl, HS.out, HG.out⟩
set_option maxHeartbeats 1000000 in
theorem types_any (r : Nat) (l : List UInt8) (b : Bool) (hl : l.length ≤ 9223372036854775807) (w : World) (h : RS w r l b) :
    Calls Tryd.prog 27 #[.pointer (some ⟨r, 0, none⟩)] w fun e w' => e = .returned (.tuple #[.string ⟨(tkR (l, b)).1.toArray⟩, .string ⟨(tkR (mkR 47 (tkR (l, b)).2)).1.toArray⟩]) ∧ RS w' r (tkR (mkR 47 (tkR (l, b)).2)).2.1 (tkR (mkR 47 (tkR (l, b)).2)).2.2 ∧ Chg r w w' := by
  have l1 := tk_len (l, b)
  have l2 := mk_len 47 (tkR (l, b)).2
  have c1 := token_any r l b hl w h
  have c2 := fun w h => mark_any 47 r (tkR (l, b)).2.1 (tkR (l, b)).2.2 (by simp at l1; omega) w h
  have c3 := fun w h => token_any r (mkR 47 (tkR (l, b)).2).1 (mkR 47 (tkR (l, b)).2).2 (by simp at l1; omega) w h
  unfold TPost at c1 c3
  generalize tkR (l, b) = x at *
  generalize mkR 47 x.2 = y at *
  generalize tkR y = z at *
  clear l1 l2 h
  go_enter Tryd.func27, Tryd.ntmps27
  go_wp2_with fail
  refine c1.mono ?_; rintro e w1 ⟨rfl, h1, g1⟩
  clear c1
  go_wp2_with fail
  refine (c2 _ h1).mono ?_; rintro e w2 ⟨rfl, h2, g2⟩
  have G2 := g1.trans g2
  clear g1 g2 h1 c2
  go_wp2_with fail
  refine (c3 _ h2).mono ?_; rintro e w3 ⟨rfl, h3, g3⟩
  have HS := Lib.hid h3
  have HG := Lib.hid (G2.trans g3)
  clear h3 g3 G2 h2 c3
  go_wp2_with fail
  go_ret2
  exact ⟨rfl, HS.out, HG.out⟩
end Go.Proofs.YtjblfemkecmlmaaDoor
