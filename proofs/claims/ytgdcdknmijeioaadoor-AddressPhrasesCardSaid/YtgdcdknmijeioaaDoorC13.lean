/- reader: quoted. -/
import Derived.Test.YtgdcdknmijeioaaDoorC12
set_option linter.unusedSimpArgs false
set_option linter.unusedVariables false
namespace Go.Proofs.YtgdcdknmijeioaaDoor
open Go.RowKit Go.Shelf

def bsl (acc : List UInt8) : List UInt8 → List UInt8 × List UInt8 × Bool
  | [] => ([], [], true)
  | d :: t' => if d = 13 ∨ d = 10 then ([], t', true) else qt t' (acc ++ [d])
theorem qt_cons (c : UInt8) (t acc : List UInt8) : qt (c :: t) acc = if c = 34 then (acc, t, false) else if c = 92 then bsl acc t else if c = 13 ∨ c = 10 then ([], t, true) else qt t (acc ++ [c]) := by
  cases t with
  | nil => simp [qt, bsl]
  | cons d t' => simp [qt, bsl]
/-- What is left to do: the reader's bytes, and one if it is not bad. -/
def qm (r : Nat) (w : World) : Nat := (match w.cell? ⟨r, 0, none⟩ with | some (.string s) => s.size | _ => 0) + (match w.cell? ⟨r, 1, none⟩ with | some (.bool b) => (if b then 0 else 1) | _ => 0)
theorem qm_RS {r : Nat} {w : World} {l : List UInt8} {b : Bool} (h : RS w r l b) : qm r w = l.length + (if b then 0 else 1) := by
  unfold qm
  rw [h.c0, h.c1]
  rfl
theorem Chg.belowB {r : Nat} {w0 w w' : World} (h : Chg r w0 w) (hb : Below w0.heap.size w w') (hr : r ≤ w0.heap.size) : Chg r w0 w' :=
  ⟨h.below.trans (hb.mono hr), fun k hk hkr => (hb.block k hk).trans (h.other k hk hkr)⟩
theorem RS.belowB {w w' : World} {r B : Nat} {l : List UInt8} {b : Bool} (h : RS w r l b) (hb : Below B w w') (hr : r < B) : RS w' r l b := by
  unfold RS at *
  rw [hb.block r hr]
  exact h
/-- How the loop goes on. -/
def QR (r L : Nat) (res : List UInt8 × List UInt8 × Bool) (w0 w : World) (l : List UInt8) (b : Bool) (acc : List UInt8) : Prop :=
  RS w r l b ∧ Chg r w0 w ∧ acc.length + l.length + (if b then 0 else 1) ≤ L ∧ ((b = false ∧ qt l acc = res) ∨ (b = true ∧ res = ([], l, true)))
def QP (r : Nat) (res : List UInt8 × List UInt8 × Bool) (w : World) (e : Ending) (w' : World) : Prop := e = .returned (.string ⟨res.1.toArray⟩) ∧ RS w' r res.2.1 res.2.2 ∧ Chg r w w'
theorem next_nil (r : Nat) (b : Bool) (w : World) (h : RS w r [] b) :
    Calls Tryd.prog 78 #[.pointer (some ⟨r, 0, none⟩)] w fun e w' => e = .returned (.int .u8 (0 : UInt8).toNat) ∧ RS w' r [] true ∧ Chg r w w' := next_any r [] b (by simp) w h
theorem next_cons (r : Nat) (c : UInt8) (t : List UInt8) (b : Bool) (hl : (c :: t).length ≤ 9223372036854775807) (w : World) (h : RS w r (c :: t) b) :
    Calls Tryd.prog 78 #[.pointer (some ⟨r, 0, none⟩)] w fun e w' => e = .returned (.int .u8 c.toNat) ∧ RS w' r t b ∧ Chg r w w' := next_any r (c :: t) b hl w h
theorem nat_ne {c : UInt8} {k : UInt8} (h : ¬ c = k) : ¬ (c.toNat : Int) = (k.toNat : Int) := fun e => h (UInt8.toNat_inj.1 (by omega))
theorem beq_no {a b : Int} (h : ¬ a = b) : (a == b) = false := by simpa using h
theorem bne_no {a b : Int} (h : ¬ a = b) : (a != b) = true := by simpa using h
theorem beq_yes {a b : Int} (h : a = b) : (a == b) = true := by simpa using h
theorem bne_yes {a b : Int} (h : a = b) : (a != b) = false := by simpa using h
set_option maxHeartbeats 4000000 in
theorem quoted_any (r : Nat) (t0 : List UInt8) (b0 : Bool) (hl : t0.length ≤ 1000000000) (w : World) (h : RS w r (34 :: t0) b0) :
    Calls Tryd.prog 70 #[.pointer (some ⟨r, 0, none⟩)] w (QP r (quR t0 b0) w) := by
  have hrl := h.lt
  have ht : tkm 34 (34 :: t0) = (true, t0) := by simp [tkm]
  have c1 := fun w h => take_any r 34 (34 :: t0) b0 w h
  rw [ht] at c1
  have hres : (b0 = false ∧ qt t0 [] = quR t0 b0) ∨ (b0 = true ∧ quR t0 b0 = ([], t0, true)) := by
    unfold quR
    cases b0 <;> simp
  unfold QP
  generalize quR t0 b0 = res at *
  go_enter Tryd.func70, Tryd.ntmps70
  go_wp2_with fail
  refine (c1 _ h).mono ?_; rintro e w1 ⟨rfl, h1, g1⟩
  go_wp2_with fail
  refine (need_any r _ _ _ _ h1).mono ?_; rintro e w2 ⟨rfl, h2, g2⟩
  have G2 := g1.trans g2
  have hb2 : (b0 || !true) = b0 := by simp
  rw [hb2] at h2
  have HQ : Hid (QR r (t0.length + 1) res w w2 t0 b0 []) := Lib.hid ⟨h2, G2, by simp; split <;> omega, hres⟩
  have O2 : OB w.heap.size w2 none 0 [] := ⟨World.ownsRow_nil w2 _ _ _, G2.below.size⟩
  clear g1 g2 h1 h2 hres G2 hb2 c1 h ht
  go_wp2_with fail
  go_loopw [3] (fun v wr => ∃ (acc : List UInt8) (a : Option Addr) (cap : Nat) (l : List UInt8) (b : Bool), v = .slice a acc.length cap ∧ OB w.heap.size wr a cap acc ∧ Hid (QR r (t0.length + 1) res w wr l b acc)) (fun v wr => qm r wr)
  case atStart => exact ⟨[], none, 0, t0, b0, rfl, O2, HQ⟩
  case round =>
    obtain ⟨acc, a, cap, l, b, rfl, hO, HR⟩ := hrel
    clear HQ O2
    have hS := HR.out.1
    have q1 := hS.c1
    have hq := qm_RS hS
    have HM := Lib.hid hq
    clear hq
    cases b
    · have hE := HR.out.2.2.2
      have hlen := HR.out.2.2.1
      have CG := HR.out.2.1
      have HE : Hid (qt l acc = res) := Lib.hid (by rcases hE with ⟨_, e⟩ | ⟨e, _⟩; · exact e
                                                    · cases e)
      clear hE HR
      have accl : acc.length < 70368744177664 := by simp at hlen; omega
      cases l with
      | nil =>
        simp at hlen
        go_wp2_with fail
        refine (next_nil r false _ hS).mono ?_; rintro e w3 ⟨rfl, h3, g3⟩
        have C3 := CG.trans g3
        have O3 := hO.chg g3 hrl
        clear g3 CG hO hS q1
        go_wp2_with fail
        refine (need_any r _ _ _ _ h3).mono ?_; rintro e w8 ⟨rfl, h8, g8⟩
        have C8 := C3.trans g8
        have O8 := O3.chg g8 hrl
        have H8 := Lib.hid h8
        have C8' := Lib.hid C8
        clear h8 g8 C8
        go_wp2_with (at_builtin; refine wpL_ob (c := (0 : UInt8)) rfl rfl rfl O8 rfl rfl (by omega) ?_; intro a9 cap9 w9 O9 b9)
        have h9 := H8.out.belowB b9 hrl
        have C9 := C8'.out.belowB b9 (Nat.le_of_lt hrl)
        have m9 := qm_RS h9
        refine ⟨⟨acc ++ [(0 : UInt8)], a9, cap9, [], _, by simp, O9, Lib.hid ⟨h9, C9, ?_, ?_⟩⟩, ?_⟩
        · simp; omega
        · exact .inr ⟨rfl, by rw [← HE.out]; simp [qt]⟩
        · rw [m9, HM.out]; simp; try omega
      | cons c t =>
        simp at hlen
        rw [qt_cons] at HE
        have c3 := fun h => next_cons r c t false (by simp; omega) wr h
        go_wp2_with fail
        refine (c3 hS).mono ?_; rintro e w3 ⟨rfl, h3, g3⟩
        have C3 := CG.trans g3
        have O3 := hO.chg g3 hrl
        clear g3 CG hO hS q1 c3
        by_cases e34 : c = 34
        · have HE' : Hid (res = (acc, t, false)) := Lib.hid (by rw [← HE.out, if_pos e34])
          have f1 := beq_yes (show (c.toNat : Int) = 34 by rw [e34]; rfl)
          have hs1 := bs_string' (n := acc.length) cap O3.cells rfl
          have H3 := Lib.hid h3
          have CC := Lib.hid C3
          clear e34 HE h3 C3
          go_wp2_with fail
          go_ret
          rw [HE'.out]
          exact ⟨rfl, H3.out, CC.out⟩
        · have f1 : ¬ (c.toNat : Int) = 34 := nat_ne e34
          have f1' := beq_no f1
          by_cases e92 : c = 92
          · have HF : Hid (bsl acc t = res) := Lib.hid (by rw [← HE.out, if_neg e34, if_pos e92])
            have f2 := beq_yes (show (c.toNat : Int) = 92 by rw [e92]; rfl)
            clear HE e34 e92
            cases t with
            | nil =>
              go_wp2_with fail
              refine (next_nil r false _ h3).mono ?_; rintro e w4 ⟨rfl, h4, g4⟩
              have C4 := C3.trans g4
              have O4 := O3.chg g4 hrl
              clear g4 C3 O3 h3
              go_wp2_with fail
              refine (need_any r _ _ _ _ h4).mono ?_; rintro e w8 ⟨rfl, h8, g8⟩
              have C8 := C4.trans g8
              have O8 := O4.chg g8 hrl
              have H8 := Lib.hid h8
              have C8' := Lib.hid C8
              clear h8 g8 C8
              go_wp2_with (at_builtin; refine wpL_ob (c := (0 : UInt8)) rfl rfl rfl O8 rfl rfl (by omega) ?_; intro a9 cap9 w9 O9 b9)
              have h9 := H8.out.belowB b9 hrl
              have C9 := C8'.out.belowB b9 (Nat.le_of_lt hrl)
              have m9 := qm_RS h9
              refine ⟨⟨acc ++ [(0 : UInt8)], a9, cap9, [], _, by simp, O9, Lib.hid ⟨h9, C9, ?_, ?_⟩⟩, ?_⟩
              · simp; omega
              · exact .inr ⟨rfl, HF.out.symm⟩
              · rw [m9, HM.out]; simp; try omega
            | cons d t' =>
              simp at hlen
              have c4 := fun h => next_cons r d t' false (by simp; omega) w3 h
              go_wp2_with fail
              refine (c4 h3).mono ?_; rintro e w4 ⟨rfl, h4, g4⟩
              have C4 := C3.trans g4
              have O4 := O3.chg g4 hrl
              clear g4 C3 O3 h3 c4
              by_cases e13 : d = 13
              · have HG : Hid (res = ([], t', true)) := Lib.hid (by rw [← HF.out]; simp [bsl, e13])
                have f3 := bne_yes (show (d.toNat : Int) = 13 by rw [e13]; rfl)
                clear HF e13
                go_wp2_with fail
                refine (need_any r _ _ _ _ h4).mono ?_; rintro e w8 ⟨rfl, h8, g8⟩
                have C8 := C4.trans g8
                have O8 := O4.chg g8 hrl
                have H8 := Lib.hid h8
                have C8' := Lib.hid C8
                clear h8 g8 C8
                go_wp2_with (at_builtin; refine wpL_ob (c := d) rfl rfl rfl O8 rfl rfl (by omega) ?_; intro a9 cap9 w9 O9 b9)
                have h9 := H8.out.belowB b9 hrl
                have C9 := C8'.out.belowB b9 (Nat.le_of_lt hrl)
                have m9 := qm_RS h9
                refine ⟨⟨acc ++ [d], a9, cap9, t', _, by simp, O9, Lib.hid ⟨h9, C9, ?_, ?_⟩⟩, ?_⟩
                · simp; omega
                · exact .inr ⟨rfl, HG.out⟩
                · rw [m9, HM.out]; simp; try omega
              · by_cases e10 : d = 10
                · have HG : Hid (res = ([], t', true)) := Lib.hid (by rw [← HF.out]; simp [bsl, e10])
                  have f3 := bne_no (show ¬ (d.toNat : Int) = 13 from nat_ne e13)
                  have f4 := bne_yes (show (d.toNat : Int) = 10 by rw [e10]; rfl)
                  clear HF e13 e10
                  go_wp2_with fail
                  refine (need_any r _ _ _ _ h4).mono ?_; rintro e w8 ⟨rfl, h8, g8⟩
                  have C8 := C4.trans g8
                  have O8 := O4.chg g8 hrl
                  have H8 := Lib.hid h8
                  have C8' := Lib.hid C8
                  clear h8 g8 C8
                  go_wp2_with (at_builtin; refine wpL_ob (c := d) rfl rfl rfl O8 rfl rfl (by omega) ?_; intro a9 cap9 w9 O9 b9)
                  have h9 := H8.out.belowB b9 hrl
                  have C9 := C8'.out.belowB b9 (Nat.le_of_lt hrl)
                  have m9 := qm_RS h9
                  refine ⟨⟨acc ++ [d], a9, cap9, t', _, by simp, O9, Lib.hid ⟨h9, C9, ?_, ?_⟩⟩, ?_⟩
                  · simp; omega
                  · exact .inr ⟨rfl, HG.out⟩
                  · rw [m9, HM.out]; simp; try omega
                · have HG : Hid (qt t' (acc ++ [d]) = res) := Lib.hid (by rw [← HF.out]; simp [bsl, e13, e10])
                  have f3 := bne_no (show ¬ (d.toNat : Int) = 13 from nat_ne e13)
                  have f4 := bne_no (show ¬ (d.toNat : Int) = 10 from nat_ne e10)
                  clear HF e13 e10
                  go_wp2_with fail
                  refine (need_any r _ _ _ _ h4).mono ?_; rintro e w8 ⟨rfl, h8, g8⟩
                  have C8 := C4.trans g8
                  have O8 := O4.chg g8 hrl
                  have H8 := Lib.hid h8
                  have C8' := Lib.hid C8
                  clear h8 g8 C8
                  go_wp2_with (at_builtin; refine wpL_ob (c := d) rfl rfl rfl O8 rfl rfl (by omega) ?_; intro a9 cap9 w9 O9 b9)
                  have h9 := H8.out.belowB b9 hrl
                  have C9 := C8'.out.belowB b9 (Nat.le_of_lt hrl)
                  have m9 := qm_RS h9
                  refine ⟨⟨acc ++ [d], a9, cap9, t', _, by simp, O9, Lib.hid ⟨h9, C9, ?_, ?_⟩⟩, ?_⟩
                  · simp; omega
                  · exact .inl ⟨rfl, HG.out⟩
                  · rw [m9, HM.out]; simp; try omega
          · have HF : Hid ((if c = 13 ∨ c = 10 then ([], t, true) else qt t (acc ++ [c])) = res) := Lib.hid (by rw [← HE.out, if_neg e34, if_neg e92])
            have f2 : ¬ (c.toNat : Int) = 92 := nat_ne e92
            have f2' := beq_no f2
            clear HE e34 e92
            by_cases e13 : c = 13
            · have HG : Hid (res = ([], t, true)) := Lib.hid (by rw [← HF.out]; simp [bsl, e13])
              have f3 := bne_yes (show (c.toNat : Int) = 13 by rw [e13]; rfl)
              clear HF e13
              go_wp2_with fail
              refine (need_any r _ _ _ _ h3).mono ?_; rintro e w8 ⟨rfl, h8, g8⟩
              have C8 := C3.trans g8
              have O8 := O3.chg g8 hrl
              have H8 := Lib.hid h8
              have C8' := Lib.hid C8
              clear h8 g8 C8
              go_wp2_with (at_builtin; refine wpL_ob (c := c) rfl rfl rfl O8 rfl rfl (by omega) ?_; intro a9 cap9 w9 O9 b9)
              have h9 := H8.out.belowB b9 hrl
              have C9 := C8'.out.belowB b9 (Nat.le_of_lt hrl)
              have m9 := qm_RS h9
              refine ⟨⟨acc ++ [c], a9, cap9, t, _, by simp, O9, Lib.hid ⟨h9, C9, ?_, ?_⟩⟩, ?_⟩
              · simp; omega
              · exact .inr ⟨rfl, HG.out⟩
              · rw [m9, HM.out]; simp; try omega
            · by_cases e10 : c = 10
              · have HG : Hid (res = ([], t, true)) := Lib.hid (by rw [← HF.out]; simp [bsl, e10])
                have f3 := bne_no (show ¬ (c.toNat : Int) = 13 from nat_ne e13)
                have f4 := bne_yes (show (c.toNat : Int) = 10 by rw [e10]; rfl)
                clear HF e13 e10
                go_wp2_with fail
                refine (need_any r _ _ _ _ h3).mono ?_; rintro e w8 ⟨rfl, h8, g8⟩
                have C8 := C3.trans g8
                have O8 := O3.chg g8 hrl
                have H8 := Lib.hid h8
                have C8' := Lib.hid C8
                clear h8 g8 C8
                go_wp2_with (at_builtin; refine wpL_ob (c := c) rfl rfl rfl O8 rfl rfl (by omega) ?_; intro a9 cap9 w9 O9 b9)
                have h9 := H8.out.belowB b9 hrl
                have C9 := C8'.out.belowB b9 (Nat.le_of_lt hrl)
                have m9 := qm_RS h9
                refine ⟨⟨acc ++ [c], a9, cap9, t, _, by simp, O9, Lib.hid ⟨h9, C9, ?_, ?_⟩⟩, ?_⟩
                · simp; omega
                · exact .inr ⟨rfl, HG.out⟩
                · rw [m9, HM.out]; simp; try omega
              · have HG : Hid (qt t (acc ++ [c]) = res) := Lib.hid (by rw [← HF.out]; simp [bsl, e13, e10])
                have f3 := bne_no (show ¬ (c.toNat : Int) = 13 from nat_ne e13)
                have f4 := bne_no (show ¬ (c.toNat : Int) = 10 from nat_ne e10)
                clear HF e13 e10
                go_wp2_with fail
                refine (need_any r _ _ _ _ h3).mono ?_; rintro e w8 ⟨rfl, h8, g8⟩
                have C8 := C3.trans g8
                have O8 := O3.chg g8 hrl
                have H8 := Lib.hid h8
                have C8' := Lib.hid C8
                clear h8 g8 C8
                go_wp2_with (at_builtin; refine wpL_ob (c := c) rfl rfl rfl O8 rfl rfl (by omega) ?_; intro a9 cap9 w9 O9 b9)
                have h9 := H8.out.belowB b9 hrl
                have C9 := C8'.out.belowB b9 (Nat.le_of_lt hrl)
                have m9 := qm_RS h9
                refine ⟨⟨acc ++ [c], a9, cap9, t, _, by simp, O9, Lib.hid ⟨h9, C9, ?_, ?_⟩⟩, ?_⟩
                · simp; omega
                · exact .inl ⟨rfl, HG.out⟩
                · rw [m9, HM.out]; simp; try omega
    · have HE : Hid (res = ([], l, true)) := Lib.hid (by rcases HR.out.2.2.2 with ⟨e, _⟩ | ⟨_, e⟩; · cases e
                                                         · exact e)
      go_wp2_with fail
      go_ret
      rw [HE.out]
      exact ⟨rfl, HR.out.1, HR.out.2.1⟩
end Go.Proofs.YtgdcdknmijeioaaDoor
