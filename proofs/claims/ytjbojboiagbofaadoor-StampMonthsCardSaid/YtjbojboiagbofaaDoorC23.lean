/- reader: day, month, zone. -/
import Derived.Test.YtjbojboiagbofaaDoorC22
set_option linter.unusedSimpArgs false
set_option linter.unusedVariables false
namespace Go.Proofs.YtjbojboiagbofaaDoor
open Go.RowKit Go.Shelf

def dayX (l : List UInt8) : List UInt8 := Lib.trimPrefix (tkS 2 l) [32]
theorem trimPrefix_len (x p : List UInt8) : (Lib.trimPrefix x p).length ≤ x.length := by
  unfold Lib.trimPrefix
  split <;> simp
set_option maxHeartbeats 1000000 in
theorem day_any (r : Nat) (l : List UInt8) (b : Bool) (hl : l.length ≤ 9223372036854775807) (w : World) (h : RS w r l b) :
    Calls Tryd.prog 44 #[.pointer (some ⟨r, 0, none⟩)] w fun e w' => e = .returned (.int .i64 (nV 31 (dayX l))) ∧ RS w' r (tkR 2 l) (tkB 2 l b || !nB 31 (dayX l)) ∧ Chg r w w' := by
  have c1 := take_any r 2 l b (by omega) hl w h
  have c2 : ∀ w, Calls Tryd.prog 53 #[.string ⟨(tkS 2 l).toArray⟩, .string ⟨#[32]⟩] w fun e w' => e = .returned (.string ⟨(dayX l).toArray⟩) ∧ w' = w := fun w => Tryd.strings_TrimPrefix ⟨(tkS 2 l).toArray⟩ ⟨#[32]⟩ w
  have c3 := fun w => num_any (dayX l) 31 (by have := tkS_len 2 l; have := trimPrefix_len (tkS 2 l) [32]; unfold dayX; omega) w
  generalize nV 31 (dayX l) = nv at c3 ⊢
  generalize nB 31 (dayX l) = nb at c3 ⊢
  generalize dayX l = dx at c2 c3
  clear h
  go_enter Tryd.func44, Tryd.ntmps44
  go_wp2_with fail
  refine c1.mono ?_; rintro e w1 ⟨rfl, h1, g1⟩
  have HG := Lib.hid g1
  have H1 := Lib.hid h1
  clear g1 h1
  go_wp2_with fail
  refine (c2 _).mono ?_; rintro e w2 ⟨rfl, hw⟩; rw [hw]
  go_wp2_with fail
  refine (c3 _).mono ?_; rintro e w3 ⟨rfl, b3⟩
  have h3 := H1.out.below b3
  have g3 := HG.out.trans (Chg.of_below b3 (Nat.le_of_lt H1.out.lt))
  have H3 := Lib.hid g3
  clear g3 b3 H1 HG
  go_wp2_with fail
  refine (need_any r _ _ nb w3 h3).mono ?_; rintro e w4 ⟨rfl, h4, g4⟩
  clear h3
  go_wp2_with fail
  go_ret
  exact ⟨rfl, h4, H3.out.trans g4⟩
def zoneV (l : List UInt8) (b : Bool) : Int × List UInt8 × Bool :=
  let x := tkS 1 l
  let p := dgs 2 0 (tkR 1 l) (tkB 1 l b || !(x == [43] || x == [45]))
  let q := dgs 2 0 p.2.1 p.2.2
  (if x == [45] then -((p.1 : Int) * 3600 + q.1 * 60) else (p.1 : Int) * 3600 + q.1 * 60, q.2.1, q.2.2 || !(decide (p.1 ≤ 14) && decide (q.1 ≤ 59)))
theorem dgs_rest (m : Nat) : ∀ (n : Nat) (l : List UInt8) (b : Bool), (dgs m n l b).2.1.length ≤ l.length := by
  induction m with
  | zero => intro n l b; exact Nat.le_refl _
  | succ m ih => intro n l b; rw [dgs]; exact Nat.le_trans (ih _ _ _) (tkR_len 1 l)
theorem dgs_le (m : Nat) : ∀ (n : Nat) (l : List UInt8) (b : Bool), (dgs m n l b).1 < (n + 1) * pw m := by
  induction m with
  | zero => intro n l b; simp [dgs, pw]
  | succ m ih =>
    intro n l b
    rw [dgs]
    have h1 := ih (n * 10 + nV 9 (tkS 1 l)) (tkR 1 l) (tkB 1 l b || !nB 9 (tkS 1 l))
    have h2 := nV_le 9 (tkS 1 l)
    refine Nat.lt_of_lt_of_le h1 ?_
    show _ ≤ (n + 1) * (pw m * 10)
    calc (n * 10 + nV 9 (tkS 1 l) + 1) * pw m ≤ ((n + 1) * 10) * pw m := Nat.mul_le_mul_right _ (by omega)
      _ = (n + 1) * (pw m * 10) := by rw [Nat.mul_assoc, Nat.mul_comm 10]
theorem dgs2_lt (l : List UInt8) (b : Bool) : (dgs 2 0 l b).1 < 100 := by have := dgs_le 2 0 l b; simpa [pw] using this
theorem dgs4_lt (l : List UInt8) (b : Bool) : (dgs 4 0 l b).1 < 10000 := by have := dgs_le 4 0 l b; simpa [pw] using this
set_option maxHeartbeats 2000000 in
theorem zone_any (r : Nat) (l : List UInt8) (b : Bool) (hl : l.length ≤ 9223372036854775807) (w : World) (h : RS w r l b) :
    Calls Tryd.prog 34 #[.pointer (some ⟨r, 0, none⟩)] w fun e w' => e = .returned (.int .i64 (zoneV l b).1) ∧ RS w' r (zoneV l b).2.1 (zoneV l b).2.2 ∧ Chg r w w' := by
  have c1 := take_any r 1 l b (by omega) hl w h
  unfold zoneV
  dsimp only
  have hl1 := Nat.le_trans (tkR_len 1 l) hl
  generalize tkS 1 l = x at *
  generalize tkR 1 l = l1 at *
  generalize tkB 1 l b = b1 at *
  have c3 := fun w h => digits_any r 2 (by omega) l1 (b1 || !(x == [43] || x == [45])) hl1 w h
  have k1 := dgs2_lt l1 (b1 || !(x == [43] || x == [45]))
  have hl2 := Nat.le_trans (dgs_rest 2 0 l1 (b1 || !(x == [43] || x == [45]))) hl1
  generalize dgs 2 0 l1 (b1 || !(x == [43] || x == [45])) = P at *
  obtain ⟨hn, l2, b2⟩ := P
  simp only at c3 k1 hl2 ⊢
  have c4 := fun w h => digits_any r 2 (by omega) l2 b2 hl2 w h
  have k2 := dgs2_lt l2 b2
  generalize dgs 2 0 l2 b2 = P at *
  obtain ⟨mn, l3, b3⟩ := P
  simp only at c4 k2 ⊢
  clear h hl hl1 hl2
  have hfin : ∀ w', RS w' r l3 b3 → ∀ ok, ok = (decide (hn ≤ 14) && decide (mn ≤ 59)) → Calls Tryd.prog 49 #[.pointer (some ⟨r, 0, none⟩), .bool ok] w' fun e w'' => e = .returned (.tuple #[]) ∧ RS w'' r l3 (b3 || !(decide (hn ≤ 14) && decide (mn ≤ 59))) ∧ Chg r w' w'' := fun w' h' ok ho => by
    rw [← ho]
    exact need_any r l3 b3 ok w' h'
  have hok : (x == [43]) = true ∨ ((x == [43]) = false ∧ (x == [45]) = true) ∨ ((x == [43]) = false ∧ (x == [45]) = false) := by
    cases (x == [43]) <;> cases (x == [45]) <;> simp
  have hx0 : (x == [43]) = true → (x == [45]) = false := by
    intro q
    rw [beq_iff_eq] at q
    subst q
    rfl
  have hnm : (hn ≤ 14 ∧ mn ≤ 59) ∨ (hn ≤ 14 ∧ ¬ mn ≤ 59) ∨ ¬ hn ≤ 14 := by omega
  rcases hok with hx1 | ⟨hx1, hx2⟩ | ⟨hx1, hx2⟩
  · have hx2 := hx0 hx1
    rw [hx1, hx2] at c3
    clear hx0
    rw [hx2]
    rcases hnm with ⟨d1, d2⟩ | ⟨d1, d2⟩ | d1
    all_goals (
      go_enter Tryd.func34, Tryd.ntmps34
      go_wp2_with fail
      refine c1.mono ?_; rintro e w1 ⟨rfl, h1, g1⟩
      have HG := Lib.hid g1
      have H1 := Lib.hid h1
      clear g1 h1
      go_wp2_with fail
      refine (need_any r l1 b1 _ w1 H1.out).mono ?_; rintro e w2 ⟨rfl, h2, g2⟩
      have HG2 := Lib.hid (HG.out.trans g2)
      clear H1 HG g2
      have H2 := Lib.hid h2
      clear h2
      go_wp2_with fail
      refine (c3 _ H2.out).mono ?_; rintro e w3 ⟨rfl, h3, g3⟩
      have HG3 := Lib.hid (HG2.out.trans g3)
      have H3 := Lib.hid h3
      clear H2 HG2 g3 h3
      go_wp2_with fail
      refine (c4 _ H3.out).mono ?_; rintro e w4 ⟨rfl, h4, g4⟩
      have HG4 := Lib.hid (HG3.out.trans g4)
      have H4 := Lib.hid h4
      clear H3 HG3 g4 h4
      go_wp2_with fail
      refine (hfin _ H4.out _ ?_).mono ?_
      · simp [d1]; try omega
      rintro e w5 ⟨rfl, h5, g5⟩
      have HG5 := Lib.hid (HG4.out.trans g5)
      have H5 := Lib.hid h5
      clear H4 HG4 g5 h5
      go_wp2_with fail
      go_ret
      exact ⟨by first | rfl | (simp; done) | (simp; omega), by have q5 := H5.out; clear H5 HG5; simpa [*] using q5, HG5.out⟩)
  · rw [hx1, hx2] at c3
    clear hx0
    rw [hx2]
    rcases hnm with ⟨d1, d2⟩ | ⟨d1, d2⟩ | d1
    all_goals (
      go_enter Tryd.func34, Tryd.ntmps34
      go_wp2_with fail
      refine c1.mono ?_; rintro e w1 ⟨rfl, h1, g1⟩
      have HG := Lib.hid g1
      have H1 := Lib.hid h1
      clear g1 h1
      go_wp2_with fail
      refine (need_any r l1 b1 _ w1 H1.out).mono ?_; rintro e w2 ⟨rfl, h2, g2⟩
      have HG2 := Lib.hid (HG.out.trans g2)
      clear H1 HG g2
      have H2 := Lib.hid h2
      clear h2
      go_wp2_with fail
      refine (c3 _ H2.out).mono ?_; rintro e w3 ⟨rfl, h3, g3⟩
      have HG3 := Lib.hid (HG2.out.trans g3)
      have H3 := Lib.hid h3
      clear H2 HG2 g3 h3
      go_wp2_with fail
      refine (c4 _ H3.out).mono ?_; rintro e w4 ⟨rfl, h4, g4⟩
      have HG4 := Lib.hid (HG3.out.trans g4)
      have H4 := Lib.hid h4
      clear H3 HG3 g4 h4
      go_wp2_with fail
      refine (hfin _ H4.out _ ?_).mono ?_
      · simp [d1]; try omega
      rintro e w5 ⟨rfl, h5, g5⟩
      have HG5 := Lib.hid (HG4.out.trans g5)
      have H5 := Lib.hid h5
      clear H4 HG4 g5 h5
      go_wp2_with fail
      go_ret
      exact ⟨by first | rfl | (simp; done) | (simp; omega), by have q5 := H5.out; clear H5 HG5; simpa [*] using q5, HG5.out⟩)
  · rw [hx1, hx2] at c3
    clear hx0
    rw [hx2]
    rcases hnm with ⟨d1, d2⟩ | ⟨d1, d2⟩ | d1
    all_goals (
      go_enter Tryd.func34, Tryd.ntmps34
      go_wp2_with fail
      refine c1.mono ?_; rintro e w1 ⟨rfl, h1, g1⟩
      have HG := Lib.hid g1
      have H1 := Lib.hid h1
      clear g1 h1
      go_wp2_with fail
      refine (need_any r l1 b1 _ w1 H1.out).mono ?_; rintro e w2 ⟨rfl, h2, g2⟩
      have HG2 := Lib.hid (HG.out.trans g2)
      clear H1 HG g2
      have H2 := Lib.hid h2
      clear h2
      go_wp2_with fail
      refine (c3 _ H2.out).mono ?_; rintro e w3 ⟨rfl, h3, g3⟩
      have HG3 := Lib.hid (HG2.out.trans g3)
      have H3 := Lib.hid h3
      clear H2 HG2 g3 h3
      go_wp2_with fail
      refine (c4 _ H3.out).mono ?_; rintro e w4 ⟨rfl, h4, g4⟩
      have HG4 := Lib.hid (HG3.out.trans g4)
      have H4 := Lib.hid h4
      clear H3 HG3 g4 h4
      go_wp2_with fail
      refine (hfin _ H4.out _ ?_).mono ?_
      · simp [d1]; try omega
      rintro e w5 ⟨rfl, h5, g5⟩
      have HG5 := Lib.hid (HG4.out.trans g5)
      have H5 := Lib.hid h5
      clear H4 HG4 g5 h5
      go_wp2_with fail
      go_ret
      exact ⟨by first | rfl | (simp; done) | (simp; omega), by have q5 := H5.out; clear H5 HG5; simpa [*] using q5, HG5.out⟩)
end Go.Proofs.YtjbojboiagbofaaDoor
