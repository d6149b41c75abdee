/- reader: digits, day. -/
import Derived.Test.YtjbojboiagbofaaDoorC21
set_option linter.unusedSimpArgs false
set_option linter.unusedVariables false
namespace Go.Proofs.YtjbojboiagbofaaDoor
open Go.RowKit Go.Shelf

/-- A number, at most so great, or nought; and whether there is one. -/
def nV (most : Nat) (x : List UInt8) : Nat := match number x with | some n => if n ≤ most then n else 0 | none => 0
def nB (most : Nat) (x : List UInt8) : Bool := match number x with | some n => decide (n ≤ most) | none => false
theorem nV_le (most : Nat) (x : List UInt8) : nV most x ≤ most := by unfold nV; split <;> (try split) <;> omega
theorem num_eq (most : Nat) (x : List UInt8) : numRes (number x) most = .tuple #[.int .i64 (nV most x), .bool (nB most x)] := by
  unfold nV nB numRes
  cases number x with
  | none => rfl
  | some n =>
    by_cases h : n ≤ most
    · simp only [if_pos h, decide_eq_true h]
      rw [if_pos (by omega)]
    · simp only [if_neg h, decide_eq_false h]
      rw [if_neg (by omega)]
      rfl
theorem num_any (x : List UInt8) (most : Nat) (hx : x.length ≤ 1000) (w : World) :
    Calls Tryd.prog 52 #[.string ⟨x.toArray⟩, .int .i64 most] w fun e w' => e = .returned (.tuple #[.int .i64 (nV most x), .bool (nB most x)]) ∧ Below w.heap.size w w' := by
  have := number_any ⟨x.toArray⟩ most w (by rw [arr_size]; omega)
  unfold NumPost at this
  rw [arr_list, num_eq] at this
  exact this
def dgs : Nat → Nat → List UInt8 → Bool → Nat × List UInt8 × Bool
  | 0, n, l, b => (n, l, b)
  | m + 1, n, l, b => dgs m (n * 10 + nV 9 (tkS 1 l)) (tkR 1 l) (tkB 1 l b || !nB 9 (tkS 1 l))
set_option maxHeartbeats 2000000 in
theorem digits_any (r m : Nat) (hm : m ≤ 4) (l : List UInt8) (b : Bool) (hl : l.length ≤ 9223372036854775807) (w : World) (h : RS w r l b) :
    Calls Tryd.prog 47 #[.pointer (some ⟨r, 0, none⟩), .int .i64 m] w fun e w' => e = .returned (.int .i64 (dgs m 0 l b).1) ∧ RS w' r (dgs m 0 l b).2.1 (dgs m 0 l b).2.2 ∧ Chg r w w' := by
  go_enter Tryd.func47, Tryd.ntmps47
  go_wp2
  go_loopw [5, 9] (fun v iv wr => ∃ (i n : Nat) (l' : List UInt8) (b' : Bool), v = .int .i64 n ∧ iv = .int .i64 i ∧ i ≤ m ∧ Hid (n < pw i) ∧ Hid (RS wr r l' b' ∧ l'.length ≤ l.length ∧ dgs (m - i) n l' b' = dgs m 0 l b ∧ Chg r w wr)) (fun v iv wr => (m - intOf iv).toNat)
  case atStart => exact ⟨0, 0, l, b, rfl, rfl, Nat.zero_le _, Lib.hid (by decide), Lib.hid ⟨h, Nat.le_refl _, rfl, Chg.refl _ _⟩⟩
  case round =>
    obtain ⟨i, n, l', b', rfl, rfl, him, hn, hR⟩ := hrel
    have hn4 : n < 10000000 := by have := hn.out; have := pw_mono (k := i) (j := 4) (by omega); have h4 : pw 4 = 10000 := by decide
                                  omega
    by_cases hlt : i < m
    · have c1 := take_any r 1 l' b' (by omega) (by have := hR.out.2.1; omega) wr hR.out.1
      have c2 := fun w => num_any (tkS 1 l') 9 (by have := tkS_len 1 l'; omega) w
      have hv := nV_le 9 (tkS 1 l')
      have hR2 : Hid ((tkR 1 l').length ≤ l.length ∧ dgs (m - (i + 1)) (n * 10 + nV 9 (tkS 1 l')) (tkR 1 l') (tkB 1 l' b' || !nB 9 (tkS 1 l')) = dgs m 0 l b ∧ Chg r w wr) := Lib.hid ⟨Nat.le_trans (tkR_len 1 l') hR.out.2.1, by
        have := hR.out.2.2.1
        rw [show m - i = (m - (i + 1)) + 1 by omega, dgs] at this
        exact this, hR.out.2.2.2⟩
      have hn2 : Hid (n * 10 + nV 9 (tkS 1 l') < pw (i + 1)) := Lib.hid (by have := hn.out; show _ < pw i * 10; omega)
      generalize nV 9 (tkS 1 l') = nv at c2 hv hR2 hn2
      generalize nB 9 (tkS 1 l') = nb at c2 hR2
      have hrlt := hR.out.1.lt
      clear hR hn h
      go_wp2_with fail
      refine c1.mono ?_; rintro e w1 ⟨rfl, h1, g1⟩
      have HG := Lib.hid g1
      have H1 := Lib.hid h1
      clear g1 h1
      go_wp2_with fail
      refine (c2 _).mono ?_; rintro e w2 ⟨rfl, b2⟩
      have h2 := H1.out.below b2
      have g2 := HG.out.trans (Chg.of_below b2 (Nat.le_of_lt H1.out.lt))
      have H2 := Lib.hid g2
      clear g2 b2 H1 HG
      go_wp2_with fail
      refine (need_any r _ _ nb w2 h2).mono ?_; rintro e w3 ⟨rfl, h3, g3⟩
      clear h2
      go_wp2_with fail
      refine ⟨⟨i + 1, n * 10 + nv, tkR 1 l', _, by go_num, by go_num, by omega, hn2, Lib.hid ⟨h3, hR2.out.1, hR2.out.2.1, (hR2.out.2.2.trans H2.out).trans g3⟩⟩, by simp [intOf]; omega⟩
    · obtain rfl : i = m := by omega
      clear hlt
      go_wp2
      go_ret
      have h1 := hR.out.2.2.1
      rw [Nat.sub_self, dgs] at h1
      rw [← h1]
      exact ⟨rfl, hR.out.1, hR.out.2.2.2⟩
end Go.Proofs.YtjbojboiagbofaaDoor
