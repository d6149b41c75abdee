/- dateAt. -/
import Derived.Test.YtjbojboiagbofaaDoorC1
set_option linter.unusedSimpArgs false
set_option linter.unusedVariables false
namespace Go.Proofs.YtjbojboiagbofaaDoor
open Go.RowKit

/-- A struct Time just made. -/
def newT : Obj := .cells #[.int .i64 0, .int .i64 0, .int .i64 0, .int .i64 0, .int .i64 0, .int .i64 0, .int .i64 0] 24
theorem Days.below {w w' : World} (h : Days w) (hb : Below w.heap.size w w') : Days w' := by
  unfold Days Lib.TabIs World.var? at *
  cases hg : Tryd.prog.globalNamed "estafette/stamp.monthDays" with
  | none => rw [hg] at h; cases h
  | some g =>
    rw [hg] at h
    simp only [Option.bind_some] at h ⊢
    have hlt : g < w.heap.size := by
      rcases Nat.lt_or_ge g w.heap.size with h' | h'
      · exact h'
      · rw [Array.getElem?_eq_none h'] at h
        cases h
    rw [hb.block g hlt]
    exact h
set_option maxHeartbeats 1000000 in
theorem dateAt_any (n k j d : Nat) (h : IsDate (n + 365) k j d) (hn : n < 49711) (w : World) (hD : Days w) :
    Calls Tryd.prog 21 #[.int .i64 n] w fun e w' => e = .returned (.agg #[.int .i64 (1999 + k), .int .i64 (j + 1), .int .i64 (d + 1), .int .i64 0, .int .i64 0, .int .i64 0, .int .i64 0]) ∧ Below w.heap.size w w' := by
  obtain ⟨hk1, hk2⟩ := h.small hn
  have HN := Lib.hid hn
  clear hn
  go_enter Tryd.func21, Tryd.ntmps21
  go_wp2
  have hb1 : Below w.heap.size w (w.alloc newT) := (Below.refl _ _).alloc (Nat.le_refl _) _
  have hD1 := hD.below hb1
  unfold newT at hb1 hD1
  go_loopw [0, 3] (fun v y wr => ∃ (i r : Nat), v = .int .i64 r ∧ y = .int .i64 (1999 + i) ∧ Hid (yd i + r = n + 365) ∧ Hid (1 ≤ i) ∧ i ≤ k ∧ r ≤ 60000 ∧ wr = w.alloc (.cells #[.int .i64 0, .int .i64 0, .int .i64 0, .int .i64 0, .int .i64 0, .int .i64 0, .int .i64 0] 24)) (fun v y wr => (intOf v).toNat)
  case atStart => exact ⟨1, n, rfl, rfl, Lib.hid (by have : yd 1 = 365 := by decide
                                                     omega), Lib.hid (by omega), hk1, by have := HN.out; omega, rfl⟩
  case round =>
    obtain ⟨i, r, rfl, rfl, hs, hi1, hik, hr6, hwr⟩ := hrel
    rw [hwr]
    have hY := daysOfYear_any (1999 + (i : Int)) i rfl (by omega) (w.alloc (.cells #[.int .i64 0, .int .i64 0, .int .i64 0, .int .i64 0, .int .i64 0, .int .i64 0, .int .i64 0] 24))
    have hdi := diy_ge i
    by_cases hr : diy i ≤ r
    · have hlt : i < k := by
        rcases Nat.lt_or_ge i k with q | q
        · exact q
        · exfalso
          obtain rfl : i = k := by omega
          have h1 := h.year
          have h2 : yd (i + 1) = yd i + diy i := rfl
          have := hs.out
          omega
      have hrel2 : Hid (yd (i + 1) + (r - diy i) = n + 365) := Lib.hid (by
        have h2 : yd (i + 1) = yd i + diy i := rfl
        have := hs.out
        omega)
      have HL := Lib.hid hlt
      generalize diy i = di at hY hr hdi hrel2
      clear hik
      go_wp2_with (go_at_call 37; refine hY.mono ?_; rintro e w' ⟨rfl, hw⟩; rw [hw])
      refine ⟨⟨i + 1, r - di, by go_num, by go_num, hrel2, Lib.hid (by omega), HL.out, by omega, trivial⟩, by simp [intOf]; omega⟩
    · have hik2 : i = k := by
        refine h.of_year ?_ ?_
        · have := hs.out; omega
        · have h2 : yd (i + 1) = yd i + diy i := rfl
          have := hs.out
          omega
      subst hik2
      have hry := Lib.hid (show r < diy i by omega)
      have hr7 : r < 366 := by have := diy_le i; omega
      have hr8 : r < diy i := by omega
      generalize diy i = di at hY hr hdi hr8
      clear hik
      go_wp2_with (go_at_call 37; refine hY.mono ?_; rintro e w' ⟨rfl, hw⟩; rw [hw])
      go_loopw [0, 4] (fun v y wr => ∃ (l q : Nat), v = .int .i64 q ∧ y = .int .i64 (l + 1) ∧ Hid (yd i + md i l + q = n + 365) ∧ l ≤ j ∧ q ≤ 400 ∧ wr = w.alloc (.cells #[.int .i64 0, .int .i64 0, .int .i64 0, .int .i64 0, .int .i64 0, .int .i64 0, .int .i64 0] 24)) (fun v y wr => (intOf v).toNat)
      case atStart => exact ⟨0, r, rfl, rfl, Lib.hid (by have := hs.out; simpa [md] using this), Nat.zero_le _, by omega, rfl⟩
      case round =>
        obtain ⟨l, q, rfl, rfl, hs2, hlj, hq4, hwr2⟩ := hrel
        rw [hwr2]
        have hj12 := h.mon
        have hM := daysOfMonth_any (1999 + (i : Int)) (l + 1) i l rfl (by omega) rfl (by omega) _ hD1
        have hdm := dim_ge i l
        by_cases hq : dim i l ≤ q
        · have hlt2 : l < j := by
            rcases Nat.lt_or_ge l j with c | c
            · exact c
            · exfalso
              obtain rfl : l = j := by omega
              have h1 := h.sum
              have h2 := h.day
              have := hs2.out
              omega
          have hrel2 : Hid (yd i + md i (l + 1) + (q - dim i l) = n + 365) := Lib.hid (by
            have h2 : md i (l + 1) = md i l + dim i l := rfl
            have := hs2.out
            omega)
          have HL := Lib.hid hlt2
          generalize dim i l = di2 at hM hq hdm hrel2
          have hl12 : l < 12 := by omega
          clear hlj hr hdi hr8 hr7 hry hY hj12
          go_wp2_with (go_at_call 38; refine hM.mono ?_; rintro e w' ⟨rfl, hw⟩; rw [hw])
          refine ⟨⟨l + 1, q - di2, by go_num, by go_num, hrel2, by have := HL.out; omega, by omega, trivial⟩, by simp [intOf]; omega⟩
        · have hlj2 : l = j := by
            refine h.of_month ?_ ?_
            · have := hs2.out; omega
            · have h2 : md i (l + 1) = md i l + dim i l := rfl
              have := hs2.out
              omega
          subst hlj2
          have hqd : q = d := by have := hs2.out; have := h.sum; omega
          subst hqd
          generalize dim i l = di2 at hM hq hdm
          clear hlj hr hdi hr8 hr7 hry hY
          go_wp2_with (go_at_call 38; refine hM.mono ?_; rintro e w' ⟨rfl, hw⟩; rw [hw])
          refine bodyPost_ret (v := .agg #[.int .i64 (1999 + i), .int .i64 (l + 1), .int .i64 (q + 1), .int .i64 0, .int .i64 0, .int .i64 0, .int .i64 0]) (by simp [results, Tryd.results21, go_sem]) rfl ?_
          exact ⟨rfl, (Below.refl _ _).alloc (Nat.le_refl _) _⟩
end Go.Proofs.YtjbojboiagbofaaDoor
