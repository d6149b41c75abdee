/- isDate: no such date; daysTo. -/
import Derived.Test.YtjbojboiagbofaaDoorC5
set_option linter.unusedSimpArgs false
set_option linter.unusedVariables false
namespace Go.Proofs.YtjbojboiagbofaaDoor
open Go.RowKit

set_option maxHeartbeats 1000000 in
theorem isDate_no (y m d h mi se wd : Int) (ho : ¬ OkD 2136 y m d) (w : World) (hD : Days w) :
    Calls Tryd.prog 41 #[.agg #[.int .i64 y, .int .i64 m, .int .i64 d, .int .i64 h, .int .i64 mi, .int .i64 se, .int .i64 wd]] w fun e w' => e = .returned (.bool false) ∧ Below w.heap.size w w' := by
  have hbb := below_dn (w := w) #[.int .i64 y, .int .i64 m, .int .i64 d, .int .i64 h, .int .i64 mi, .int .i64 se, .int .i64 wd]
  by_cases h1 : 1999 ≤ y ∧ y ≤ 2136
  · have c1 := within_yes y 1999 2136 h1
    by_cases h2 : 1 ≤ m ∧ m ≤ 12
    · have c2 := within_yes m 1 12 h2
      obtain ⟨k, hk⟩ : ∃ k : Nat, y = 1999 + k := ⟨(y - 1999).toNat, by omega⟩
      obtain ⟨j, hj⟩ : ∃ j : Nat, m = j + 1 := ⟨(m - 1).toNat, by omega⟩
      have c3 := within_no d 1 (dim k j) (fun q => ho ⟨k, j, (d - 1).toNat, hk, by omega, hj, by omega, by omega, by omega⟩)
      have hD1 : ∀ n, Days ((w.alloc (.cells #[.int .i64 y, .int .i64 m, .int .i64 d, .int .i64 h, .int .i64 mi, .int .i64 se, .int .i64 wd] 24)).drewN n) := fun n => (hD.below ((Below.refl _ _).alloc (Nat.le_refl _) _)).drewN n
      have c4 := fun W hW => daysOfMonth_any y m k j hk (by omega) hj (by omega) W hW
      clear h1 h2 hk hj ho hD
      go_enter Tryd.func41, Tryd.ntmps41
      go_wp2
      go_quiet (first
        | (go_at_call 38; exact (c4 _ (hD1 _)).mono fun _ _ hh => ⟨hh.1, _, hh.2⟩)
        | (go_at_call 36; with_reducible first | exact qSame c1 | exact qSame c2 | exact qSame c3))
      go_wp2
      go_ret
      exact ⟨rfl, hbb _⟩
    · have c2 := within_no m 1 12 h2
      clear ho h1 h2 hD
      go_enter Tryd.func41, Tryd.ntmps41
      go_wp2
      go_quiet ((go_at_call 36; with_reducible first | exact qSame c1 | exact qSame c2))
      go_wp2
      go_ret
      exact ⟨rfl, hbb _⟩
  · have c1 := within_no y 1999 2136 h1
    clear ho h1 hD
    go_enter Tryd.func41, Tryd.ntmps41
    go_wp2
    go_quiet ((go_at_call 36; with_reducible exact qSame c1))
    go_wp2
    go_ret
    exact ⟨rfl, hbb _⟩
set_option maxHeartbeats 2000000 in
theorem daysTo_any (y m d h mi se wd : Int) (k j e : Nat) (hy : y = 1999 + k) (hk : k ≤ 137) (hm : m = j + 1) (hj : j < 12) (hd : d = e + 1) (he : e < dim k j) (w : World) (hD : Days w) :
    Calls Tryd.prog 43 #[.agg #[.int .i64 y, .int .i64 m, .int .i64 d, .int .i64 h, .int .i64 mi, .int .i64 se, .int .i64 wd]] w fun e' w' => e' = .returned (.int .i64 ((yd k + md k j + e : Nat) - 365)) ∧ Below w.heap.size w w' := by
  subst hy hm hd
  have hY0 : ∀ w, Calls Tryd.prog 37 #[.int .i64 1999] w fun e w' => e = .returned (.int .i64 365) ∧ w' = w := daysOfYear_any 1999 0 (by omega) (by omega)
  have hbb := below_dn (w := w) #[.int .i64 (1999 + k), .int .i64 (j + 1), .int .i64 (e + 1), .int .i64 h, .int .i64 mi, .int .i64 se, .int .i64 wd]
  have hD1 : ∀ n, Days ((w.alloc (.cells #[.int .i64 (1999 + k), .int .i64 (j + 1), .int .i64 (e + 1), .int .i64 h, .int .i64 mi, .int .i64 se, .int .i64 wd] 24)).drewN n) := fun n => (hD.below ((Below.refl _ _).alloc (Nat.le_refl _) _)).drewN n
  have hh1 : ∀ n, ((w.alloc (.cells #[.int .i64 (1999 + k), .int .i64 (j + 1), .int .i64 (e + 1), .int .i64 h, .int .i64 mi, .int .i64 se, .int .i64 wd] 24)).drewN n).heap[w.heap.size]? = some (.cells #[.int .i64 (1999 + k), .int .i64 (j + 1), .int .i64 (e + 1), .int .i64 h, .int .i64 mi, .int .i64 se, .int .i64 wd] 24) := fun n => heap_alloc_new w _
  have he2 := dim_le k j
  go_enter Tryd.func43, Tryd.ntmps43
  go_wp2
  go_quiet ((go_at_call 37; with_reducible exact qSame hY0))
  have hD2 := hD1 nq
  have hb2 := hbb nq
  have hh2 := hh1 nq
  generalize (w.alloc (.cells #[.int .i64 (1999 + k), .int .i64 (j + 1), .int .i64 (e + 1), .int .i64 h, .int .i64 mi, .int .i64 se, .int .i64 wd] 24)).drewN nq = w1 at hD2 hb2 hh2 ⊢
  have q0 : w1.cell? ⟨w.heap.size, 0, none⟩ = some (.int .i64 (1999 + k)) := by rw [cell_of_row _ _ _ _ _ _ hh2]; rfl
  have q1 : w1.cell? ⟨w.heap.size, 1, none⟩ = some (.int .i64 (j + 1)) := by rw [cell_of_row _ _ _ _ _ _ hh2]; rfl
  clear hD1 hbb hh1 hh2 hD hY0
  go_wp2
  go_loopw [3, 4] (fun v yv wr => ∃ (i : Nat), v = .int .i64 ((yd i : Int) + e - 365) ∧ yv = .int .i64 (1999 + i) ∧ i ≤ k ∧ wr = w1) (fun v yv wr => (1999 + k - intOf yv).toNat)
  case atStart => exact ⟨0, by rw [show yd 0 = 0 from rfl]; go_num, by go_num, Nat.zero_le _, rfl⟩
  case round =>
    obtain ⟨i, rfl, rfl, hik, hwr⟩ := hrel
    rw [hwr]
    have hyi := yd_le i
    by_cases hlt : i < k
    · have hY := daysOfYear_any (1999 + (i : Int)) i rfl (by omega)
      have hs : Hid (((yd i + diy i : Nat) : Int) = yd (i + 1)) := Lib.hid rfl
      have hdi := diy_le i
      generalize diy i = di at hY hs hdi
      generalize yd i = ydi at hyi hs ⊢
      clear hb2 hD2
      go_wp2_with (go_at_call 37; refine (hY _).mono ?_; rintro e w' ⟨rfl, hw⟩; rw [hw])
      have := hs.out
      refine ⟨⟨i + 1, by rw [← this]; go_num, by go_num, by omega, trivial⟩, by simp [intOf]; omega⟩
    · obtain rfl : i = k := by omega
      have hyi2 := Lib.hid hyi
      generalize hyd : yd i = ydi at hyi ⊢
      have hydH := Lib.hid hyd
      clear hyd hlt
      go_wp2_with fail
      go_loopw [3, 5] (fun v mv wr => ∃ (l : Nat), v = .int .i64 (((ydi + md i l : Nat) : Int) + e - 365) ∧ mv = .int .i64 (l + 1) ∧ l ≤ j ∧ wr = w1) (fun v mv wr => (1 + j - intOf mv).toNat)
      case atStart => exact ⟨0, by rw [show md i 0 = 0 from rfl]; rfl, by go_num, Nat.zero_le _, rfl⟩
      case round =>
        obtain ⟨l, rfl, rfl, hlj, hwr2⟩ := hrel
        rw [hwr2]
        have hml := md_mono i (i := l) (j := 12) (by omega)
        rw [md_12] at hml
        have hd6 := diy_le i
        by_cases hlt : l < j
        · have hM := daysOfMonth_any (1999 + (i : Int)) (l + 1) i l rfl (by omega) rfl (by omega) w1 hD2
          have hs : Hid (md i l + dim i l = md i (l + 1)) := Lib.hid rfl
          have hdi := dim_le i l
          generalize dim i l = di at hM hs hdi
          generalize md i l = mdl at hml hs ⊢
          clear hb2 hD2
          have hml2 : mdl ≤ 366 := by omega
          clear hml hd6
          go_wp2_with (go_at_call 38; refine hM.mono ?_; rintro e w' ⟨rfl, hw⟩; rw [hw])
          have := hs.out
          refine ⟨⟨l + 1, by rw [← this]; go_num, by go_num, by omega, trivial⟩, by simp [intOf]; omega⟩
        · obtain rfl : l = j := by omega
          clear hlt
          have hml2 : md i l ≤ 366 := by omega
          generalize hmdl : md i l = mdl at hml2 ⊢
          have hH := Lib.hid hmdl
          clear hmdl hml hd6
          go_wp2
          go_ret
          refine ⟨ret_int ?_, hb2⟩
          rw [hydH.out, hH.out]
          omega
end Go.Proofs.YtjbojboiagbofaaDoor
