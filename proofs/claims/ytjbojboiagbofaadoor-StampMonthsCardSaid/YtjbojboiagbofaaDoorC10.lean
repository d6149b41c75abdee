/- The document's seconds of a date that there is. -/
import Derived.Test.YtjbojboiagbofaaDoorC8
set_option linter.unusedSimpArgs false
set_option linter.unusedVariables false
namespace Go.Proofs.YtjbojboiagbofaaDoor
open Go.RowKit

set_option maxHeartbeats 2000000 in
theorem rat_yes (h mi se wd : Int) (k j e : Nat) (hk : k ≤ 138) (hj : j < 12) (he : e < dim k j) (hT : OkH h mi se) (w : World) :
    Calls Tryd.prog 32 #[.agg #[.int .i64 (1999 + k), .int .i64 (j + 1), .int .i64 (e + 1), .int .i64 h, .int .i64 mi, .int .i64 se, .int .i64 wd]] w fun e' w' => e' = .returned (.tuple #[.int .i64 (((yd k + md k j + e : Nat) - 365) * 86400 + h * 3600 + mi * 60 + se), .bool true]) ∧ Below w.heap.size w w' := by
  have hbb := below_dn (w := w) #[.int .i64 (1999 + k), .int .i64 (j + 1), .int .i64 (e + 1), .int .i64 h, .int .i64 mi, .int .i64 se, .int .i64 wd]
  have hh1 : ∀ n, ((w.alloc (.cells #[.int .i64 (1999 + k), .int .i64 (j + 1), .int .i64 (e + 1), .int .i64 h, .int .i64 mi, .int .i64 se, .int .i64 wd] 24)).drewN n).heap[w.heap.size]? = some (.cells #[.int .i64 (1999 + k), .int .i64 (j + 1), .int .i64 (e + 1), .int .i64 h, .int .i64 mi, .int .i64 se, .int .i64 wd] 24) := fun n => heap_alloc_new w _
  have cd := rdays_any (1999 + (k : Int)) (j + 1) k j rfl (by omega) rfl hj
  have he2 := dim_le k j
  obtain ⟨⟨t1, t2⟩, ⟨t3, t4⟩, ⟨t5, t6⟩⟩ := hT
  have he3 : (e : Int) + 1 ≤ (dim k j : Int) := by omega
  generalize (dim k j : Int) = D at cd he3
  have g1 : decide ((1999 : Int) + k < 1999) = false := decide_eq_false (by omega)
  have g2 : decide ((2137 : Int) < 1999 + k) = false := decide_eq_false (by omega)
  have g3 : decide ((j : Int) + 1 < 1) = false := decide_eq_false (by omega)
  have g4 : decide ((12 : Int) < j + 1) = false := decide_eq_false (by omega)
  have g5 : decide ((e : Int) + 1 < 1) = false := decide_eq_false (by omega)
  have g6 : decide (D < (e : Int) + 1) = false := decide_eq_false (by omega)
  have g7 : decide (h < 0) = false := decide_eq_false (by omega)
  have g8 : decide (23 < h) = false := decide_eq_false (by omega)
  have g9 : decide (mi < 0) = false := decide_eq_false (by omega)
  have g10 : decide (59 < mi) = false := decide_eq_false (by omega)
  have g11 : decide (se < 0) = false := decide_eq_false (by omega)
  have g12 : decide (59 < se) = false := decide_eq_false (by omega)
  have HB := Lib.hid (And.intro t1 (And.intro t2 (And.intro t3 (And.intro t4 (And.intro t5 t6)))))
  clear t1 t2 t3 t4 t5 t6 he3
  have he4 : e < 31 := by omega
  clear he he2
  go_enter Tryd.func32, Tryd.ntmps32
  go_wp2
  go_quiet ((go_at_call 22; with_reducible exact qSame cd))
  have hb2 := hbb nq
  have hh2 := hh1 nq
  generalize (w.alloc (.cells #[.int .i64 (1999 + k), .int .i64 (j + 1), .int .i64 (e + 1), .int .i64 h, .int .i64 mi, .int .i64 se, .int .i64 wd] 24)).drewN nq = w1 at hb2 hh2 ⊢
  have q0 : w1.cell? ⟨w.heap.size, 0, none⟩ = some (.int .i64 (1999 + k)) := by rw [cell_of_row _ _ _ _ _ _ hh2]; rfl
  have q1 : w1.cell? ⟨w.heap.size, 1, none⟩ = some (.int .i64 (j + 1)) := by rw [cell_of_row _ _ _ _ _ _ hh2]; rfl
  have q2 : w1.cell? ⟨w.heap.size, 2, none⟩ = some (.int .i64 (e + 1)) := by rw [cell_of_row _ _ _ _ _ _ hh2]; rfl
  have q3 : w1.cell? ⟨w.heap.size, 3, none⟩ = some (.int .i64 h) := by rw [cell_of_row _ _ _ _ _ _ hh2]; rfl
  have q4 : w1.cell? ⟨w.heap.size, 4, none⟩ = some (.int .i64 mi) := by rw [cell_of_row _ _ _ _ _ _ hh2]; rfl
  have q5 : w1.cell? ⟨w.heap.size, 5, none⟩ = some (.int .i64 se) := by rw [cell_of_row _ _ _ _ _ _ hh2]; rfl
  clear hbb hh1 hh2 cd g1 g2 g3 g4 g5 g6 g7 g8 g9 g10 g11 g12
  go_wp2
  go_loopw [4, 5] (fun v mv wr => ∃ (l : Nat), v = .int .i64 ((e + md k l : Nat) : Int) ∧ mv = .int .i64 (l + 1) ∧ l ≤ j ∧ wr = w1) (fun v mv wr => (1 + j - intOf mv).toNat)
  case atStart => exact ⟨0, by rw [show md k 0 = 0 from rfl]; rfl, by go_num, Nat.zero_le _, rfl⟩
  case round =>
    obtain ⟨l, rfl, rfl, hlj, hwr⟩ := hrel
    rw [hwr]
    have hml := md_mono k (i := l) (j := 12) (by omega)
    rw [md_12] at hml
    have hd6 := diy_le k
    have hml2 : md k l ≤ 366 := by omega
    clear hml hd6
    by_cases hlt : l < j
    · have hM := rdays_any (1999 + (k : Int)) (l + 1) k l rfl (by omega) rfl (by omega)
      have hs : Hid (md k l + dim k l = md k (l + 1)) := Lib.hid rfl
      have hdi := dim_le k l
      generalize dim k l = di at hM hs hdi
      generalize md k l = mdl at hml2 hs ⊢
      clear hb2
      go_wp2_with (go_at_call 22; refine (hM _).mono ?_; rintro e w' ⟨rfl, hw⟩; rw [hw])
      have := hs.out
      refine ⟨⟨l + 1, by rw [← this]; go_num, by go_num, by omega, trivial⟩, by simp [intOf]; omega⟩
    · obtain rfl : l = j := by omega
      clear hlt
      generalize hmdl : md k l = mdl at hml2 ⊢
      have hH := Lib.hid hmdl
      clear hmdl
      have hk0 := Lib.hid (Nat.zero_le k)
      by_cases hk1 : 1 ≤ k
      · go_wp2_with fail
        go_loopw [4, 6] (fun v yv wr => ∃ (i r : Nat), v = .int .i64 ((e + mdl + r : Nat) : Int) ∧ yv = .int .i64 (1999 + i) ∧ 1 ≤ i ∧ i ≤ k ∧ Hid (r + 365 = yd i) ∧ wr = w1) (fun v yv wr => (1999 + k - intOf yv).toNat)
        case atStart => exact ⟨1, 0, by simp, by go_num, by omega, hk1, Lib.hid (by decide), rfl⟩
        case round =>
          obtain ⟨i, r, rfl, rfl, hi1, hik, hr, hwr2⟩ := hrel
          rw [hwr2]
          have hyi := yd_le i
          have hr2 : r ≤ 366 * i := by have := hr.out; omega
          clear hyi
          by_cases hlt2 : i < k
          · have hL := rleap_any (1999 + (i : Int)) i rfl (by omega)
            have hs : Hid (yd (i + 1) = yd i + (if leap i then 366 else 365)) := Lib.hid rfl
            clear hb2
            cases hlp : leap i
            · rw [hlp] at hL hs
              go_wp2_with (go_at_call 39; refine (hL _).mono ?_; rintro e w' ⟨rfl, hw⟩; rw [hw])
              have h1 := hs.out
              have h2 := hr.out
              have h3 : yd (i + 1) = yd i + 365 := h1
              refine ⟨⟨i + 1, r + 365, congrArg (Value.int IntKind.i64) (by omega), by go_num, by omega, by omega, Lib.hid (by omega), trivial⟩, by simp [intOf]; omega⟩
            · rw [hlp] at hL hs
              go_wp2_with (go_at_call 39; refine (hL _).mono ?_; rintro e w' ⟨rfl, hw⟩; rw [hw])
              have h1 := hs.out
              have h2 := hr.out
              have h3 : yd (i + 1) = yd i + 366 := h1
              refine ⟨⟨i + 1, r + 366, congrArg (Value.int IntKind.i64) (by omega), by go_num, by omega, by omega, Lib.hid (by omega), trivial⟩, by simp [intOf]; omega⟩
          · obtain rfl : i = k := by omega
            clear hlt2
            obtain ⟨t1, t2, t3, t4, t5, t6⟩ := HB.out
            go_wp2
            go_ret2
            refine ⟨?_, hb2⟩
            have h1 := hH.out
            have h2 := hr.out
            rw [h1, ← h2, show (86400 : Int) * (e + mdl + r) + 3600 * h + 60 * mi + se = (((r + 365 + mdl + e : Nat) : Int) - 365) * 86400 + h * 3600 + mi * 60 + se by omega]
            rfl
      · obtain rfl : k = 0 := by omega
        obtain ⟨t1, t2, t3, t4, t5, t6⟩ := HB.out
        go_wp2_with fail
        go_loopw [4, 6] (fun v yv wr => v = .int .i64 ((e + mdl : Nat) : Int) ∧ yv = .int .i64 2000 ∧ wr = w1) (fun v yv wr => (1999 + 1 - intOf yv).toNat)
        case atStart => exact ⟨rfl, rfl, rfl⟩
        case round =>
          obtain ⟨rfl, rfl, hwr2⟩ := hrel
          rw [hwr2]
          go_wp2
          go_ret2
          refine ⟨?_, hb2⟩
          have h1 := hH.out
          rw [h1, show yd 0 = 0 from rfl]
          rw [show (86400 : Int) * (e + mdl - 365) + 3600 * h + 60 * mi + se = (((0 + mdl + e : Nat) : Int) - 365) * 86400 + h * 3600 + mi * 60 + se by omega]
          rfl
end Go.Proofs.YtjbojboiagbofaaDoor
