/- The document's Of. -/
import Derived.Test.YtjbojboiagbofaaDoorC3
set_option linter.unusedSimpArgs false
set_option linter.unusedVariables false
namespace Go.Proofs.YtjbojboiagbofaaDoor
open Go.RowKit

def RD (N : Nat) (k j r : Nat) : Prop := yd k + md k j + r = N ∧ j < 12 ∧ 1 ≤ k
theorem RD.step {N k j r : Nat} (h : RD N k j r) (hd : dim k j ≤ r) : (j + 1 < 12 → RD N k (j + 1) (r - dim k j)) ∧ (j + 1 = 12 → RD N (k + 1) 0 (r - dim k j)) := by
  obtain ⟨h1, h2, h3⟩ := h
  have h4 : md k (j + 1) = md k j + dim k j := rfl
  refine ⟨fun q => ⟨by omega, q, h3⟩, fun q => ⟨?_, by omega, by omega⟩⟩
  have h5 := md_12 k
  have h6 : yd (k + 1) = yd k + diy k := rfl
  have h7 : md (k + 1) 0 = 0 := rfl
  obtain rfl : j = 11 := by omega
  have h8 : md k (11 + 1) = md k 12 := rfl
  omega
theorem RD.done {N k j r : Nat} (h : RD N k j r) (hd : r < dim k j) : IsDate N k j r := ⟨h.1.symm, h.2.1, hd⟩
theorem RD.year {N k j r k' j' d : Nat} (h : RD N k j r) (h' : IsDate N k' j' d) : k ≤ k' := by
  rcases Nat.lt_or_ge k' k with q | q
  · exfalso
    have := yd_mono (i := k' + 1) (j := k) q
    have := h'.year
    have := h.1
    omega
  · exact q
theorem RD.le {N k j r : Nat} (h : RD N k j r) : r ≤ N := by have := h.1; omega
set_option maxHeartbeats 2000000 in
theorem rof_any (s k j d : Nat) (hs : s < 4294967296) (h : IsDate (s / 86400 + 365) k j d) (w : World) :
    Calls Tryd.prog 11 #[.int .i64 s] w fun e w' => e = .returned (.tuple #[.agg (tmA k j d s), .int .i64 0]) ∧ Below w.heap.size w w' := by
  have hk := h.small (by omega)
  have hj := h.mon
  have hd := h.day
  have hd' := dim_le k j
  have H := Lib.hid h
  clear h
  have hR0 : RD (s / 86400 + 365) 1 0 (s / 86400) := ⟨by rw [show yd 1 = 365 by decide, show md 1 0 = 0 from rfl]; omega, by omega, by omega⟩
  have hh2 : (w.alloc newT).heap[w.heap.size]? = some newT := heap_alloc_new w newT
  have hb : Below w.heap.size w (w.alloc newT) := (Below.refl _ _).alloc (Nat.le_refl _) _
  have hz : w.heap.size < (w.alloc newT).heap.size := by simp
  go_enter Tryd.func11, Tryd.ntmps11
  go_wp2
  change Code.wp _ _ _ _ ((w.alloc newT).alloc _)
  rw [show w.heap.size + 1 = (w.alloc newT).heap.size by simp]
  generalize w.alloc newT = w2 at hh2 hb hz ⊢
  have e6 : ((6 : Int) + s / 86400) % 7 = ((s : Int) / 86400 + 6) % 7 := by rw [Int.add_comm]
  rw [e6]
  clear e6
  go_loopw [4] (fun v wr => ∃ (i l r : Nat), v = .int .i64 r ∧ Hid (RD (s / 86400 + 365) i l r) ∧ i ≤ k ∧ l < 12 ∧ r ≤ 60000 ∧ wr = w2.alloc (.cells #[.int .i64 (1999 + i), .int .i64 (l + 1), .int .i64 1, .int .i64 0, .int .i64 0, .int .i64 0, .int .i64 (((s : Int) / 86400 + 6) % 7)] 24)) (fun v wr => (intOf v).toNat)
  case atStart => exact ⟨1, 0, s / 86400, rfl, Lib.hid hR0, hk.1, by omega, by omega, rfl⟩
  case round =>
    obtain ⟨i, l, r, rfl, hR, hik, hl, hr6, hwr⟩ := hrel
    rw [hwr]
    have hM := rdays_any (1999 + (i : Int)) (l + 1) i l rfl (by omega) rfl hl
    have hdm := dim_ge i l
    by_cases hr : dim i l ≤ r
    · have hst := hR.out.step hr
      by_cases hl11 : l + 1 < 12
      · have hR2 := Lib.hid (hst.1 hl11)
        generalize dim i l = di at hM hr hdm hR2
        clear hst hR
        go_wp2_with (go_at_call 22; refine (hM _).mono ?_; rintro e w' ⟨rfl, hw⟩; rw [hw])
        refine ⟨⟨i, l + 1, r - di, by go_num, hR2, hik, hl11, by omega, by go_num⟩, by simp [intOf]; omega⟩
      · have hR2 := Lib.hid (hst.2 (by omega))
        have hi2 := Lib.hid (hR2.out.year H.out)
        have hl11' : l = 11 := by omega
        subst hl11'
        generalize dim i 11 = di at hM hr hdm hR2
        clear hst hR hl11
        go_wp2_with (go_at_call 22; refine (hM _).mono ?_; rintro e w' ⟨rfl, hw⟩; rw [hw])
        refine ⟨⟨i + 1, 0, r - di, by go_num, hR2, hi2.out, by omega, by omega, by go_num⟩, by simp [intOf]; omega⟩
    · obtain ⟨rfl, rfl, rfl⟩ := H.out.unique (hR.out.done (by omega))
      generalize dim i l = di at hM hr hdm
      go_wp2_with (first | (go_at_call 22; refine (hM _).mono ?_; rintro e w' ⟨rfl, hw⟩; rw [hw]) | (refine wpL_storeT rfl (.tmp 2) (.tmp 59) rfl rfl rfl ((heap_alloc_old _ _ hz).trans hh2) rfl rfl (by simp [Value.oneCell']) (hb.alloc (by omega) _) (Nat.le_refl _) ?_; intro w3 h3 b3))
      refine bodyPost_ret (results_T2 Tryd.results11 rfl rfl h3 rfl) rfl ?_
      refine ⟨?_, b3⟩
      rw [show (1 : Int) + r = r + 1 by omega]
      rfl
theorem rof_none (n : Int) (hn : ¬ (0 ≤ n ∧ n < 4294967296)) (w : World) :
    Calls Tryd.prog 11 #[.int .i64 n] w fun e w' => e = .returned (.tuple #[.agg noT, .int .i64 80]) ∧ Below w.heap.size w w' := by
  rcases (show n < 0 ∨ (¬ n < 0 ∧ 4294967296 ≤ n) by omega) with h1 | ⟨h1, h2⟩
  all_goals
    clear hn
    go_enter Tryd.func11, Tryd.ntmps11
    go_wp2
    refine bodyPost_ret (results_T2 Tryd.results11 rfl rfl (heap_alloc_new w _) rfl) rfl ?_
    exact ⟨rfl, (Below.refl _ _).alloc (Nat.le_refl _) _⟩
end Go.Proofs.YtjbojboiagbofaaDoor
