/- Commit, whatever the log does. -/
import Derived.Test.YtoccnaebckcfmaaK12
set_option linter.unusedSimpArgs false
set_option linter.unusedVariables false
set_option maxRecDepth 8000
namespace Go.Proofs.Ytoccnaebckcfmaa
open Go.RowKit
open Go.ChangeMaps (setBlock)

theorem isAgg55 (w : World) : (isAgg 55).run Try.prog w = .ok false w := by kernel_rfl
def CaS.committed (C : CaS) : CaS := ({ C with opn := false, pin := [] } : CaS).evict

def ComQ (w0 : World) (cb d wb : Nat) (C : CaS) (Q : Int → List Res → Prop) (e : Ending) (w' : World) : Prop :=
  ∃ (z : Int) (Rs' : List Res) (F' : List Nat), e = .returned (.int .i64 z) ∧ Q z Rs' ∧ Has w0 w' (CRes cb d wb F' (if z = 0 then C.committed else C) :: Rs')

set_option maxHeartbeats 4000000 in
theorem ccommit_any {w0 w : World} {cb d wb : Nat} {F FD : List Nat} {C : CaS} {Rs : List Res} {Q : Int → List Res → Prop} (h : Has w0 w (CRes cb d wb F C :: Rs)) (ho : C.opn = true) (hFD : ∀ x ∈ FD, x < w.heap.size)
    (hW : ∀ w1 lv, Has w0 w1 (CRes cb d wb F C :: Rs) → PutsAt w1 FD lv (putsC C) → Calls Try.prog 46 #[pp wb, lv] w1 fun e w2 => ∃ (z : Int) (Rs' : List Res), e = .returned (.int .i64 z) ∧ Q z Rs' ∧ Has w0 w2 (CRes cb d wb F C :: Rs')) :
    Calls Try.prog 19 #[pp cb] w fun e w' => ComQ w0 cb d wb C Q e w' := by
  obtain ⟨hm, pm, ov, h1, ok, hF⟩ := h.cat (cb := cb) (d := d) (wb := wb) (F := F) (C := C) (by simp)
  obtain ⟨c0, c1, c2, c3, c4, c5, c6, c7, fz⟩ := h1.cells
  rw [ho] at c3
  have GR := Lib.hid (cgroup_any (w := w.drew) (h1.congr (fun _ _ => rfl)) ok (FD := FD) hFD)
  have HW := Lib.hid h.drew
  have c1' : w.drew.cell? ⟨cb, 1, none⟩ = some (pp wb) := c1
  have OK := Lib.hid ok
  clear h1 c0 c2 c4 c5 c6 c7 fz h ok c1
  have c1 := c1'
  clear c1'
  show Calls Try.prog 19 #[.pointer (some ⟨cb, 0, none⟩)] w _
  go_enter Try.func19, Try.ntmps19
  go_wp2_with fail
  refine wp_region_flowR Lat [0, 0, 0, 1, 0, 2, 3, 0] (by kernel_rfl) (by kernel_rfl) Lat.refl Lat.trans ?_
  refine fr0 (u := .pointer (some ⟨cb, 0, none⟩)) rfl (fun _ => rfl) ?_
  simp only [Act.put, List.setIfInBounds_toArray, List.set_cons_succ, List.set_cons_zero]
  refine fr0 rfl (fun _ => rfl) ?_
  simp only [Act.put, List.setIfInBounds_toArray, List.set_cons_succ, List.set_cons_zero]
  refine fr0 rfl (run_field74 (k := 1) (by omega) rfl rfl) ?_
  simp only [Act.put, List.setIfInBounds_toArray, List.set_cons_succ, List.set_cons_zero]
  refine fr1 (u := pp wb) rfl (fun x hx => run_load1 rfl rfl (hx.cell c1) isAgg55) ?_
  simp only [Act.put, List.setIfInBounds_toArray, List.set_cons_succ, List.set_cons_zero]
  refine fr0 (u := .pointer (some ⟨cb, 0, none⟩)) rfl (fun _ => rfl) ?_
  simp only [Act.put, List.setIfInBounds_toArray, List.set_cons_succ, List.set_cons_zero]
  refine fr2c rfl (run_enter1 Try.call47 rfl rfl) GR.out ?_
  rintro e w1 ⟨lv, rfl, hpu, o1⟩
  refine ⟨_, rfl, o1.lat, ?_⟩
  simp only [Act.put, List.setIfInBounds_toArray, List.set_cons_succ, List.set_cons_zero]
  refine fr3c rfl (run_enter2 Try.call46 rfl rfl rfl) (hW w1 lv (HW.out.later o1) hpu) ?_
  rintro e w2 ⟨z, Rs2, rfl, hQ, h2⟩
  refine ⟨_, rfl, ?_⟩
  simp only [Act.put, List.setIfInBounds_toArray, List.set_cons_succ, List.set_cons_zero]
  refine fr0 (u := .int .i64 z) rfl (fun _ => rfl) ?_
  simp only [Act.put, List.setIfInBounds_toArray, List.set_cons_succ, List.set_cons_zero]
  refine frnil ?_
  show Exit.then _ _ _ _ _
  clear GR HW c1
  obtain ⟨hm2, pm2, ov2, g2, ok2, hF2⟩ := h2.cat (cb := cb) (d := d) (wb := wb) (F := F) (C := C) (by simp)
  by_cases hz : z = 0
  · subst hz
    have EN := Lib.hid (end_any g2)
    have H2 := Lib.hid h2
    clear h2 g2 hW hpu o1
    go_wp2_with fail
    refine EN.out.mono ?_
    rintro e w3 ⟨rfl, g3, o3⟩
    have EV := Lib.hid (evict_any g3 ok2.ended)
    have O3 := Lib.hid o3
    clear EN g3 o3
    go_wp2_with fail
    refine EV.out.mono ?_
    rintro e w4 ⟨rfl, ov4, hov, g4, o4⟩
    have hp : CPost w2 w4 cb d wb F C.committed := by
      rw [hF2]
      exact CPost.mk (ov := ov2) (C' := C.committed) g4 ok2.ended.evict (fun g hg => .inl (hov ▸ hg)) (O3.out.trans o4 (fun x hx => .inl hx))
    obtain ⟨F4, h4⟩ := H2.out.cache hp
    have FIN : Hid (ComQ w0 cb d wb C Q (.returned (.int .i64 0)) w4) := (⟨0, Rs2, F4, rfl, hQ, by rw [if_pos rfl]; exact h4⟩ : ComQ w0 cb d wb C Q (.returned (.int .i64 0)) w4)
    clear EV g4 o4 hp h4 H2 hQ
    go_wp2
    go_ret
    exact FIN.out
  · have hzb : (z != 0) = true := by simp [hz]
    have FIN : Hid (ComQ w0 cb d wb C Q (.returned (.int .i64 z)) w2) := (⟨z, Rs2, F, rfl, hQ, by rw [if_neg hz]; exact h2⟩ : ComQ w0 cb d wb C Q (.returned (.int .i64 z)) w2)
    clear h2 g2 hW hpu o1 hQ
    go_wp2
    go_ret
    exact FIN.out

set_option maxHeartbeats 1000000 in
theorem ccommit_closed {w : World} {cb d wb : Nat} {F : List Nat} {C : CaS} (h : CAt w cb d wb F C) (ho : C.opn = false) : Calls Try.prog 19 #[pp cb] w fun e w' => e = .returned (.int .i64 30) ∧ w' = w := by
  obtain ⟨hm, pm, ov, h1, ok, rfl⟩ := h
  obtain ⟨c0, c1, c2, c3, c4, c5, c6, c7, fz⟩ := h1.cells
  rw [ho] at c3
  clear h1 ok c0 c1 c2 c4 c5 c6 c7 fz
  show Calls Try.prog 19 #[.pointer (some ⟨cb, 0, none⟩)] w _
  go_enter Try.func19, Try.ntmps19
  go_wp2
  go_ret
  exact ⟨rfl, rfl⟩
end Go.Proofs.Ytoccnaebckcfmaa
