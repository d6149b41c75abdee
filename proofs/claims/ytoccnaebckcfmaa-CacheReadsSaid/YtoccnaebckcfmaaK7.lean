/- What hold does, walked. -/
import Derived.Test.YtoccnaebckcfmaaK6
set_option linter.unusedSimpArgs false
set_option linter.unusedVariables false
set_option maxRecDepth 8000
namespace Go.Proofs.Ytoccnaebckcfmaa
open Go.RowKit
open Go.ChangeMaps (setBlock)

section
variable {ops : Array Oper} {rest : List Oper} {o : Oper} {a : Act} {Q : Exit → Act → World → Prop} {w : World}
theorem run_load69 {x : Operand} {g : Nat} {v : Array Value} {t : TypeId} (ho : o.op = .load 69 x) (hx : a.eval x = .pointer (some ⟨g, 0, none⟩)) (hb : w.heap[g]? = some (.cells v t (0, 0))) (hv : v.size = 64) :
    (execOp a.eval o).run Try.prog w = .ok (.value (.agg v)) w := by
  unfold execOp
  simp only [ho, hx, Instr.loadAt, Instr.sureAddr, Sem.run_bind, Sem.run_pure, Result.andThen_ok, run_loadVar_row (P := Try.prog) w g t 69 v (0, 0) (.array 64 5) hb Try.underlying69 rfl (by rw [info69, hv])]
theorem isAgg71 (w : World) : (isAgg 71).run Try.prog w = .ok false w := by kernel_rfl
theorem does_update71 {m x y : Operand} {b : Nat} {f : Int → Option (Array Value)} {k : Int} {v : Array Value} (ho : o.op = .mapUpdate 71 m x y) (hm : a.eval m = .map (some b)) (hx : a.eval x = .int .i64 k) (hy : a.eval y = .agg v) (hf : MapAt w b f) :
    ∃ ob, Does Try.prog o a w undef (setBlock w b ob) ∧ MapAt (setBlock w b ob) b (updF f k v) := by
  obtain ⟨ob, hr, hm'⟩ := hf.update (P := Try.prog) Try.underlying71 Try.underlying3 k v
  refine ⟨ob, .inr (.inl ⟨?_, rfl⟩), hm'⟩
  unfold execOp
  rw [ho]
  simp only [hm, hx, hy, Sem.run_bind, hr, Result.andThen]
  rfl
theorem fr3_update71 {L : World → World → Prop} {K : Act → World → Prop} {r : List Oper} {ks : List Nat} {m x y : Operand} {b : Nat} {f : Int → Option (Array Value)} {k : Int} {v : Array Value} (hw : Region.wanted o (yielded ops a.tmps) = true) (ho : o.op = .mapUpdate 71 m x y) (hm : a.eval m = .map (some b)) (hx : a.eval x = .int .i64 k) (hy : a.eval y = .agg v) (hf : MapAt w b f)
    (h : ∀ ob, MapAt (setBlock w b ob) b (updF f k v) → wpFlowR Try.prog ops L K ks r (a.put o.dst undef) (setBlock w b ob)) : wpFlowR Try.prog ops L K (3 :: ks) (o :: r) a w := by
  obtain ⟨ob, hd, hm'⟩ := does_update71 ho hm hx hy hf
  exact fr3 hw hd (h ob hm')
end

def HoldPost (cb d wb hm pm : Nat) (ov : Value) (C : CaS) (i : Int) (v : Array Value) (w : World) (e : Ending) (w' : World) : Prop :=
  e = .returned (.tuple #[]) ∧ ∃ ov', (∀ g, ov'.ownBlock = some g → ov.ownBlock = some g ∨ w.heap.size ≤ g) ∧ CIs w' cb d wb hm pm ov' { C with ord := useL C.ord i, held := updF C.held i v } ∧ Only (cfoot cb hm pm ov) w w'

set_option maxHeartbeats 4000000 in
theorem hold_any {w : World} {cb d wb hm pm : Nat} {ov : Value} {C : CaS} (h : CIs w cb d wb hm pm ov C) (hnd : C.ord.Nodup) (hlen : C.ord.length ≤ 8192) (i : Int) (v : Array Value) (hv : SecOk v) : Calls Try.prog 39 #[pp cb, .int .i64 i, .agg v] w fun e w' => HoldPost cb d wb hm pm ov C i v w e w' := by
  have lt := h.lt
  obtain ⟨oa, ocap, rfl, oc1, oc2⟩ := h.slice
  have o0 : Only [] w (w.alloc (.cells v 69)) := (Only.refl [] w).alloc _
  have hvb := heap_alloc_last w (.cells v 69)
  have h1 := h.only o0 (by simp)
  obtain ⟨c0, c1, c2, c3, c4, c5, c6, c7, fz⟩ := h1.cells
  have IX := Lib.hid (index_any h1 hlen i)
  have f6 := fz 6
  have hs0 : (w.alloc (.cells v 69)).heap.size = w.heap.size + 1 := by simp
  clear c0 c1 c2 c3 c4 c5 c7 fz
  show Calls Try.prog 39 #[.pointer (some ⟨cb, 0, none⟩), .int .i64 i, .agg v] w _
  have H1 := Lib.hid h1
  have LT := Lib.hid lt
  clear h h1 lt
  go_enter Try.func39, Try.ntmps39
  go_wp2_with fail
  refine IX.out.mono ?_
  rintro e w1' ⟨rfl, rfl⟩
  generalize w.alloc (.cells v 69) = w1 at *
  clear IX
  by_cases hi : i ∈ C.ord
  · obtain ⟨k, hk, hidx, hkl⟩ := idx_in hi
    rw [hidx]
    have DE := Lib.hid (delete_any H1.out hnd hlen hk)
    have hk0 : (0 : Int) ≤ (k : Int) := by omega
    go_wp2_with fail
    refine DE.out.mono ?_
    rintro e w2 ⟨g, n, cap, rfl, hg, hrow, o2⟩
    have h2 := H1.out.setOrd o2 hrow (.inl hg)
    have ltcb : cb < w1.heap.size := H1.out.lt cb (by simp [cfoot])
    have r2 : w2.heap[cb]? = some (.cells (crow d wb C hm pm (.slice oa C.ord.length ocap)) 74 (0, 0)) := (o2.block cb ltcb (fun hx => by
      have := H1.out.apart.2.2.2 cb (by simpa using hx)
      exact this.1 rfl)).trans H1.out.row
    have c62 : w2.cell? ⟨cb, 6, none⟩ = some (.slice oa C.ord.length ocap) := by rw [cell_of_row _ _ _ _ _ _ r2]; rfl
    have f62 : w2.frozen? ⟨cb, 6, none⟩ = false := by simp [World.frozen?, r2]
    have O3 : Only (cfoot cb hm pm (.slice oa C.ord.length ocap)) w (w2.setCell ⟨cb, 6, none⟩ (.slice (some ⟨g, 0, none⟩) n cap)) := ((o0.mono (by simp)).trans o2 (fun x hx => .inl (by simp only [cfoot, List.mem_cons]; right; right; right; exact hx))).setCell (p := ⟨cb, 6, none⟩) (.inl (by simp [cfoot])) _
    have hvb3 : (w2.setCell ⟨cb, 6, none⟩ (.slice (some ⟨g, 0, none⟩) n cap)).heap[w.heap.size]? = some (.cells v 69 (0, 0)) := by
      rw [Below.heap_setCell _ _ _ _ (fun e => by have := LT.out cb (by simp [cfoot]); simp only at e; omega)]
      exact (o2.block _ (by omega) (fun hx => by have := LT.out w.heap.size (by simp only [cfoot, List.mem_cons]; right; right; right; exact hx); omega)).trans hvb
    have hL : C.ord.filter (fun x => decide (x ≠ i)) ++ [i] = useL C.ord i := rfl
    have hLl : (C.ord.filter (fun x => decide (x ≠ i))).length ≤ 8192 := Nat.le_trans (List.length_filter_le _ _) hlen
    have hob : (Value.slice (some ⟨g, 0, none⟩) n cap).ownBlock = (Value.slice oa C.ord.length ocap).ownBlock := hg.symm
    generalize C.ord.filter (fun x => decide (x ≠ i)) = LF at *
    obtain ⟨g4, cap4, w4, hrun, hrow4, o4, hl4⟩ := ord_append h2.ord i (Nat.le_trans hLl (by omega)) 40
    simp only [World.size_setCell] at hrun
    have r3 := h2.row
    have ltcb3 : cb < (w2.setCell ⟨cb, 6, none⟩ (.slice (some ⟨g, 0, none⟩) n cap)).heap.size := h2.lt cb (by simp [cfoot])
    have r4 : w4.heap[cb]? = some (.cells (crow d wb { C with ord := LF } hm pm (.slice (some ⟨g, 0, none⟩) n cap)) 74 (0, 0)) := (o4.block cb ltcb3 (fun hx => by
      have := h2.apart.2.2.2 cb (by simpa using hx)
      exact this.1 rfl)).trans r3
    have c64 : w4.cell? ⟨cb, 6, none⟩ = some (.slice (some ⟨g, 0, none⟩) n cap) := by rw [cell_of_row _ _ _ _ _ _ r4]; rfl
    have f64 : w4.frozen? ⟨cb, 6, none⟩ = false := by simp [World.frozen?, r4]
    have h4 := h2.setOrd o4 hrow4 (by
      rcases hl4 with e | e
      · exact .inl e
      · exact .inr (fun g hg => by simp [Value.ownBlock] at hg; omega))
    have O4 : Only (cfoot cb hm pm (.slice oa C.ord.length ocap)) w (w4.setCell ⟨cb, 6, none⟩ (.slice (some ⟨g4, 0, none⟩) (LF.length + 1) cap4)) := (O3.trans o4 (fun x hx => .inl (by simp only [cfoot, List.mem_cons]; right; right; right; rw [← hob]; exact hx))).setCell (p := ⟨cb, 6, none⟩) (.inl (by simp [cfoot])) _
    have hvb4 : (w4.setCell ⟨cb, 6, none⟩ (.slice (some ⟨g4, 0, none⟩) (LF.length + 1) cap4)).heap[w.heap.size]? = some (.cells v 69 (0, 0)) := by
      rw [Below.heap_setCell _ _ _ _ (fun e => by have := LT.out cb (by simp [cfoot]); simp only at e; omega)]
      exact (o4.block _ (Array.getElem?_eq_some_iff.1 hvb3).1 (fun hx => by have := LT.out w.heap.size (by simp only [cfoot, List.mem_cons]; right; right; right; rw [← hob]; exact hx); omega)).trans hvb3
    have hl4' : (Value.slice oa C.ord.length ocap).ownBlock = some g4 ∨ w.heap.size ≤ g4 := by
      rcases hl4 with e | e
      · exact .inl (hob.symm.trans e)
      · exact .inr (Nat.le_trans O3.size e)
    have RUN := Lib.hid hrun
    have H4 := Lib.hid h4
    have OO4 := Lib.hid O4
    have R4 := Lib.hid r4
    clear hs0 DE hrun h4 O4 r4 h2 r2 r3 hrow hrow4 o2 o4 O3 hvb3 f6 c6
    go_wp2_with (refine wpL_value rfl (run_builtin_append rfl rfl rfl RUN.out) ?_)
    generalize w4.setCell ⟨cb, 6, none⟩ (.slice (some ⟨g4, 0, none⟩) (LF.length + 1) cap4) = w5 at *
    have h5 : CIs w5.drew cb d wb hm pm (.slice (some ⟨g4, 0, none⟩) (LF.length + 1) cap4) { C with ord := LF ++ [i] } := H4.out.congr (fun _ _ => rfl)
    obtain ⟨-, -, -, -, -, d5, -, -, -⟩ := h5.cells
    have hvb5 : w5.drew.heap[w.heap.size]? = some (.cells v 69 (0, 0)) := hvb4
    refine wp_region_flowR Lat [0, 0, 0, 1, 0, 1, 3] (by kernel_rfl) (by kernel_rfl) Lat.refl Lat.trans ?_
    refine fr0 rfl (fun _ => rfl) ?_
    simp only [Act.put, List.setIfInBounds_toArray, List.set_cons_succ, List.set_cons_zero]
    refine fr0 rfl (fun _ => rfl) ?_
    simp only [Act.put, List.setIfInBounds_toArray, List.set_cons_succ, List.set_cons_zero]
    refine fr0 rfl (run_field74 (k := 5) (by omega) rfl rfl) ?_
    simp only [Act.put, List.setIfInBounds_toArray, List.set_cons_succ, List.set_cons_zero]
    refine fr1 (u := .map (some hm)) rfl (fun x hx => run_load1 rfl rfl (hx.cell d5) isAgg71) ?_
    simp only [Act.put, List.setIfInBounds_toArray, List.set_cons_succ, List.set_cons_zero]
    refine fr0 rfl (fun _ => rfl) ?_
    simp only [Act.put, List.setIfInBounds_toArray, List.set_cons_succ, List.set_cons_zero]
    refine fr1 (u := .agg v) rfl (fun x hx => run_load69 rfl rfl (hx.at hvb5) hv.1) ?_
    simp only [Act.put, List.setIfInBounds_toArray, List.set_cons_succ, List.set_cons_zero]
    refine fr3_update71 rfl rfl rfl rfl rfl h5.held ?_
    intro ob6 hob6
    simp only [Act.put, List.setIfInBounds_toArray, List.set_cons_succ, List.set_cons_zero]
    refine frnil ?_
    have h6 := h5.setHeld hob6
    have FIN : Hid (HoldPost cb d wb hm pm (.slice oa C.ord.length ocap) C i v w (.returned (.tuple #[])) (setBlock w5.drew hm ob6)) := (⟨rfl, .slice (some ⟨g4, 0, none⟩) (LF.length + 1) cap4, (fun g hg => by simp [Value.ownBlock] at hg; subst hg; exact hl4'), by rw [← hL]; exact h6, OO4.out.drew.setBlock (.inl (by simp [cfoot])) _⟩ : HoldPost cb d wb hm pm (.slice oa C.ord.length ocap) C i v w (.returned (.tuple #[])) (setBlock w5.drew hm ob6))
    clear h6 h5 d5 hvb5
    go_end0
    exact FIN.out
  · rw [idx_out hi]
    have h2 := H1.out
    have O3 : Only (cfoot cb hm pm (.slice oa C.ord.length ocap)) w w1 := o0.mono (by simp)
    have hvb3 := hvb
    have hL : C.ord ++ [i] = useL C.ord i := by rw [useL, filter_out hi]
    have hLl := hlen
    have hob : (Value.slice oa C.ord.length ocap).ownBlock = (Value.slice oa C.ord.length ocap).ownBlock := rfl
    obtain ⟨g4, cap4, w4, hrun, hrow4, o4, hl4⟩ := ord_append h2.ord i (Nat.le_trans hLl (by omega)) 40
    skip
    have r3 := h2.row
    have ltcb3 : cb < w1.heap.size := h2.lt cb (by simp [cfoot])
    have r4 : w4.heap[cb]? = some (.cells (crow d wb C hm pm (.slice oa C.ord.length ocap)) 74 (0, 0)) := (o4.block cb ltcb3 (fun hx => by
      have := h2.apart.2.2.2 cb (by simpa using hx)
      exact this.1 rfl)).trans r3
    have c64 : w4.cell? ⟨cb, 6, none⟩ = some (.slice oa C.ord.length ocap) := by rw [cell_of_row _ _ _ _ _ _ r4]; rfl
    have f64 : w4.frozen? ⟨cb, 6, none⟩ = false := by simp [World.frozen?, r4]
    have h4 := h2.setOrd o4 hrow4 (by
      rcases hl4 with e | e
      · exact .inl e
      · exact .inr (fun g hg => by simp [Value.ownBlock] at hg; omega))
    have O4 : Only (cfoot cb hm pm (.slice oa C.ord.length ocap)) w (w4.setCell ⟨cb, 6, none⟩ (.slice (some ⟨g4, 0, none⟩) (C.ord.length + 1) cap4)) := (O3.trans o4 (fun x hx => .inl (by simp only [cfoot, List.mem_cons]; right; right; right; rw [← hob]; exact hx))).setCell (p := ⟨cb, 6, none⟩) (.inl (by simp [cfoot])) _
    have hvb4 : (w4.setCell ⟨cb, 6, none⟩ (.slice (some ⟨g4, 0, none⟩) (C.ord.length + 1) cap4)).heap[w.heap.size]? = some (.cells v 69 (0, 0)) := by
      rw [Below.heap_setCell _ _ _ _ (fun e => by have := LT.out cb (by simp [cfoot]); simp only at e; omega)]
      exact (o4.block _ (Array.getElem?_eq_some_iff.1 hvb3).1 (fun hx => by have := LT.out w.heap.size (by simp only [cfoot, List.mem_cons]; right; right; right; rw [← hob]; exact hx); omega)).trans hvb3
    have hl4' : (Value.slice oa C.ord.length ocap).ownBlock = some g4 ∨ w.heap.size ≤ g4 := by
      rcases hl4 with e | e
      · exact .inl (hob.symm.trans e)
      · exact .inr (Nat.le_trans O3.size e)
    have RUN := Lib.hid hrun
    have H4 := Lib.hid h4
    have OO4 := Lib.hid O4
    have R4 := Lib.hid r4
    clear hs0 hrun h4 O4 r4 h2 r3 hrow4 o4 O3 hvb3
    go_wp2_with (refine wpL_value rfl (run_builtin_append rfl rfl rfl RUN.out) ?_)
    generalize w4.setCell ⟨cb, 6, none⟩ (.slice (some ⟨g4, 0, none⟩) (C.ord.length + 1) cap4) = w5 at *
    have h5 : CIs w5.drew cb d wb hm pm (.slice (some ⟨g4, 0, none⟩) (C.ord.length + 1) cap4) { C with ord := C.ord ++ [i] } := H4.out.congr (fun _ _ => rfl)
    obtain ⟨-, -, -, -, -, d5, -, -, -⟩ := h5.cells
    have hvb5 : w5.drew.heap[w.heap.size]? = some (.cells v 69 (0, 0)) := hvb4
    refine wp_region_flowR Lat [0, 0, 0, 1, 0, 1, 3] (by kernel_rfl) (by kernel_rfl) Lat.refl Lat.trans ?_
    refine fr0 rfl (fun _ => rfl) ?_
    simp only [Act.put, List.setIfInBounds_toArray, List.set_cons_succ, List.set_cons_zero]
    refine fr0 rfl (fun _ => rfl) ?_
    simp only [Act.put, List.setIfInBounds_toArray, List.set_cons_succ, List.set_cons_zero]
    refine fr0 rfl (run_field74 (k := 5) (by omega) rfl rfl) ?_
    simp only [Act.put, List.setIfInBounds_toArray, List.set_cons_succ, List.set_cons_zero]
    refine fr1 (u := .map (some hm)) rfl (fun x hx => run_load1 rfl rfl (hx.cell d5) isAgg71) ?_
    simp only [Act.put, List.setIfInBounds_toArray, List.set_cons_succ, List.set_cons_zero]
    refine fr0 rfl (fun _ => rfl) ?_
    simp only [Act.put, List.setIfInBounds_toArray, List.set_cons_succ, List.set_cons_zero]
    refine fr1 (u := .agg v) rfl (fun x hx => run_load69 rfl rfl (hx.at hvb5) hv.1) ?_
    simp only [Act.put, List.setIfInBounds_toArray, List.set_cons_succ, List.set_cons_zero]
    refine fr3_update71 rfl rfl rfl rfl rfl h5.held ?_
    intro ob6 hob6
    simp only [Act.put, List.setIfInBounds_toArray, List.set_cons_succ, List.set_cons_zero]
    refine frnil ?_
    have h6 := h5.setHeld hob6
    have FIN : Hid (HoldPost cb d wb hm pm (.slice oa C.ord.length ocap) C i v w (.returned (.tuple #[])) (setBlock w5.drew hm ob6)) := (⟨rfl, .slice (some ⟨g4, 0, none⟩) (C.ord.length + 1) cap4, (fun g hg => by simp [Value.ownBlock] at hg; subst hg; exact hl4'), by rw [← hL]; exact h6, OO4.out.drew.setBlock (.inl (by simp [cfoot])) _⟩ : HoldPost cb d wb hm pm (.slice oa C.ord.length ocap) C i v w (.returned (.tuple #[])) (setBlock w5.drew hm ob6))
    clear h6 h5 d5 hvb5
    go_end0
    exact FIN.out
end Go.Proofs.Ytoccnaebckcfmaa
