/- What end and evict do. -/
import Derived.Test.YtoccnaebckcfmaaK4
set_option linter.unusedSimpArgs false
set_option linter.unusedVariables false
set_option maxRecDepth 8000
namespace Go.Proofs.Ytoccnaebckcfmaa
open Go.RowKit
open Go.ChangeMaps (setBlock)

section
variable {o : Oper} {a : Act} {w : World}
theorem run_field74 {x : Operand} {b k : Nat} (hk : k < 8) (ho : o.op = .fieldAddr 74 x k) (hx : a.eval x = .pointer (some ⟨b, 0, none⟩)) :
    ∀ w, (execOp a.eval o).run Try.prog w = .ok (.value (.pointer (some ⟨b, k, none⟩))) w := by
  intro w
  have : k = 0 ∨ k = 1 ∨ k = 2 ∨ k = 3 ∨ k = 4 ∨ k = 5 ∨ k = 6 ∨ k = 7 := by omega
  unfold execOp
  simp only [ho, hx]
  rcases this with rfl | rfl | rfl | rfl | rfl | rfl | rfl | rfl <;> go_simp
theorem len40 (ty : TypeId) (p : Option Addr) (n c : Nat) (w : World) : (Builtin.len_ #[40] ty #[.slice p n c]).run Try.prog w = .ok (.int .i64 n) w := by kernel_rfl
theorem run_len40 {x : Operand} {p : Option Addr} {n c : Nat} (ho : o.op = .call { callee := .builtin .len, args := #[x], argTypes := #[40] }) (hx : a.eval x = .slice p n c) : ∀ w, (execOp a.eval o).run Try.prog w = .ok (.value (.int .i64 n)) w := by
  intro w
  unfold execOp
  simp only [ho, resolve, invoke, builtin, Sem.run_bind, Sem.run_pure, Result.andThen_ok, List.map_toArray, List.map_cons, List.map_nil, hx, len40 _ p n c w]
theorem run_len72 {x : Operand} {m : Nat} {ks : List Int} (h : MapAt w m (setF ks)) (hn : ks.Nodup) (ho : o.op = .call { callee := .builtin .len, args := #[x], argTypes := #[72] }) (hx : a.eval x = .map (some m)) : (execOp a.eval o).run Try.prog w = .ok (.value (.int .i64 ks.length)) w := by
  obtain ⟨n, hr, hnn⟩ := set_len h o.type
  have : n = ks.length := hnn.2 hn
  subst this
  unfold execOp
  simp only [ho, resolve, invoke, builtin, Sem.run_bind, Sem.run_pure, Result.andThen_ok, List.map_toArray, List.map_cons, List.map_nil, hx, hr]
theorem max_run (ty : TypeId) (i j : Int) (w : World) : (Builtin.max_ #[3, 3] ty #[.int .i64 i, .int .i64 j]).run Try.prog w = .ok (.int .i64 (max i j)) w := by
  have : (if j > i then j else i) = max i j := by rw [Int.max_def]; split <;> split <;> omega
  simp [Builtin.max_, Builtin.max2, this]
theorem run_max {x y : Operand} {i j : Int} (ho : o.op = .call { callee := .builtin .max, args := #[x, y], argTypes := #[3, 3] }) (hx : a.eval x = .int .i64 i) (hy : a.eval y = .int .i64 j) : ∀ w, (execOp a.eval o).run Try.prog w = .ok (.value (.int .i64 (max i j))) w := by
  intro w
  unfold execOp
  simp only [ho, resolve, invoke, builtin, Sem.run_bind, Sem.run_pure, Result.andThen_ok, List.map_toArray, List.map_cons, List.map_nil, hx, hy, max_run]
theorem isAgg26 (w : World) : (isAgg 26).run Try.prog w = .ok false w := by kernel_rfl
theorem isAgg40 (w : World) : (isAgg 40).run Try.prog w = .ok false w := by kernel_rfl
theorem isAgg72 (w : World) : (isAgg 72).run Try.prog w = .ok false w := by kernel_rfl
theorem zero3 (w : World) : (zeroValue 3).run Try.prog w = .ok (.int .i64 0) w := by kernel_rfl
theorem does_alloc3 (ho : o.op = .alloc 3) : Does Try.prog o a w (.pointer (some ⟨w.heap.size, 0, none⟩)) (w.alloc (.cells #[.int .i64 0] 3)) := by
  refine .inl ?_
  unfold execOp
  rw [ho]
  simp only [Instr.alloc, Sem.run_bind, zero3, Result.andThen, newVar, newRow, Value.cells]
  rfl
theorem does_store3 {x y : Operand} {p : Addr} {u : Value} {i : Int} (ho : o.op = .store 3 x y) (hx : a.eval x = .pointer (some p)) (hy : a.eval y = .int .i64 i) (hc : w.cell? p = some u) (hf : w.frozen? p = false) : Does Try.prog o a w undef (w.setCell p (.int .i64 i)) := by
  refine .inr (.inl ⟨?_, rfl⟩)
  unfold execOp
  simp only [ho, hx, hy]
  go_simp
end

section
variable {w w' : World} {cb d wb hm pm : Nat} {ov : Value} {C : CaS}

set_option maxHeartbeats 1000000 in
theorem end_any (h : CIs w cb d wb hm pm ov C) : Calls Try.prog 48 #[pp cb] w fun e w' => e = .returned (.tuple #[]) ∧ CIs w' cb d wb hm pm ov { C with opn := false, pin := [] } ∧ Only (cfoot cb hm pm ov) w w' := by
  obtain ⟨c0, c1, c2, c3, c4, c5, c6, c7, fz⟩ := h.cells
  obtain ⟨a1, a2, a3, a4⟩ := h.apart
  have f3 := fz 3
  have h0 := h
  have M := mapAt_congr (w' := w.setCell ⟨cb, 3, none⟩ (.bool false)) h.pinned (Below.heap_setCell _ _ _ _ (by simpa using Ne.symm a2))
  have HM := Lib.hid M
  have H0 := Lib.hid h0
  clear h h0 M fz c0 c1 c2 c4 c5 c6
  show Calls Try.prog 48 #[.pointer (some ⟨cb, 0, none⟩)] w _
  go_enter Try.func48, Try.ntmps48
  go_wp2_with (refine wpL_clearG Try.underlying72 rfl rfl rfl HM.out ?_; intro ob hob)
  go_end0
  have hH := H0.out
  have hn1 : ∀ y, y ≠ pm → (setBlock (w.setCell ⟨cb, 3, none⟩ (.bool false)) pm ob).heap[y]? = (w.setCell ⟨cb, 3, none⟩ (.bool false)).heap[y]? := fun y hy => heap_setBlock_ne _ pm ob hy
  refine ⟨rfl, ⟨?_, mapAt_congr hH.held ((hn1 hm a3).trans (Below.heap_setCell _ _ _ _ (by simpa using Ne.symm a1))), ?_, ownsRow_congr' hH.ord (fun g hg => (hn1 g (a4 g hg).2.2).trans (Below.heap_setCell _ _ _ _ (by simpa using (a4 g hg).1))), hH.ne⟩, ((Only.refl _ w).setCell (p := ⟨cb, 3, none⟩) (.inl (by simp [cfoot])) _).setBlock (.inl (by simp [cfoot])) _⟩
  · rw [hn1 cb a2, heap_setCell_row hH.row]
    simp [crow]
  · simp only [setF_nil]
    exact hob

def excess (C : CaS) : Int := (C.ord.length : Int) - max C.most (C.pin.length : Int)
/-- Behind an evict. -/
def CaS.evict (C : CaS) : CaS := if excess C ≤ 0 then C else { C with ord := (runD true C.pin C.ord (excess C)).1, held := cutF C.held C.ord (runD true C.pin C.ord (excess C)).1 }

def EvictPost (cb d wb hm pm : Nat) (ov : Value) (C : CaS) (w : World) (e : Ending) (w' : World) : Prop :=
  e = .returned (.tuple #[]) ∧ ∃ ov', ov'.ownBlock = ov.ownBlock ∧ CIs w' cb d wb hm pm ov' C.evict ∧ Only (cfoot cb hm pm ov) w w'

set_option maxHeartbeats 2000000 in
theorem evict_any (h : CIs w cb d wb hm pm ov C) (ok : CaOk C) : Calls Try.prog 40 #[pp cb] w fun e w' => EvictPost cb d wb hm pm ov C w e w' := by
  have hlen := ok.len
  have hplen := ok.plen
  have m0 := ok.m0
  have m1 := ok.m1
  have hlt := h.lt
  obtain ⟨oa, ocap, rfl, oc1, oc2⟩ := h.slice
  have hw : (w.alloc (.cells #[.pointer (some ⟨cb, 0, none⟩)] 26)).drew.heap[w.heap.size]? = some (.cells #[pp cb] 26 (0, 0)) := heap_alloc_last w _
  have o0 : Only [] w (w.alloc (.cells #[.pointer (some ⟨cb, 0, none⟩)] 26)).drew := ((Only.refl [] w).alloc _).drew
  have hs0 : (w.alloc (.cells #[.pointer (some ⟨cb, 0, none⟩)] 26)).drew.heap.size = w.heap.size + 1 := by show (w.alloc _).heap.size = _; simp
  have h1 := h.only o0 (by simp)
  have H1 := Lib.hid h1
  have OK := Lib.hid ok
  have HLT := Lib.hid hlt
  clear h ok hlt
  show Calls Try.prog 40 #[.pointer (some ⟨cb, 0, none⟩)] w _
  go_enter Try.func40, Try.ntmps40
  go_wp2_with fail
  obtain ⟨c0, c1, c2, c3, c4, c5, c6, c7, fz⟩ := H1.out.cells
  have cxb : (w.alloc (.cells #[.pointer (some ⟨cb, 0, none⟩)] 26)).drew.cell? ⟨w.heap.size, 0, none⟩ = some (pp cb) := by rw [cell_of_row _ _ _ _ _ _ hw]; rfl
  refine wp_region_flowR Lat [1, 0, 0, 1, 0, 1, 0, 0, 1, 1, 0, 0, 1, 1, 0, 0, 2, 3] (by kernel_rfl) (by kernel_rfl) Lat.refl Lat.trans ?_
  generalize (w.alloc (.cells #[.pointer (some ⟨cb, 0, none⟩)] 26)).drew = w0 at *
  have hcn : (w0.alloc (.cells #[.int .i64 0] 3)).cell? ⟨w0.heap.size, 0, none⟩ = some (.int .i64 0) := by rw [cell_of_row _ _ _ _ _ _ (heap_alloc_last w0 (.cells #[.int .i64 0] 3))]; rfl
  have hfn : (w0.alloc (.cells #[.int .i64 0] 3)).frozen? ⟨w0.heap.size, 0, none⟩ = false := by have := heap_alloc_last w0 (.cells #[.int .i64 0] 3); generalize w0.alloc (.cells #[.int .i64 0] 3) = wz at *; simp [World.frozen?, this]
  refine fr1 (u := pp cb) rfl (fun x hx => run_load1 rfl rfl (hx.cell cxb) isAgg26) ?_
  simp only [Act.put, List.setIfInBounds_toArray, List.set_cons_succ, List.set_cons_zero]
  refine fr0 rfl (fun _ => rfl) ?_
  simp only [Act.put, List.setIfInBounds_toArray, List.set_cons_succ, List.set_cons_zero]
  refine fr0 rfl (run_field74 (k := 6) (by omega) rfl rfl) ?_
  simp only [Act.put, List.setIfInBounds_toArray, List.set_cons_succ, List.set_cons_zero]
  refine fr1 (u := .slice oa C.ord.length ocap) rfl (fun x hx => run_load1 rfl rfl (hx.cell c6) isAgg40) ?_
  simp only [Act.put, List.setIfInBounds_toArray, List.set_cons_succ, List.set_cons_zero]
  refine fr0 rfl (run_len40 rfl rfl) ?_
  simp only [Act.put, List.setIfInBounds_toArray, List.set_cons_succ, List.set_cons_zero]
  refine fr1 (u := pp cb) rfl (fun x hx => run_load1 rfl rfl (hx.cell cxb) isAgg26) ?_
  simp only [Act.put, List.setIfInBounds_toArray, List.set_cons_succ, List.set_cons_zero]
  refine fr0 rfl (fun _ => rfl) ?_
  simp only [Act.put, List.setIfInBounds_toArray, List.set_cons_succ, List.set_cons_zero]
  refine fr0 rfl (run_field74 (k := 2) (by omega) rfl rfl) ?_
  simp only [Act.put, List.setIfInBounds_toArray, List.set_cons_succ, List.set_cons_zero]
  refine fr1 (u := .int .i64 C.most) rfl (fun x hx => run_load1 rfl rfl (hx.cell c2) isAgg3) ?_
  simp only [Act.put, List.setIfInBounds_toArray, List.set_cons_succ, List.set_cons_zero]
  refine fr1 (u := pp cb) rfl (fun x hx => run_load1 rfl rfl (hx.cell cxb) isAgg26) ?_
  simp only [Act.put, List.setIfInBounds_toArray, List.set_cons_succ, List.set_cons_zero]
  refine fr0 rfl (fun _ => rfl) ?_
  simp only [Act.put, List.setIfInBounds_toArray, List.set_cons_succ, List.set_cons_zero]
  refine fr0 rfl (run_field74 (k := 7) (by omega) rfl rfl) ?_
  simp only [Act.put, List.setIfInBounds_toArray, List.set_cons_succ, List.set_cons_zero]
  refine fr1 (u := .map (some pm)) rfl (fun x hx => run_load1 rfl rfl (hx.cell c7) isAgg72) ?_
  simp only [Act.put, List.setIfInBounds_toArray, List.set_cons_succ, List.set_cons_zero]
  refine fr1 (u := .int .i64 (C.pin.length : Int)) rfl (fun x hx => run_len72 (mapAt_congr H1.out.pinned (hx.2 pm (mapAt_lt H1.out.pinned))) OK.out.pn rfl rfl) ?_
  simp only [Act.put, List.setIfInBounds_toArray, List.set_cons_succ, List.set_cons_zero]
  refine fr0 rfl (run_max rfl rfl rfl) ?_
  simp only [Act.put, List.setIfInBounds_toArray, List.set_cons_succ, List.set_cons_zero]
  refine fr0 (u := .int .i64 ((C.ord.length : Int) - max C.most (C.pin.length : Int))) rfl (run_sub (by omega) (by omega) rfl rfl rfl) ?_
  simp only [Act.put, List.setIfInBounds_toArray, List.set_cons_succ, List.set_cons_zero]
  refine fr2 (u := .pointer (some ⟨w0.heap.size, 0, none⟩)) (w' := w0.alloc (.cells #[.int .i64 0] 3)) rfl (Lat.alloc _ _) (does_alloc3 rfl) ?_
  simp only [Act.put, List.setIfInBounds_toArray, List.set_cons_succ, List.set_cons_zero]
  refine fr3 (u := undef) (w' := (w0.alloc (.cells #[.int .i64 0] 3)).setCell ⟨w0.heap.size, 0, none⟩ (.int .i64 ((C.ord.length : Int) - max C.most (C.pin.length : Int)))) rfl (does_store3 rfl rfl rfl hcn hfn) ?_
  simp only [Act.put, List.setIfInBounds_toArray, List.set_cons_succ, List.set_cons_zero]
  refine frnil ?_
  show Exit.then _ _ _ _ _
  clear hcn hfn cxb c0 c1 c2 c3 c4 c5 c6 c7 fz
  have hE : ((w0.alloc (.cells #[.int .i64 0] 3)).setCell ⟨w0.heap.size, 0, none⟩ (.int .i64 ((C.ord.length : Int) - max C.most (C.pin.length : Int)))).heap[w0.heap.size]? = some (.cells #[.int .i64 ((C.ord.length : Int) - max C.most (C.pin.length : Int))] 3 (0, 0)) := by
    rw [heap_setCell_row (heap_alloc_last w0 (.cells #[.int .i64 0] 3))]; rfl
  have o2 : Only [] w0 ((w0.alloc (.cells #[.int .i64 0] 3)).setCell ⟨w0.heap.size, 0, none⟩ (.int .i64 ((C.ord.length : Int) - max C.most (C.pin.length : Int)))) := ((Only.refl [] w0).alloc _).setCell (p := ⟨w0.heap.size, 0, none⟩) (.inr (Nat.le_refl _)) _
  generalize (w0.alloc (.cells #[.int .i64 0] 3)).setCell ⟨w0.heap.size, 0, none⟩ (.int .i64 ((C.ord.length : Int) - max C.most (C.pin.length : Int))) = w2 at *
  have hX : w2.heap[w.heap.size]? = some (.cells #[pp cb] 26 (0, 0)) := (o2.block _ (by omega) (by simp)).trans hw
  have h2 := H1.out.only o2 (by simp)
  have cE : w2.cell? ⟨w0.heap.size, 0, none⟩ = some (.int .i64 ((C.ord.length : Int) - max C.most (C.pin.length : Int))) := by rw [cell_of_row _ _ _ _ _ _ hE]; rfl
  have cX : w2.cell? ⟨w.heap.size, 0, none⟩ = some (.pointer (some ⟨cb, 0, none⟩)) := by rw [cell_of_row _ _ _ _ _ _ hX]; rfl
  have hexd : excess C = ((C.ord.length : Int) - max C.most (C.pin.length : Int)) := rfl
  rw [← hexd] at hE cE ⊢
  rw [hs0] at hE cE
  have hex1 : excess C ≤ 8192 := by rw [hexd]; omega
  by_cases hle : excess C ≤ 0
  · have H2 := Lib.hid h2
    have O02 := Lib.hid (o0.trans o2 (by simp))
    clear h2 hE hX o2 o0
    go_wp2
    refine bodyPost_ret (results_none rfl _ _ _) rfl ?_
    have e1 : C.evict = C := if_pos hle
    exact ⟨rfl, _, rfl, by rw [e1]; exact H2.out, O02.out.mono (by simp)⟩
  · have DR := Lib.hid (drop_ev (eb := w.heap.size + 1) (xb := w.heap.size) (ex := excess C) h2 OK.out.nd hlen hE hX (fun hx => by have := HLT.out _ hx; omega) (fun hx => by have := HLT.out _ hx; omega) (by omega) (by omega) (by omega))
    have O02 := Lib.hid (o0.trans o2 (by simp))
    have hsz2 := o2.size
    clear h2 hE hX o2 o0
    go_wp2_with fail
    refine DR.out.mono ?_
    rintro e w3 ⟨rfl, ov', hov, h3, o3⟩
    have e1 : C.evict = { C with ord := (runD true C.pin C.ord (excess C)).1, held := cutF C.held C.ord (runD true C.pin C.ord (excess C)).1 } := if_neg (by omega)
    have FIN : Hid (EvictPost cb d wb hm pm (.slice oa C.ord.length ocap) C w (.returned (.tuple #[])) w3) := (⟨rfl, ov', hov, by rw [e1]; exact h3, (O02.out.mono (F' := cfoot cb hm pm (.slice oa C.ord.length ocap)) (by simp)).trans o3 (fun x hx => by
      rcases List.mem_append.1 hx with hx | hx
      · simp at hx; right; omega
      · exact .inl hx)⟩ : EvictPost cb d wb hm pm (.slice oa C.ord.length ocap) C w (.returned (.tuple #[])) w3)
    clear DR h3 o3 O02
    go_wp2
    go_end0
    exact FIN.out
end
end Go.Proofs.Ytoccnaebckcfmaa
