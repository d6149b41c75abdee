/- The document's examples come out as it says. -/
import Derived.Test.YtabddepidhfelaaOwn
set_option linter.unusedSimpArgs false
namespace Go.Proofs.Ytabddepidhfelaa
open Go.RowKit

def e1 : St := (St.new 4).write 1 (fullA 1)
def e2 : St := e1.stepped.settled
def e3 : St := e2.write 1 (fullA 2)
def e4 : St := e3.write 2 (fullA 3)
def e5 : St := e4.booted [0, 1]
def e6 : St := e5.fused 1
def e7 : St := e6.write 0 (fullA 4)
def e8 : St := e7.fallen
def e9 : St := e8.booted []

theorem e5_1 : (e5.now 1).getD Z = fullA 1 := by kernel_rfl
theorem e5_2 : (e5.now 2).getD Z = fullA 3 := by kernel_rfl
theorem e9_0 : (e9.now 0).getD Z = fullA 0 := by kernel_rfl

def fullS (c : Int) : ByteArray := (List.replicate 64 c).foldl (fun r n => r.push (UInt8.ofNat n.toNat)) ByteArray.empty

section
variable {o : Oper} {a : Act} {w : World}
theorem run_str {x : Operand} {g : Nat} {c : Int} {t : TypeId} (ho : o.op = .convert 37 9 x) (hx : a.eval x = .slice (some ⟨g, 0, none⟩) 64 64) (hb : w.heap[g]? = some (.cells (fullA c) t (0, 0))) :
    (execOp a.eval o).run Try.prog w = .ok (.value (.string (fullS c))) w := by
  have hl : (loadCells ⟨g, 0, none⟩ 64).run Try.prog w = .ok ((List.replicate 64 c).map (Value.int .u8)).toArray w := by
    have := run_loadCells_list (P := Try.prog) w ⟨g, 0, none⟩ ((List.replicate 64 c).map (Value.int .u8)) (fun j v hv => by
      rw [Addr.add_mid, Nat.zero_add, cell_of_row _ _ _ _ _ _ hb]
      simp only [fullA, ← List.toArray_replicate, List.getElem?_toArray, List.map_replicate] at hv ⊢
      exact hv)
    rw [List.length_map, List.length_replicate] at this
    exact this
  unfold execOp
  simp only [ho, hx, Sem.run_bind, run_convert_bytes_string (P := Try.prog) w 37 9 5 _ 64 64 Try.underlying37 Try.underlying5 Try.underlying9, run_bytesToString (P := Try.prog) w ⟨g, 0, none⟩ 64 64 (List.replicate 64 c) hl, Result.andThen_ok, Sem.run_pure]
  rfl
theorem does_full {x : Operand} {c : Int} {t : TypeId} (ho : o.op = .call { callee := .value (.func 15), args := #[x], argTypes := #[t] }) (hx : a.eval x = .int .u8 c) :
    Does Try.prog o a w (.slice (some ⟨w.heap.size, 0, none⟩) 64 64) (w.alloc (.cells (fullA c) 5)) := by
  refine .inr (.inr ⟨15, #[.int .u8 c], ?_, full_any c w⟩)
  unfold execOp
  simp only [ho]
  have hf : a.eval (.func 15) = .func (.func 15) #[] #[] := rfl
  simp only [resolve, List.map_toArray, List.map_cons, List.map_nil, hx, hf, Sem.run_bind, Sem.run_pure, Result.andThen_ok]
  first | exact Try.call15 _ _ | simp [Try.call15]
end

set_option maxRecDepth 100000 in
set_option maxHeartbeats 1000000 in
theorem shown_any (w : World) : Calls Try.prog 9 #[] w fun e w' => e = .returned (.bool true) ∧ Only [] w w' := by
  have N4 := Lib.hid (has_new (Has.start w) 4 (by omega) (by omega))
  go_enter Try.func9, Try.ntmps9
  go_wp2_with fail
  refine N4.out.mono ?_
  rintro e w1 ⟨b, F, rfl, h⟩
  clear N4
  have H := Lib.hid h
  clear h
  go_wp2_with fail
  refine (new_no w1 0 (by omega)).mono ?_
  rintro e w' ⟨rfl, rfl⟩
  go_wp2_with fail
  refine (full_any 1 _).mono ?_
  rintro e w2 ⟨rfl, rfl⟩
  go_wp2_with fail
  refine (has_write H.out 1 1 (by kernel_rfl) (by decide) (by decide) (by decide)).mono ?_
  rintro e w2 ⟨rfl, F2, h⟩
  clear H
  have H := Lib.hid h
  clear h
  go_wp2_with fail
  refine (has_barrier H.out (by kernel_rfl) (by decide) (by decide)).mono ?_
  rintro e w3 ⟨rfl, F3, h⟩
  clear H
  have H := Lib.hid h
  clear h
  go_wp2_with fail
  refine (full_any 2 _).mono ?_
  rintro e w4 ⟨rfl, rfl⟩
  go_wp2_with fail
  refine (has_write H.out 1 2 (by kernel_rfl) (by decide) (by decide) (by decide)).mono ?_
  rintro e w4 ⟨rfl, F4, h⟩
  clear H
  have H := Lib.hid h
  clear h
  go_wp2_with fail
  refine (full_any 3 _).mono ?_
  rintro e w5 ⟨rfl, rfl⟩
  go_wp2_with fail
  refine (has_write H.out 2 3 (by kernel_rfl) (by decide) (by decide) (by decide)).mono ?_
  rintro e w5 ⟨rfl, F5, h⟩
  clear H
  have H := Lib.hid h
  clear h
  go_wp2_with fail
  refine (waiting_any H.out.dat).mono ?_
  rintro e w' ⟨rfl, rfl⟩
  go_wp2_with fail
  have K5 : KeepAt (w5.alloc (.cells #[.int .i64 0, .int .i64 1] 3)) F5 (.slice (some ⟨w5.heap.size, 0, none⟩) 2 2) [0, 1] := by
    refine ⟨_, 2, rfl, by simp, fun _ => ⟨w5.heap.size, 0, rfl, by simp, fun hx => by have := dAt_lt H.out.dat _ hx; omega, fun j z hz => ?_⟩⟩
    rw [Nat.zero_add, cell_of_row _ _ _ _ _ _ (heap_alloc_last w5 _)]
    match j, hz with
    | 0, hz => simp at hz; subst hz; rfl
    | 1, hz => simp at hz; subst hz; rfl
  refine (has_boot (H.out.alloc' _) K5 (by decide)).mono ?_
  rintro e w6 ⟨rfl, F6, h⟩
  clear H K5
  have H := Lib.hid h
  clear h
  go_wp2_with fail
  have R6 := has_read H.out 1 (by kernel_rfl)
  rw [show ((((((St.new 4).write 1 (fullA 1)).stepped.settled.write 1 (fullA 2)).write 2 (fullA 3)).booted [0, 1]).now 1).getD Z = fullA 1 from e5_1] at R6
  refine R6.mono ?_
  rintro e w7 ⟨rfl, rfl⟩
  clear R6
  have h7 := H.out.alloc (.cells (fullA 1) 65)
  generalize w6.heap.size = g1 at *
  generalize w6.alloc (.cells (fullA 1) 65) = w7 at *
  clear H
  have H := Lib.hid h7.swap
  clear h7
  go_wp2_with fail
  have R7 := has_read H.out 2 (by kernel_rfl)
  rw [show ((((((St.new 4).write 1 (fullA 1)).stepped.settled.write 1 (fullA 2)).write 2 (fullA 3)).booted [0, 1]).now 2).getD Z = fullA 3 from e5_2] at R7
  refine R7.mono ?_
  rintro e w8 ⟨rfl, rfl⟩
  clear R7
  have h8 := H.out.alloc (.cells (fullA 3) 65)
  generalize w7.heap.size = g2 at *
  generalize w7.alloc (.cells (fullA 3) 65) = w8 at *
  clear H
  have H := Lib.hid h8.swap
  clear h8
  go_wp2_with fail
  refine (has_fuse H.out 1 (by omega)).mono ?_
  rintro e w9 ⟨rfl, F9, h⟩
  clear H
  have H := Lib.hid h
  clear h
  go_wp2_with fail
  refine (full_any 4 _).mono ?_
  rintro e wx ⟨rfl, rfl⟩
  go_wp2_with fail
  refine (has_write H.out 0 4 (by kernel_rfl) (by decide) (by decide) (by decide)).mono ?_
  rintro e w10 ⟨rfl, F10, h⟩
  clear H
  have H := Lib.hid h
  clear h
  go_wp2_with fail
  refine (has_barrier_fall H.out (by kernel_rfl) (by kernel_rfl)).mono ?_
  rintro e w11 ⟨rfl, F11, h⟩
  clear H
  have H := Lib.hid h
  clear h
  go_wp2_with fail
  refine (on_any H.out.dat).mono ?_
  rintro e w' ⟨rfl, rfl⟩
  go_wp2_with fail
  refine (has_boot (keep := []) H.out ⟨none, 0, rfl, by simp, fun hne => absurd rfl hne⟩ (by decide)).mono ?_
  rintro e w12 ⟨rfl, F12, h⟩
  clear H
  have H := Lib.hid h
  clear h
  go_wp2_with fail
  have R12 := has_read H.out 0 (by kernel_rfl)
  rw [show (((((((((St.new 4).write 1 (fullA 1)).stepped.settled.write 1 (fullA 2)).write 2 (fullA 3)).booted [0, 1]).fused 1).write 0 (fullA 4)).fallen.booted []).now 0).getD Z = fullA 0 from e9_0] at R12
  refine R12.mono ?_
  rintro e w13 ⟨rfl, rfl⟩
  clear R12
  have h13 := H.out.alloc (.cells (fullA 0) 65)
  generalize w12.heap.size = g3 at *
  generalize w12.alloc (.cells (fullA 0) 65) = w13 at *
  clear H
  have H := Lib.hid h13
  clear h13
  go_wp2_with fail
  have B1 := Lib.hid (H.out.blk (g := g1) (o := .cells (fullA 1) 65) (by simp))
  have B2 := Lib.hid (H.out.blk (g := g2) (o := .cells (fullA 3) 65) (by simp))
  have B3 := Lib.hid (H.out.blk (g := g3) (o := .cells (fullA 0) 65) (by simp))
  rw [show ((((((St.new 4).write 1 (fullA 1)).stepped.settled.write 1 (fullA 2)).write 2 (fullA 3)).pend.length : Nat) : Int) = 2 from by kernel_rfl]
  rw [show (((((((St.new 4).write 1 (fullA 1)).stepped.settled.write 1 (fullA 2)).write 2 (fullA 3)).booted [0, 1]).fused 1).write 0 (fullA 4)).fallen.on = false from by kernel_rfl]
  refine wp_region_flow Lat [0, 0, 0, 0, 0, 0, 0, 0, 0, 0, 0, 0, 1, 2, 1, 0, 0, 0, 0, 0, 0, 0, 0, 1, 2, 1, 0, 0, 0, 0, 0, 0, 0, 0, 0, 0, 0, 0, 0, 0, 0, 0, 1, 2, 1, 0, 0, 0, 0, 0, 0, 0] (by kernel_rfl) (by kernel_rfl) Lat.refl Lat.trans ?_
  refine fl0 (u := .int .i64 0) (by kernel_rfl) (fun _ => by kernel_rfl) ?_
  simp only [Act.put, List.setIfInBounds_toArray, List.set_cons_succ, List.set_cons_zero]
  refine fl0 (u := .bool true) (by kernel_rfl) (fun _ => by kernel_rfl) ?_
  simp only [Act.put, List.setIfInBounds_toArray, List.set_cons_succ, List.set_cons_zero]
  refine fl0 (u := .bool true) (by kernel_rfl) (fun _ => by kernel_rfl) ?_
  simp only [Act.put, List.setIfInBounds_toArray, List.set_cons_succ, List.set_cons_zero]
  refine fl0 (u := .int .i64 0) (by kernel_rfl) (fun _ => by kernel_rfl) ?_
  simp only [Act.put, List.setIfInBounds_toArray, List.set_cons_succ, List.set_cons_zero]
  refine fl0 (u := .bool true) (by kernel_rfl) (fun _ => by kernel_rfl) ?_
  simp only [Act.put, List.setIfInBounds_toArray, List.set_cons_succ, List.set_cons_zero]
  refine fl0 (u := .bool true) (by kernel_rfl) (fun _ => by kernel_rfl) ?_
  simp only [Act.put, List.setIfInBounds_toArray, List.set_cons_succ, List.set_cons_zero]
  refine fl0 (u := .bool true) (by kernel_rfl) (fun _ => by kernel_rfl) ?_
  simp only [Act.put, List.setIfInBounds_toArray, List.set_cons_succ, List.set_cons_zero]
  refine fl0 (u := .int .i64 2) (by kernel_rfl) (fun _ => by kernel_rfl) ?_
  simp only [Act.put, List.setIfInBounds_toArray, List.set_cons_succ, List.set_cons_zero]
  refine fl0 (u := .bool true) (by kernel_rfl) (fun _ => by kernel_rfl) ?_
  simp only [Act.put, List.setIfInBounds_toArray, List.set_cons_succ, List.set_cons_zero]
  refine fl0 (u := .bool true) (by kernel_rfl) (fun _ => by kernel_rfl) ?_
  simp only [Act.put, List.setIfInBounds_toArray, List.set_cons_succ, List.set_cons_zero]
  refine fl0 (u := .bool true) (by kernel_rfl) (fun _ => by kernel_rfl) ?_
  simp only [Act.put, List.setIfInBounds_toArray, List.set_cons_succ, List.set_cons_zero]
  refine fl0 (u := .slice (some ⟨g1, 0, none⟩) 64 64) (by kernel_rfl) (fun _ => by kernel_rfl) ?_
  simp only [Act.put, List.setIfInBounds_toArray, List.set_cons_succ, List.set_cons_zero]
  refine fl1 (u := .string (fullS 1)) (by kernel_rfl) (fun x hx => run_str rfl rfl (hx.at B1.out)) ?_
  simp only [Act.put, List.setIfInBounds_toArray, List.set_cons_succ, List.set_cons_zero]
  refine fl2 (u := .slice (some ⟨w13.drew.heap.size, 0, none⟩) 64 64) (w' := w13.drew.alloc (.cells (fullA 1) 5)) (by kernel_rfl) (Lat.alloc _ _) (does_full rfl rfl) ?_
  simp only [Act.put, List.setIfInBounds_toArray, List.set_cons_succ, List.set_cons_zero]
  refine fl1 (u := .string (fullS 1)) (by kernel_rfl) (fun x hx => run_str rfl rfl (hx.at (heap_alloc_last w13.drew _))) ?_
  simp only [Act.put, List.setIfInBounds_toArray, List.set_cons_succ, List.set_cons_zero]
  refine fl0 (u := .bool true) (by kernel_rfl) (fun _ => by kernel_rfl) ?_
  simp only [Act.put, List.setIfInBounds_toArray, List.set_cons_succ, List.set_cons_zero]
  refine fl0 (u := .bool true) (by kernel_rfl) (fun _ => by kernel_rfl) ?_
  simp only [Act.put, List.setIfInBounds_toArray, List.set_cons_succ, List.set_cons_zero]
  refine fl0 (u := .bool true) (by kernel_rfl) (fun _ => by kernel_rfl) ?_
  simp only [Act.put, List.setIfInBounds_toArray, List.set_cons_succ, List.set_cons_zero]
  refine fl0 (u := .int .i64 0) (by kernel_rfl) (fun _ => by kernel_rfl) ?_
  simp only [Act.put, List.setIfInBounds_toArray, List.set_cons_succ, List.set_cons_zero]
  refine fl0 (u := .bool true) (by kernel_rfl) (fun _ => by kernel_rfl) ?_
  simp only [Act.put, List.setIfInBounds_toArray, List.set_cons_succ, List.set_cons_zero]
  refine fl0 (u := .bool true) (by kernel_rfl) (fun _ => by kernel_rfl) ?_
  simp only [Act.put, List.setIfInBounds_toArray, List.set_cons_succ, List.set_cons_zero]
  refine fl0 (u := .bool true) (by kernel_rfl) (fun _ => by kernel_rfl) ?_
  simp only [Act.put, List.setIfInBounds_toArray, List.set_cons_succ, List.set_cons_zero]
  refine fl0 (u := .slice (some ⟨g2, 0, none⟩) 64 64) (by kernel_rfl) (fun _ => by kernel_rfl) ?_
  simp only [Act.put, List.setIfInBounds_toArray, List.set_cons_succ, List.set_cons_zero]
  refine fl1 (u := .string (fullS 3)) (by kernel_rfl) (fun x hx => run_str rfl rfl (hx.at (((Lat.alloc _ _).at B2.out)))) ?_
  simp only [Act.put, List.setIfInBounds_toArray, List.set_cons_succ, List.set_cons_zero]
  refine fl2 (u := .slice (some ⟨(w13.drew.alloc (.cells (fullA 1) 5)).heap.size, 0, none⟩) 64 64) (w' := (w13.drew.alloc (.cells (fullA 1) 5)).alloc (.cells (fullA 3) 5)) (by kernel_rfl) (Lat.alloc _ _) (does_full rfl rfl) ?_
  simp only [Act.put, List.setIfInBounds_toArray, List.set_cons_succ, List.set_cons_zero]
  refine fl1 (u := .string (fullS 3)) (by kernel_rfl) (fun x hx => run_str rfl rfl (hx.at (heap_alloc_last (w13.drew.alloc (.cells (fullA 1) 5)) _))) ?_
  simp only [Act.put, List.setIfInBounds_toArray, List.set_cons_succ, List.set_cons_zero]
  refine fl0 (u := .bool true) (by kernel_rfl) (fun _ => by kernel_rfl) ?_
  simp only [Act.put, List.setIfInBounds_toArray, List.set_cons_succ, List.set_cons_zero]
  refine fl0 (u := .bool true) (by kernel_rfl) (fun _ => by kernel_rfl) ?_
  simp only [Act.put, List.setIfInBounds_toArray, List.set_cons_succ, List.set_cons_zero]
  refine fl0 (u := .bool true) (by kernel_rfl) (fun _ => by kernel_rfl) ?_
  simp only [Act.put, List.setIfInBounds_toArray, List.set_cons_succ, List.set_cons_zero]
  refine fl0 (u := .int .i64 0) (by kernel_rfl) (fun _ => by kernel_rfl) ?_
  simp only [Act.put, List.setIfInBounds_toArray, List.set_cons_succ, List.set_cons_zero]
  refine fl0 (u := .bool true) (by kernel_rfl) (fun _ => by kernel_rfl) ?_
  simp only [Act.put, List.setIfInBounds_toArray, List.set_cons_succ, List.set_cons_zero]
  refine fl0 (u := .bool true) (by kernel_rfl) (fun _ => by kernel_rfl) ?_
  simp only [Act.put, List.setIfInBounds_toArray, List.set_cons_succ, List.set_cons_zero]
  refine fl0 (u := .bool true) (by kernel_rfl) (fun _ => by kernel_rfl) ?_
  simp only [Act.put, List.setIfInBounds_toArray, List.set_cons_succ, List.set_cons_zero]
  refine fl0 (u := .int .i64 2) (by kernel_rfl) (fun _ => by kernel_rfl) ?_
  simp only [Act.put, List.setIfInBounds_toArray, List.set_cons_succ, List.set_cons_zero]
  refine fl0 (u := .bool true) (by kernel_rfl) (fun _ => by kernel_rfl) ?_
  simp only [Act.put, List.setIfInBounds_toArray, List.set_cons_succ, List.set_cons_zero]
  refine fl0 (u := .bool true) (by kernel_rfl) (fun _ => by kernel_rfl) ?_
  simp only [Act.put, List.setIfInBounds_toArray, List.set_cons_succ, List.set_cons_zero]
  refine fl0 (u := .bool true) (by kernel_rfl) (fun _ => by kernel_rfl) ?_
  simp only [Act.put, List.setIfInBounds_toArray, List.set_cons_succ, List.set_cons_zero]
  refine fl0 (u := .bool false) (by kernel_rfl) (fun _ => by kernel_rfl) ?_
  simp only [Act.put, List.setIfInBounds_toArray, List.set_cons_succ, List.set_cons_zero]
  refine fl0 (u := .bool true) (by kernel_rfl) (fun _ => by kernel_rfl) ?_
  simp only [Act.put, List.setIfInBounds_toArray, List.set_cons_succ, List.set_cons_zero]
  refine fl0 (u := .bool true) (by kernel_rfl) (fun _ => by kernel_rfl) ?_
  simp only [Act.put, List.setIfInBounds_toArray, List.set_cons_succ, List.set_cons_zero]
  refine fl0 (u := .bool true) (by kernel_rfl) (fun _ => by kernel_rfl) ?_
  simp only [Act.put, List.setIfInBounds_toArray, List.set_cons_succ, List.set_cons_zero]
  refine fl0 (u := .slice (some ⟨g3, 0, none⟩) 64 64) (by kernel_rfl) (fun _ => by kernel_rfl) ?_
  simp only [Act.put, List.setIfInBounds_toArray, List.set_cons_succ, List.set_cons_zero]
  refine fl1 (u := .string (fullS 0)) (by kernel_rfl) (fun x hx => run_str rfl rfl (hx.at ((Lat.alloc _ _).at ((Lat.alloc _ _).at B3.out)))) ?_
  simp only [Act.put, List.setIfInBounds_toArray, List.set_cons_succ, List.set_cons_zero]
  refine fl2 (u := .slice (some ⟨((w13.drew.alloc (.cells (fullA 1) 5)).alloc (.cells (fullA 3) 5)).heap.size, 0, none⟩) 64 64) (w' := ((w13.drew.alloc (.cells (fullA 1) 5)).alloc (.cells (fullA 3) 5)).alloc (.cells (fullA 0) 5)) (by kernel_rfl) (Lat.alloc _ _) (does_full rfl rfl) ?_
  simp only [Act.put, List.setIfInBounds_toArray, List.set_cons_succ, List.set_cons_zero]
  refine fl1 (u := .string (fullS 0)) (by kernel_rfl) (fun x hx => run_str rfl rfl (hx.at (heap_alloc_last ((w13.drew.alloc (.cells (fullA 1) 5)).alloc (.cells (fullA 3) 5)) _))) ?_
  simp only [Act.put, List.setIfInBounds_toArray, List.set_cons_succ, List.set_cons_zero]
  refine fl0 (u := .bool true) (by kernel_rfl) (fun _ => by kernel_rfl) ?_
  simp only [Act.put, List.setIfInBounds_toArray, List.set_cons_succ, List.set_cons_zero]
  refine fl0 (u := .bool true) (by kernel_rfl) (fun _ => by kernel_rfl) ?_
  simp only [Act.put, List.setIfInBounds_toArray, List.set_cons_succ, List.set_cons_zero]
  refine fl0 (u := .bool true) (by kernel_rfl) (fun _ => by kernel_rfl) ?_
  simp only [Act.put, List.setIfInBounds_toArray, List.set_cons_succ, List.set_cons_zero]
  refine fl0 (u := .int .i64 0) (by kernel_rfl) (fun _ => by kernel_rfl) ?_
  simp only [Act.put, List.setIfInBounds_toArray, List.set_cons_succ, List.set_cons_zero]
  refine fl0 (u := .bool true) (by kernel_rfl) (fun _ => by kernel_rfl) ?_
  simp only [Act.put, List.setIfInBounds_toArray, List.set_cons_succ, List.set_cons_zero]
  refine fl0 (u := .bool true) (by kernel_rfl) (fun _ => by kernel_rfl) ?_
  simp only [Act.put, List.setIfInBounds_toArray, List.set_cons_succ, List.set_cons_zero]
  refine fl0 (u := .bool true) (by kernel_rfl) (fun _ => by kernel_rfl) ?_
  simp only [Act.put, List.setIfInBounds_toArray, List.set_cons_succ, List.set_cons_zero]
  refine flnil ?_
  go_wp2
  go_ret
  exact ⟨rfl, (((H.out.only.drew).alloc _).alloc _).alloc _⟩

end Go.Proofs.Ytabddepidhfelaa
