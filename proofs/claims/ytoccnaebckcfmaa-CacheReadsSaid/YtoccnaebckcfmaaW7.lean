/- What owns does; laws of single operations. -/
import Derived.Test.YtoccnaebckcfmaaW6
set_option linter.unusedSimpArgs false
set_option linter.unusedVariables false
set_option maxRecDepth 8000
namespace Go.Proofs.Ytoccnaebckcfmaa
open Go.RowKit

theorem wrap64 {n : Int} (h1 : -9223372036854775808 ≤ n) (h2 : n ≤ 9223372036854775807) : IntKind.i64.wrap n = n := by
  simp [IntKind.wrap, IntKind.signed, IntKind.bits]
  omega

section
variable {o : Oper} {a : Act} {w : World}
theorem run_field75 {x : Operand} {b k : Nat} (hk : k < 4) (ho : o.op = .fieldAddr 104 x k) (hx : a.eval x = .pointer (some ⟨b, 0, none⟩)) :
    ∀ w, (execOp a.eval o).run Try.prog w = .ok (.value (.pointer (some ⟨b, k, none⟩))) w := by
  intro w
  unfold execOp
  simp only [ho, hx]
  match k, hk with
  | 0, _ | 1, _ | 2, _ | 3, _ => go_simp
theorem run_geq {x y : Operand} {i j : Int} (ho : o.op = .binOp .geq 3 x y 3) (hx : a.eval x = .int .i64 i) (hy : a.eval y = .int .i64 j) : ∀ w, (execOp a.eval o).run Try.prog w = .ok (.value (.bool (decide (j ≤ i)))) w := by
  intro w
  unfold execOp
  simp only [ho, hx, hy]
  go_simp
theorem run_lss {x y : Operand} {i j : Int} (ho : o.op = .binOp .lss 3 x y 3) (hx : a.eval x = .int .i64 i) (hy : a.eval y = .int .i64 j) : ∀ w, (execOp a.eval o).run Try.prog w = .ok (.value (.bool (decide (i < j)))) w := by
  intro w
  unfold execOp
  simp only [ho, hx, hy]
  go_simp
theorem run_gtr {x y : Operand} {i j : Int} (ho : o.op = .binOp .gtr 3 x y 3) (hx : a.eval x = .int .i64 i) (hy : a.eval y = .int .i64 j) : ∀ w, (execOp a.eval o).run Try.prog w = .ok (.value (.bool (decide (j < i)))) w := by
  intro w
  unfold execOp
  simp only [ho, hx, hy]
  go_simp
theorem run_neq {x y : Operand} {i j : Int} (ho : o.op = .binOp .neq 3 x y 3) (hx : a.eval x = .int .i64 i) (hy : a.eval y = .int .i64 j) : ∀ w, (execOp a.eval o).run Try.prog w = .ok (.value (.bool (i != j))) w := by
  intro w
  unfold execOp
  simp only [ho, hx, hy]
  go_simp
theorem run_sub {x y : Operand} {i j : Int} (h1 : -9223372036854775808 ≤ i - j) (h2 : i - j ≤ 9223372036854775807) (ho : o.op = .binOp .sub 3 x y 3) (hx : a.eval x = .int .i64 i) (hy : a.eval y = .int .i64 j) : ∀ w, (execOp a.eval o).run Try.prog w = .ok (.value (.int .i64 (i - j))) w := by
  intro w
  unfold execOp
  simp only [ho, hx, hy]
  go_simp
  exact wrap64 h1 h2
theorem run_add {x y : Operand} {i j : Int} (h1 : -9223372036854775808 ≤ i + j) (h2 : i + j ≤ 9223372036854775807) (ho : o.op = .binOp .add 3 x y 3) (hx : a.eval x = .int .i64 i) (hy : a.eval y = .int .i64 j) : ∀ w, (execOp a.eval o).run Try.prog w = .ok (.value (.int .i64 (i + j))) w := by
  intro w
  unfold execOp
  simp only [ho, hx, hy]
  go_simp
  exact wrap64 h1 h2
theorem isAgg25 (w : World) : (isAgg 25).run Try.prog w = .ok false w := by kernel_rfl
theorem isAgg51 (w : World) : (isAgg 34).run Try.prog w = .ok false w := by kernel_rfl
end

/-- A log in memory. -/
def wrow (b : Nat) (a s g : Int) : Array Value := #[.pointer (some ⟨b, 0, none⟩), .int .i64 a, .int .i64 s, .int .i64 g]
def WalAt (w : World) (wb b : Nat) (a s g : Int) : Prop := w.heap[wb]? = some (.cells (wrow b a s g) 104 (0, 0))
theorem WalAt.cells {w : World} {wb b : Nat} {a s g : Int} (h : WalAt w wb b a s g) : w.cell? ⟨wb, 0, none⟩ = some (.pointer (some ⟨b, 0, none⟩)) ∧ w.cell? ⟨wb, 1, none⟩ = some (.int .i64 a) ∧ w.cell? ⟨wb, 2, none⟩ = some (.int .i64 s) ∧ w.cell? ⟨wb, 3, none⟩ = some (.int .i64 g) ∧ (∀ i, w.frozen? ⟨wb, i, none⟩ = false) := by
  unfold WalAt at h
  refine ⟨?_, ?_, ?_, ?_, fun i => by simp [World.frozen?, h]⟩
  all_goals (rw [cell_of_row _ _ _ _ _ _ h]; rfl)
theorem WalAt.lt {w : World} {wb b : Nat} {a s g : Int} (h : WalAt w wb b a s g) : wb < w.heap.size := (Array.getElem?_eq_some_iff.1 h).1
theorem WalAt.only {w w' : World} {wb b : Nat} {a s g : Int} {G : List Nat} (h : WalAt w wb b a s g) (ho : Only G w w') (hG : wb ∉ G) : WalAt w' wb b a s g := (ho.block wb h.lt hG).trans h

set_option maxHeartbeats 1000000 in
theorem owns_any {w : World} {wb b : Nat} {a s g : Int} (h : WalAt w wb b a s g) (x : Int) (ha : 0 ≤ a) (ha1 : a ≤ 9223372036854775807) (hx1 : x ≤ 9223372036854775807) :
    Calls Try.prog 82 #[.pointer (some ⟨wb, 0, none⟩), .int .i64 x] w fun e w' => e = .returned (.bool (decide (a ≤ x ∧ x - a < s))) ∧ Only [] w w' := by
  obtain ⟨c0, c1, c2, c3, fz⟩ := h.cells
  have hd : ∀ {p : Addr} {u : Value}, w.cell? p = some u → w.drew.cell? p = some u := fun h => h
  by_cases hc : a ≤ x
  · go_enter Try.func82, Try.ntmps82
    go_wp2_with fail
    refine wp_region_flowR Lat [0, 0, 0, 0, 1, 0, 0, 0, 0, 0, 0, 1, 0, 0, 0, 0, 1, 0, 0, 0] (by kernel_rfl) (by kernel_rfl) Lat.refl Lat.trans ?_
    refine fr0 rfl (fun _ => rfl) ?_
    simp only [Act.put, List.setIfInBounds_toArray, List.set_cons_succ, List.set_cons_zero]
    refine fr0 rfl (fun _ => rfl) ?_
    simp only [Act.put, List.setIfInBounds_toArray, List.set_cons_succ, List.set_cons_zero]
    refine fr0 rfl (fun _ => rfl) ?_
    simp only [Act.put, List.setIfInBounds_toArray, List.set_cons_succ, List.set_cons_zero]
    refine fr0 rfl (run_field75 (by omega) rfl rfl) ?_
    simp only [Act.put, List.setIfInBounds_toArray, List.set_cons_succ, List.set_cons_zero]
    refine fr1 (u := .int .i64 a) rfl (fun x hx => run_load1 rfl rfl (hx.cell (hd c1)) isAgg3) ?_
    simp only [Act.put, List.setIfInBounds_toArray, List.set_cons_succ, List.set_cons_zero]
    refine fr0 (u := .bool true) rfl (fun w => (run_geq rfl rfl rfl w).trans (by rw [decide_eq_true hc])) ?_
    simp only [Act.put, List.setIfInBounds_toArray, List.set_cons_succ, List.set_cons_zero]
    refine fr0 rfl (fun _ => rfl) ?_
    simp only [Act.put, List.setIfInBounds_toArray, List.set_cons_succ, List.set_cons_zero]
    refine fr0 (by kernel_rfl) (fun _ => rfl) ?_
    simp only [Act.put, List.setIfInBounds_toArray, List.set_cons_succ, List.set_cons_zero]
    refine fr0 (by kernel_rfl) (fun _ => rfl) ?_
    simp only [Act.put, List.setIfInBounds_toArray, List.set_cons_succ, List.set_cons_zero]
    refine fr0 (by kernel_rfl) (fun _ => rfl) ?_
    simp only [Act.put, List.setIfInBounds_toArray, List.set_cons_succ, List.set_cons_zero]
    refine fr0 (by kernel_rfl) (run_field75 (by omega) rfl rfl) ?_
    simp only [Act.put, List.setIfInBounds_toArray, List.set_cons_succ, List.set_cons_zero]
    refine fr1 (u := .int .i64 a) (by kernel_rfl) (fun x hx => run_load1 rfl rfl (hx.cell (hd c1)) isAgg3) ?_
    simp only [Act.put, List.setIfInBounds_toArray, List.set_cons_succ, List.set_cons_zero]
    refine fr0 (u := .int .i64 (x - a)) (by kernel_rfl) (run_sub (by omega) (by omega) rfl rfl rfl) ?_
    simp only [Act.put, List.setIfInBounds_toArray, List.set_cons_succ, List.set_cons_zero]
    refine fr0 (by kernel_rfl) (fun _ => rfl) ?_
    simp only [Act.put, List.setIfInBounds_toArray, List.set_cons_succ, List.set_cons_zero]
    refine fr0 (by kernel_rfl) (fun _ => rfl) ?_
    simp only [Act.put, List.setIfInBounds_toArray, List.set_cons_succ, List.set_cons_zero]
    refine fr0 (by kernel_rfl) (run_field75 (by omega) rfl rfl) ?_
    simp only [Act.put, List.setIfInBounds_toArray, List.set_cons_succ, List.set_cons_zero]
    refine fr1 (u := .int .i64 s) (by kernel_rfl) (fun x hx => run_load1 rfl rfl (hx.cell (hd c2)) isAgg3) ?_
    simp only [Act.put, List.setIfInBounds_toArray, List.set_cons_succ, List.set_cons_zero]
    refine fr0 (by kernel_rfl) (run_lss rfl rfl rfl) ?_
    simp only [Act.put, List.setIfInBounds_toArray, List.set_cons_succ, List.set_cons_zero]
    refine fr0 rfl (fun _ => rfl) ?_
    simp only [Act.put, List.setIfInBounds_toArray, List.set_cons_succ, List.set_cons_zero]
    refine fr0 rfl (fun _ => rfl) ?_
    simp only [Act.put, List.setIfInBounds_toArray, List.set_cons_succ, List.set_cons_zero]
    refine frnil ?_
    show Exit.then _ _ _ _ _
    go_wp2
    go_ret
    exact ⟨ret_bool (by simp [hc]), (Only.refl [] w).drew⟩
  · go_enter Try.func82, Try.ntmps82
    go_wp2_with fail
    refine wp_region_flowR Lat [0, 0, 0, 0, 1, 0, 0, 0, 0, 0, 0, 1, 0, 0, 0, 0, 1, 0, 0, 0] (by kernel_rfl) (by kernel_rfl) Lat.refl Lat.trans ?_
    refine fr0 rfl (fun _ => rfl) ?_
    simp only [Act.put, List.setIfInBounds_toArray, List.set_cons_succ, List.set_cons_zero]
    refine fr0 rfl (fun _ => rfl) ?_
    simp only [Act.put, List.setIfInBounds_toArray, List.set_cons_succ, List.set_cons_zero]
    refine fr0 rfl (fun _ => rfl) ?_
    simp only [Act.put, List.setIfInBounds_toArray, List.set_cons_succ, List.set_cons_zero]
    refine fr0 rfl (run_field75 (by omega) rfl rfl) ?_
    simp only [Act.put, List.setIfInBounds_toArray, List.set_cons_succ, List.set_cons_zero]
    refine fr1 (u := .int .i64 a) rfl (fun x hx => run_load1 rfl rfl (hx.cell (hd c1)) isAgg3) ?_
    simp only [Act.put, List.setIfInBounds_toArray, List.set_cons_succ, List.set_cons_zero]
    refine fr0 (u := .bool false) rfl (fun w => (run_geq rfl rfl rfl w).trans (by rw [decide_eq_false (show ¬ a ≤ x by omega)])) ?_
    simp only [Act.put, List.setIfInBounds_toArray, List.set_cons_succ, List.set_cons_zero]
    refine fr0 rfl (fun _ => rfl) ?_
    simp only [Act.put, List.setIfInBounds_toArray, List.set_cons_succ, List.set_cons_zero]
    refine frx (by kernel_rfl) ?_
    simp only [Act.put, List.setIfInBounds_toArray, List.set_cons_succ, List.set_cons_zero]
    refine frx (by kernel_rfl) ?_
    simp only [Act.put, List.setIfInBounds_toArray, List.set_cons_succ, List.set_cons_zero]
    refine frx (by kernel_rfl) ?_
    simp only [Act.put, List.setIfInBounds_toArray, List.set_cons_succ, List.set_cons_zero]
    refine frx (by kernel_rfl) ?_
    simp only [Act.put, List.setIfInBounds_toArray, List.set_cons_succ, List.set_cons_zero]
    refine frx (by kernel_rfl) ?_
    simp only [Act.put, List.setIfInBounds_toArray, List.set_cons_succ, List.set_cons_zero]
    refine frx (by kernel_rfl) ?_
    simp only [Act.put, List.setIfInBounds_toArray, List.set_cons_succ, List.set_cons_zero]
    refine frx (by kernel_rfl) ?_
    simp only [Act.put, List.setIfInBounds_toArray, List.set_cons_succ, List.set_cons_zero]
    refine frx (by kernel_rfl) ?_
    simp only [Act.put, List.setIfInBounds_toArray, List.set_cons_succ, List.set_cons_zero]
    refine frx (by kernel_rfl) ?_
    simp only [Act.put, List.setIfInBounds_toArray, List.set_cons_succ, List.set_cons_zero]
    refine frx (by kernel_rfl) ?_
    simp only [Act.put, List.setIfInBounds_toArray, List.set_cons_succ, List.set_cons_zero]
    refine frx (by kernel_rfl) ?_
    simp only [Act.put, List.setIfInBounds_toArray, List.set_cons_succ, List.set_cons_zero]
    refine fr0 rfl (fun _ => rfl) ?_
    simp only [Act.put, List.setIfInBounds_toArray, List.set_cons_succ, List.set_cons_zero]
    refine fr0 rfl (fun _ => rfl) ?_
    simp only [Act.put, List.setIfInBounds_toArray, List.set_cons_succ, List.set_cons_zero]
    refine frnil ?_
    show Exit.then _ _ _ _ _
    go_wp2
    go_ret
    exact ⟨ret_bool (by rw [decide_eq_false (show ¬ a ≤ x by omega)]; rfl), (Only.refl [] w).drew⟩

end Go.Proofs.Ytoccnaebckcfmaa
