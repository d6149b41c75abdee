/- What finish and Commit do. -/
import Derived.Test.YtoccnaebckcfmaaW11
set_option linter.unusedSimpArgs false
set_option linter.unusedVariables false
set_option maxRecDepth 8000
namespace Go.Proofs.Ytoccnaebckcfmaa
open Go.RowKit

section
variable {o : Oper} {a : Act} {w : World}
theorem build78_run4 (i j k l : Int) (w : World) : (Instr.build 99 #[(0, .int .i64 i), (1, .int .i64 j), (2, .int .i64 k), (3, .int .i64 l)]).run Try.prog w = .ok (.agg #[.int .i64 i, .int .i64 j, .int .i64 k, .int .i64 l]) w := by kernel_rfl
theorem build78_run3 (i j k : Int) (w : World) : (Instr.build 99 #[(0, .int .i64 i), (1, .int .i64 j), (2, .int .i64 k)]).run Try.prog w = .ok (.agg #[.int .i64 i, .int .i64 j, .int .i64 k, .int .i64 0]) w := by kernel_rfl
theorem run_build78_4 {x y z u : Operand} {i j k l : Int} (ho : o.op = .build 99 #[(0, x), (1, y), (2, z), (3, u)]) (hx : a.eval x = .int .i64 i) (hy : a.eval y = .int .i64 j) (hz : a.eval z = .int .i64 k) (hu : a.eval u = .int .i64 l) :
    ∀ w, (execOp a.eval o).run Try.prog w = .ok (.value (.agg #[.int .i64 i, .int .i64 j, .int .i64 k, .int .i64 l])) w := by
  intro w
  unfold execOp
  simp only [ho, List.map_toArray, List.map_cons, List.map_nil, hx, hy, hz, hu, Sem.run_bind, build78_run4 i j k l w, Result.andThen_ok, Sem.run_pure]
theorem run_build78_3 {x y z : Operand} {i j k : Int} (ho : o.op = .build 99 #[(0, x), (1, y), (2, z)]) (hx : a.eval x = .int .i64 i) (hy : a.eval y = .int .i64 j) (hz : a.eval z = .int .i64 k) :
    ∀ w, (execOp a.eval o).run Try.prog w = .ok (.value (.agg #[.int .i64 i, .int .i64 j, .int .i64 k, .int .i64 0])) w := by
  intro w
  unfold execOp
  simp only [ho, List.map_toArray, List.map_cons, List.map_nil, hx, hy, hz, Sem.run_bind, build78_run3 i j k w, Result.andThen_ok, Sem.run_pure]
theorem zero78 (w : World) : (zeroValue 99).run Try.prog w = .ok (.agg #[.int .i64 0, .int .i64 0, .int .i64 0, .int .i64 0]) w := by kernel_rfl
theorem info78 : (Try.prog.info? 99).map (·.size) = some 4 := by kernel_rfl
theorem run_alloc78 (ho : o.op = .alloc 99) : (execOp a.eval o).run Try.prog w = .ok (.value (.pointer (some ⟨w.heap.size, 0, none⟩))) (w.alloc (.cells #[.int .i64 0, .int .i64 0, .int .i64 0, .int .i64 0] 99)) := by
  unfold execOp
  rw [ho]
  simp only [Instr.alloc, Sem.run_bind, zero78, Result.andThen, newVar, newRow, Value.cells]
  rfl
theorem run_store78 {x y : Operand} {c c' : Array Value} (hc : c.size = 4) (hc' : c'.size = 4) (h1 : c'.all (·.oneCell') = true) (ho : o.op = .store 99 x y) (hx : a.eval x = .pointer (some ⟨w.heap.size, 0, none⟩)) (hy : a.eval y = .agg c') :
    (execOp a.eval o).run Try.prog (w.alloc (.cells c 99)) = .ok .skip (w.alloc (.cells c' 99)) := by
  unfold execOp
  rw [ho]
  simp only [hx, hy, Sem.run_bind, run_storeAt_new (P := Try.prog) w 99 c c' (by rw [info78, hc']) (by rw [hc, hc']) h1, Result.andThen]
  rfl
theorem len32 (ty : TypeId) (p : Option Addr) (n c : Nat) (w : World) : (Builtin.len_ #[79] ty #[.slice p n c]).run Try.prog w = .ok (.int .i64 n) w := by kernel_rfl
theorem run_len32 {x : Operand} {p : Option Addr} {n c : Nat} (ho : o.op = .call { callee := .builtin .len, args := #[x], argTypes := #[79] }) (hx : a.eval x = .slice p n c) : ∀ w, (execOp a.eval o).run Try.prog w = .ok (.value (.int .i64 n)) w := by
  intro w
  unfold execOp
  simp only [ho, resolve, invoke, builtin, Sem.run_bind, Sem.run_pure, Result.andThen_ok, List.map_toArray, List.map_cons, List.map_nil, hx, len32 _ p n c w]
end

/-! How many steps. -/
theorem doWrite_bd (S : St) (i : Int) (v : Array Value) : (S.doWrite i v).2.steps ≤ S.steps + 1 ∧ (S.doWrite i v).2.pend.length ≤ S.pend.length + 1 := by
  unfold St.doWrite
  split
  · constructor <;> simp <;> omega
  · split
    · simp [St.fallen]; omega
    · simp [St.write, St.written, St.kept, St.stepped]
theorem writes_bd : ∀ (ps : List (Int × Array Value)) (S : St), (S.writes ps).2.steps ≤ S.steps + ps.length ∧ (S.writes ps).2.pend.length ≤ S.pend.length + ps.length
  | [], S => by simp [St.writes]
  | p :: ps, S => by
    have h1 := doWrite_bd S p.1 p.2
    unfold St.writes
    split
    · have h2 := writes_bd ps (S.doWrite p.1 p.2).2
      simp only [List.length_cons]
      constructor <;> omega
    · simp only [List.length_cons]
      constructor <;> omega
theorem doBarrier_bd (S : St) : S.doBarrier.2.steps ≤ S.steps + 1 ∧ S.doBarrier.2.pend.length ≤ S.pend.length := by
  unfold St.doBarrier
  split
  · simp; omega
  · split
    · simp [St.fallen]; omega
    · simp [St.settled, St.stepped]
theorem writeAll_bd (ps : List (Int × Array Value)) (S : St) : (S.writeAll ps).2.steps ≤ S.steps + ps.length + 1 ∧ (S.writeAll ps).2.pend.length ≤ S.pend.length + ps.length := by
  have h := writes_bd ps S
  unfold St.writeAll
  split
  · have h2 := doBarrier_bd (S.writes ps).2
    constructor <;> omega
  · constructor <;> omega

def St.finish (S : St) (a s : Int) (ps : List (Int × Array Value)) (g : Int) : Int × St := if (S.writeAll ps).1 = 0 then (S.writeAll ps).2.writeAll [(a, headA a s g 0)] else S.writeAll ps
theorem finish_bd (S : St) (a s : Int) (ps : List (Int × Array Value)) (g : Int) : (S.finish a s ps g).2.steps ≤ S.steps + ps.length + 3 ∧ (S.finish a s ps g).2.pend.length ≤ S.pend.length + ps.length + 1 := by
  have h := writeAll_bd ps S
  unfold St.finish
  split
  · have h2 := writeAll_bd [(a, headA a s g 0)] (S.writeAll ps).2
    simp only [List.length_singleton] at h2
    constructor <;> omega
  · constructor <;> omega

set_option maxHeartbeats 1000000 in
theorem finish_any {w : World} {wb b : Nat} {F : List Nat} {S : St} {a s g0 g : Int} {lv : Value} {ps : List (Int × Array Value)} (h : DAt w b F S) (hw : WalAt w wb b a s g0) (hwb : wb ∉ F) (hl : PutsAt w F lv ps) (ha : 0 ≤ a ∧ a ≤ 9223372036854775807) (hs : 0 ≤ s ∧ s ≤ 9223372036854775807) (hg : 0 ≤ g ∧ g ≤ 9223372036854775807)
    (hst : S.steps + ps.length + 10 < 1000000000) (hpd : S.pend.length + ps.length + 10 < 1000000000) :
    Calls Try.prog 73 #[.pointer (some ⟨wb, 0, none⟩), lv, .int .i64 g] w fun e w' => e = .returned (.int .i64 (S.finish a s ps g).1) ∧ DPost w w' b F (S.finish a s ps g).2 := by
  obtain ⟨c0, c1, c2, c3, fz⟩ := hw.cells
  have bd := writeAll_bd ps S
  have WA := Lib.hid (writeAll_any h hl (by omega) (by omega))
  have HW := Lib.hid hw
  clear h hl hw
  by_cases hz : (S.writeAll ps).1 = 0
  · go_enter Try.func73, Try.ntmps73
    go_wp2_with (go_at_call 71; refine WA.out.mono ?_; rintro e w1 ⟨rfl, hpost⟩)
    obtain ⟨F1, d1, f1, o1⟩ := hpost
    obtain ⟨x0, x1, x2, x3, -⟩ := (HW.out.only o1 hwb).cells
    have d1' := d1.drew
    have hd : ∀ {p : Addr} {u : Value}, w1.cell? p = some u → w1.drew.cell? p = some u := fun h => h
    have WH := Lib.hid (writeHead_any d1' a s g 0 ha hs hg (by omega) (by omega) (by omega))
    refine wp_region_flowR Lat [0, 0, 0, 1, 0, 0, 0, 1, 0, 0, 0, 1, 0, 0, 3, 0] (by kernel_rfl) (by kernel_rfl) Lat.refl Lat.trans ?_
    refine fr0 rfl (fun _ => rfl) ?_
    simp only [Act.put, List.setIfInBounds_toArray, List.set_cons_succ, List.set_cons_zero]
    refine fr0 rfl (fun _ => rfl) ?_
    simp only [Act.put, List.setIfInBounds_toArray, List.set_cons_succ, List.set_cons_zero]
    refine fr0 rfl (run_field75 (by omega) rfl rfl) ?_
    simp only [Act.put, List.setIfInBounds_toArray, List.set_cons_succ, List.set_cons_zero]
    refine fr1 (u := .pointer (some ⟨b, 0, none⟩)) rfl (fun x hx => run_load1 rfl rfl (hx.cell (hd x0)) isAgg25) ?_
    simp only [Act.put, List.setIfInBounds_toArray, List.set_cons_succ, List.set_cons_zero]
    refine fr0 rfl (fun _ => rfl) ?_
    simp only [Act.put, List.setIfInBounds_toArray, List.set_cons_succ, List.set_cons_zero]
    refine fr0 rfl (fun _ => rfl) ?_
    simp only [Act.put, List.setIfInBounds_toArray, List.set_cons_succ, List.set_cons_zero]
    refine fr0 rfl (run_field75 (by omega) rfl rfl) ?_
    simp only [Act.put, List.setIfInBounds_toArray, List.set_cons_succ, List.set_cons_zero]
    refine fr1 (u := .int .i64 a) rfl (fun x hx => run_load1 rfl rfl (hx.cell (hd x1)) isAgg3) ?_
    simp only [Act.put, List.setIfInBounds_toArray, List.set_cons_succ, List.set_cons_zero]
    refine fr0 rfl (fun _ => rfl) ?_
    simp only [Act.put, List.setIfInBounds_toArray, List.set_cons_succ, List.set_cons_zero]
    refine fr0 rfl (fun _ => rfl) ?_
    simp only [Act.put, List.setIfInBounds_toArray, List.set_cons_succ, List.set_cons_zero]
    refine fr0 rfl (run_field75 (by omega) rfl rfl) ?_
    simp only [Act.put, List.setIfInBounds_toArray, List.set_cons_succ, List.set_cons_zero]
    refine fr1 (u := .int .i64 s) rfl (fun x hx => run_load1 rfl rfl (hx.cell (hd x2)) isAgg3) ?_
    simp only [Act.put, List.setIfInBounds_toArray, List.set_cons_succ, List.set_cons_zero]
    refine fr0 rfl (fun _ => rfl) ?_
    simp only [Act.put, List.setIfInBounds_toArray, List.set_cons_succ, List.set_cons_zero]
    refine fr0 (u := .agg #[.int .i64 a, .int .i64 s, .int .i64 g, .int .i64 0]) rfl (run_build78_3 rfl rfl rfl rfl) ?_
    simp only [Act.put, List.setIfInBounds_toArray, List.set_cons_succ, List.set_cons_zero]
    refine fr3c rfl (run_enter2 Try.call66 rfl rfl rfl) WH.out ?_
    rintro e w2 ⟨rfl, hpost2⟩
    refine ⟨_, rfl, ?_⟩
    simp only [Act.put, List.setIfInBounds_toArray, List.set_cons_succ, List.set_cons_zero]
    refine fr0 rfl (fun _ => rfl) ?_
    simp only [Act.put, List.setIfInBounds_toArray, List.set_cons_succ, List.set_cons_zero]
    refine frnil ?_
    show Exit.then _ _ _ _ _
    go_wp2
    go_ret
    have he : S.finish a s ps g = (S.writeAll ps).2.writeAll [(a, headA a s g 0)] := by rw [St.finish, if_pos hz]
    rw [he]
    exact ⟨rfl, DPost.trans o1.drew f1 hpost2⟩
  · go_enter Try.func73, Try.ntmps73
    go_wp2_with (go_at_call 71; refine WA.out.mono ?_; rintro e w1 ⟨rfl, hpost⟩)
    go_ret
    have he : S.finish a s ps g = S.writeAll ps := by rw [St.finish, if_neg hz]
    rw [he]
    exact ⟨rfl, hpost⟩

end Go.Proofs.Ytoccnaebckcfmaa
