/- What writeHead does. -/
import Derived.Test.YtoccnaebckcfmaaW5
import Derived.Test.YtoccnaebckcfmaaFlowR
set_option linter.unusedSimpArgs false
set_option linter.unusedVariables false
set_option maxRecDepth 8000
namespace Go.Proofs.Ytoccnaebckcfmaa
open Go.RowKit

section
variable {o : Oper} {a : Act} {w : World}
theorem run_enter1 {f : FuncId} {x1 : Operand} {v1 : Value} {ts : Array TypeId} (hc : ∀ args w, (callFunc f args).run Try.prog w = .ok (.enter f args) w) (ho : o.op = .call { callee := .value (.func f), args := #[x1], argTypes := ts }) (h1 : a.eval x1 = v1) : (execOp a.eval o).run Try.prog w = .ok (.enter f #[v1]) w := by
  unfold execOp
  simp only [ho]
  have hf : a.eval (.func f) = .func (.func f) #[] #[] := rfl
  simp only [resolve, List.map_toArray, List.map_cons, List.map_nil, h1, hf, Sem.run_bind, Sem.run_pure, Result.andThen_ok]
  first | exact hc _ _ | simp [hc]
theorem run_enter2 {f : FuncId} {x1 x2 : Operand} {v1 v2 : Value} {ts : Array TypeId} (hc : ∀ args w, (callFunc f args).run Try.prog w = .ok (.enter f args) w) (ho : o.op = .call { callee := .value (.func f), args := #[x1, x2], argTypes := ts }) (h1 : a.eval x1 = v1) (h2 : a.eval x2 = v2) : (execOp a.eval o).run Try.prog w = .ok (.enter f #[v1, v2]) w := by
  unfold execOp
  simp only [ho]
  have hf : a.eval (.func f) = .func (.func f) #[] #[] := rfl
  simp only [resolve, List.map_toArray, List.map_cons, List.map_nil, h1, h2, hf, Sem.run_bind, Sem.run_pure, Result.andThen_ok]
  first | exact hc _ _ | simp [hc]
theorem run_enter3 {f : FuncId} {x1 x2 x3 : Operand} {v1 v2 v3 : Value} {ts : Array TypeId} (hc : ∀ args w, (callFunc f args).run Try.prog w = .ok (.enter f args) w) (ho : o.op = .call { callee := .value (.func f), args := #[x1, x2, x3], argTypes := ts }) (h1 : a.eval x1 = v1) (h2 : a.eval x2 = v2) (h3 : a.eval x3 = v3) : (execOp a.eval o).run Try.prog w = .ok (.enter f #[v1, v2, v3]) w := by
  unfold execOp
  simp only [ho]
  have hf : a.eval (.func f) = .func (.func f) #[] #[] := rfl
  simp only [resolve, List.map_toArray, List.map_cons, List.map_nil, h1, h2, h3, hf, Sem.run_bind, Sem.run_pure, Result.andThen_ok]
  first | exact hc _ _ | simp [hc]

theorem build54_run (i : Int) (p : Option Addr) (n c : Nat) (w : World) : (Instr.build 112 #[(0, .int .i64 i), (1, .slice p n c)]).run Try.prog w = .ok (.agg #[.int .i64 i, .slice p n c]) w := by kernel_rfl
theorem run_build54 {x y : Operand} {i : Int} {p : Option Addr} {n c : Nat} (ho : o.op = .build 112 #[(0, x), (1, y)]) (hx : a.eval x = .int .i64 i) (hy : a.eval y = .slice p n c) :
    ∀ w, (execOp a.eval o).run Try.prog w = .ok (.value (.agg #[.int .i64 i, .slice p n c])) w := by
  intro w
  unfold execOp
  simp only [ho, List.map_toArray, List.map_cons, List.map_nil, hx, hy, Sem.run_bind, build54_run i p n c w, Result.andThen_ok, Sem.run_pure]
theorem buildSlice32_run (x y : Value) (hx : x.oneCell' = true) (w : World) : (Instr.buildSlice 79 1 #[(0, .agg #[x, y])]).run Try.prog w = .ok (.slice (some ⟨w.heap.size, 0, none⟩) 1 1) (w.alloc (.cells #[x, y] 112)) := by kernel_rfl
theorem run_buildSlice32 {x : Operand} {u v : Value} (ho : o.op = .buildSlice 79 1 #[(0, x)]) (hx : a.eval x = .agg #[u, v]) (hu : u.oneCell' = true) :
    (execOp a.eval o).run Try.prog w = .ok (.value (.slice (some ⟨w.heap.size, 0, none⟩) 1 1)) (w.alloc (.cells #[u, v] 112)) := by
  unfold execOp
  simp only [ho, List.map_toArray, List.map_cons, List.map_nil, hx, Sem.run_bind, buildSlice32_run u v hu w, Result.andThen_ok, Sem.run_pure]
theorem run_field78 {x : Operand} {b k : Nat} (hk : k < 4) (ho : o.op = .fieldAddr 99 x k) (hx : a.eval x = .pointer (some ⟨b, 0, none⟩)) :
    ∀ w, (execOp a.eval o).run Try.prog w = .ok (.value (.pointer (some ⟨b, k, none⟩))) w := by
  intro w
  unfold execOp
  simp only [ho, hx]
  match k, hk with
  | 0, _ | 1, _ | 2, _ | 3, _ => go_simp
theorem run_load78 {x : Operand} {g : Nat} {v : Array Value} {t : TypeId} (ho : o.op = .load 99 x) (hx : a.eval x = .pointer (some ⟨g, 0, none⟩)) (hb : w.heap[g]? = some (.cells v t (0, 0))) (hv : v.size = 4) :
    (execOp a.eval o).run Try.prog w = .ok (.value (.agg v)) w := by
  unfold execOp
  simp only [ho, hx, Instr.loadAt, Instr.sureAddr, Sem.run_bind, Sem.run_pure, Result.andThen_ok, run_loadVar_row (P := Try.prog) w g t 99 v (0, 0) _ hb Try.underlying99 rfl (by rw [hv]; kernel_rfl)]
end

theorem Only.lat {w w' : World} (h : Only [] w w') : Lat w w' := ⟨h.size, fun k hk => h.block k hk (by simp)⟩

/-- One put in memory. -/
theorem putsAt_one {w : World} {F : List Nat} {g : Nat} {i : Int} {av : Value} {v : Array Value} {t : TypeId} (hb : w.heap[g]? = some (.cells #[.int .i64 i, av] t (0, 0))) (hg : g ∉ F) (hv : Bytes64 w F av v) : PutsAt w F (.slice (some ⟨g, 0, none⟩) 1 1) [(i, v)] := by
  refine ⟨_, _, rfl, by simp, fun j p hp => ?_⟩
  cases j with
  | succ j => simp at hp
  | zero =>
    simp at hp
    subst hp
    exact ⟨g, 0, av, rfl, (Array.getElem?_eq_some_iff.1 hb).1, hg, by rw [cell_of_row _ _ _ _ _ _ hb]; rfl, by rw [cell_of_row _ _ _ _ _ _ hb]; rfl, hv⟩

theorem bytes64_row {w : World} {F : List Nat} {g : Nat} {v : Array Value} {t : TypeId} (hb : w.heap[g]? = some (.cells v t (0, 0))) (hg : g ∉ F) (hv : SecOk v) : Bytes64 w F (.slice (some ⟨g, 0, none⟩) 64 64) v :=
  ⟨hv, g, 0, 64, rfl, (Array.getElem?_eq_some_iff.1 hb).1, hg, fun j u hu => by rw [Nat.zero_add, cell_of_row _ _ _ _ _ _ hb]; simpa using hu⟩

set_option maxHeartbeats 1000000 in
theorem writeHead_any {w : World} {b : Nat} {F : List Nat} {S : St} (h : DAt w b F S) (a s g p : Int) (ha : 0 ≤ a ∧ a ≤ 9223372036854775807) (hs : 0 ≤ s ∧ s ≤ 9223372036854775807) (hg : 0 ≤ g ∧ g ≤ 9223372036854775807) (hp : 0 ≤ p ∧ p ≤ 9223372036854775807)
    (hst : S.steps + 1 < 1000000000) (hpd : S.pend.length + 1 < 1000000000) :
    Calls Try.prog 66 #[.pointer (some ⟨b, 0, none⟩), .agg #[.int .i64 a, .int .i64 s, .int .i64 g, .int .i64 p]] w fun e w' => e = .returned (.int .i64 (S.writeAll [(a, headA a s g p)]).1) ∧ DPost w w' b F (S.writeAll [(a, headA a s g p)]).2 := by
  have H := Lib.hid h
  clear h
  go_enter Try.func66, Try.ntmps66
  go_wp2_with fail
  have hbox : (w.alloc (.cells #[.int .i64 a, .int .i64 s, .int .i64 g, .int .i64 p] 99)).drew.heap[w.heap.size]? = some (.cells #[.int .i64 a, .int .i64 s, .int .i64 g, .int .i64 p] 99 (0, 0)) := heap_alloc_last w _
  have c0 : (w.alloc (.cells #[.int .i64 a, .int .i64 s, .int .i64 g, .int .i64 p] 99)).drew.cell? ⟨w.heap.size, 0, none⟩ = some (.int .i64 a) := by rw [cell_of_row _ _ _ _ _ _ hbox]; rfl
  have d1 := (H.out.alloc (.cells #[.int .i64 a, .int .i64 s, .int .i64 g, .int .i64 p] 99)).drew
  have o1 := ((Only.refl [] w).alloc (.cells #[.int .i64 a, .int .i64 s, .int .i64 g, .int .i64 p] 99)).drew
  refine wp_region_flowR Lat [0, 0, 1, 1, 2, 0, 2, 3, 0] (by kernel_rfl) (by kernel_rfl) Lat.refl Lat.trans ?_
  generalize (w.alloc (.cells #[.int .i64 a, .int .i64 s, .int .i64 g, .int .i64 p] 99)).drew = w1 at *
  refine fr0 (u := .pointer (some ⟨b, 0, none⟩)) rfl (fun _ => rfl) ?_
  refine fr0 (u := .pointer (some ⟨w.heap.size, 0, none⟩)) rfl (run_field78 (by omega) rfl rfl) ?_
  simp only [Act.put, List.setIfInBounds_toArray, List.set_cons_succ, List.set_cons_zero]
  refine fr1 (u := .int .i64 a) rfl (fun x hx => run_load1 rfl rfl (hx.cell c0) isAgg3) ?_
  refine fr1 (u := .agg #[.int .i64 a, .int .i64 s, .int .i64 g, .int .i64 p]) rfl (fun x hx => run_load78 rfl rfl (hx.at hbox) rfl) ?_
  simp only [Act.put, List.setIfInBounds_toArray, List.set_cons_succ, List.set_cons_zero]
  refine fr2c rfl (run_enter1 Try.call59 rfl rfl) (bytes_any w1 a s g p ha hs hg hp) ?_
  rintro e w2 ⟨q, rfl, hq, hqb, o2⟩
  refine ⟨_, rfl, o2.lat, ?_⟩
  simp only [Act.put, List.setIfInBounds_toArray, List.set_cons_succ, List.set_cons_zero]
  refine fr0 (u := .agg #[.int .i64 a, .slice (some ⟨q, 0, none⟩) 64 64]) rfl (run_build54 rfl rfl rfl) ?_
  simp only [Act.put, List.setIfInBounds_toArray, List.set_cons_succ, List.set_cons_zero]
  refine fr2 (u := .slice (some ⟨w2.heap.size, 0, none⟩) 1 1) (w' := w2.alloc (.cells #[.int .i64 a, .slice (some ⟨q, 0, none⟩) 64 64] 112)) rfl (Lat.alloc _ _) (.inl (run_buildSlice32 rfl rfl rfl)) ?_
  simp only [Act.put, List.setIfInBounds_toArray, List.set_cons_succ, List.set_cons_zero]
  have d2 := d1.only o2 (by simp)
  have d3 := d2.alloc (.cells #[.int .i64 a, .slice (some ⟨q, 0, none⟩) 64 64] 112)
  have hb3 := heap_alloc_last w2 (.cells #[.int .i64 a, .slice (some ⟨q, 0, none⟩) 64 64] 112)
  have hq3 : (w2.alloc (.cells #[.int .i64 a, .slice (some ⟨q, 0, none⟩) 64 64] 112)).heap[q]? = some (.cells (headA a s g p) 5 (0, 0)) := by rw [Below.heap_alloc _ _ _ (Array.getElem?_eq_some_iff.1 hqb).1]; exact hqb
  have hqF : q ∉ F := fun hx => by have := dAt_lt d1 q hx; omega
  have hgF : w2.heap.size ∉ F := fun hx => by have := dAt_lt d2 _ hx; omega
  have o3 : Only [] w (w2.alloc (.cells #[.int .i64 a, .slice (some ⟨q, 0, none⟩) 64 64] 112)) := (o1.trans o2 (by simp)).alloc _
  refine fr3c rfl (run_enter2 Try.call71 rfl rfl rfl) (writeAll_any d3 (putsAt_one hb3 hgF (bytes64_row hq3 hqF (headA_ok a s g p))) (by simpa using hst) (by simpa using hpd)) ?_
  rintro e w4 ⟨rfl, hpost⟩
  refine ⟨_, rfl, ?_⟩
  simp only [Act.put, List.setIfInBounds_toArray, List.set_cons_succ, List.set_cons_zero]
  refine fr0 rfl (fun _ => rfl) ?_
  refine frnil ?_
  show Exit.then _ _ _ _ _
  go_wp2
  go_ret
  exact ⟨rfl, DPost.trans (o3.mono (by simp)) (fun x hx => .inl hx) hpost⟩

end Go.Proofs.Ytoccnaebckcfmaa
