/- Laws for single operations, as the flow wants them. -/
import Derived.Test.YtjbojboiagbofaaDoorC6
import Derived.Test.YtjbojboiagbofaaDoorFlowR
set_option linter.unusedSimpArgs false
set_option linter.unusedVariables false
namespace Go.Proofs.YtjbojboiagbofaaDoor
open Go.RowKit

theorem wrapI {n : Int} (h1 : -9223372036854775808 ≤ n) (h2 : n ≤ 9223372036854775807) : IntKind.i64.wrap n = n := by
  simp [IntKind.wrap, IntKind.signed, IntKind.bits]
  omega
section
variable {o : Oper} {a : Act} {w : World}
theorem run_enter1 {f : FuncId} {x1 : Operand} {v1 : Value} {ts : Array TypeId} (hc : ∀ args w, (callFunc f args).run Tryd.prog w = .ok (.enter f args) w) (ho : o.op = .call { callee := .value (.func f), args := #[x1], argTypes := ts }) (h1 : a.eval x1 = v1) : (execOp a.eval o).run Tryd.prog w = .ok (.enter f #[v1]) w := by
  unfold execOp
  simp only [ho]
  have hf : a.eval (.func f) = .func (.func f) #[] #[] := rfl
  simp only [resolve, List.map_toArray, List.map_cons, List.map_nil, h1, hf, Sem.run_bind, Sem.run_pure, Result.andThen_ok]
  first | exact hc _ _ | simp [hc]
theorem run_add {x y : Operand} {i j : Int} (h1 : -9223372036854775808 ≤ i + j) (h2 : i + j ≤ 9223372036854775807) (ho : o.op = .binOp .add 3 x y 3) (hx : a.eval x = .int .i64 i) (hy : a.eval y = .int .i64 j) : ∀ w, (execOp a.eval o).run Tryd.prog w = .ok (.value (.int .i64 (i + j))) w := by
  intro w
  unfold execOp
  simp only [ho, hx, hy]
  go_simp
  exact wrapI h1 h2
theorem run_mul {x y : Operand} {i j : Int} (h1 : -9223372036854775808 ≤ i * j) (h2 : i * j ≤ 9223372036854775807) (ho : o.op = .binOp .mul 3 x y 3) (hx : a.eval x = .int .i64 i) (hy : a.eval y = .int .i64 j) : ∀ w, (execOp a.eval o).run Tryd.prog w = .ok (.value (.int .i64 (i * j))) w := by
  intro w
  unfold execOp
  simp only [ho, hx, hy]
  go_simp
  exact wrapI h1 h2
theorem run_field24 {x : Operand} {b k : Nat} (hk : k < 7) (ho : o.op = .fieldAddr 24 x k) (hx : a.eval x = .pointer (some ⟨b, 0, none⟩)) :
    ∀ w, (execOp a.eval o).run Tryd.prog w = .ok (.value (.pointer (some ⟨b, k, none⟩))) w := by
  intro w
  unfold execOp
  simp only [ho, hx]
  match k, hk with
  | 0, _ | 1, _ | 2, _ | 3, _ | 4, _ | 5, _ | 6, _ => go_simp
theorem run_load1 {x : Operand} {p : Addr} {t : TypeId} {u : Value} (ho : o.op = .load t x) (hx : a.eval x = .pointer (some p)) (hc : w.cell? p = some u) (ht : ∀ w, (isAgg t).run Tryd.prog w = .ok false w) :
    (execOp a.eval o).run Tryd.prog w = .ok (.value u) w := by
  unfold execOp
  simp only [ho, hx, Instr.loadAt, Instr.sureAddr, loadVar, Sem.run_bind, Sem.run_pure, Result.andThen_ok, ht, Bool.false_eq_true, if_false]
  simp [load, Sem.run, hc]
theorem isAgg3 (w : World) : (isAgg 3).run Tryd.prog w = .ok false w := by kernel_rfl
theorem run_loadT {x : Operand} {g : Nat} {c : Array Value} (ho : o.op = .load 24 x) (hx : a.eval x = .pointer (some ⟨g, 0, none⟩)) (hh : w.heap[g]? = some (.cells c 24)) (hc : c.size = 7) :
    (execOp a.eval o).run Tryd.prog w = .ok (.value (.agg c)) w := by
  unfold execOp
  simp only [ho, hx, Instr.loadAt, Instr.sureAddr, Sem.run_bind, Sem.run_pure, Result.andThen_ok, loadT hh hc]
end
theorem Lat.below {w w' : World} (h : Below w.heap.size w w') : Lat w w' := ⟨h.size, fun k hk => h.block k hk⟩
theorem Lat.heap {w x : World} (h : Lat w x) {k : Nat} {ob : Obj} (hk : w.heap[k]? = some ob) : x.heap[k]? = some ob := h.at hk
theorem call43 (args : Array Value) (w : World) : (callFunc 43 args).run Tryd.prog w = .ok (.enter 43 args) w := by kernel_rfl
end Go.Proofs.YtjbojboiagbofaaDoor
