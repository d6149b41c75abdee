/- A disk does any calls as the document says: the walk of the law. -/
import Derived.Test.YtabddepidhfelaaR7
set_option linter.unusedSimpArgs false
set_option linter.unusedVariables false
namespace Go.Proofs.Ytabddepidhfelaa
open Go.RowKit

section
variable {w0 w : World} {a b c d e : Res} {Rs : List Res}
theorem Has.perm {Rs' : List Res} (h : Has w0 w Rs) (p : Rs.Perm Rs') : Has w0 w Rs' :=
  ⟨h.only, fun r hr => h.each r (p.mem_iff.2 hr), (p.pairwise_iff (fun {x y} hxy z hz hz' => hxy z hz' hz)).1 h.apart⟩
theorem Has.pull3 (h : Has w0 w (a :: b :: c :: d :: Rs)) : Has w0 w (d :: a :: b :: c :: Rs) := h.perm (List.perm_middle (l₁ := [a, b, c]))
theorem Has.pswap {y v : Nat} {G : List Nat} {Ry Rv : RS} (h : Has w0 w (PRes y v G Ry Rv :: Rs)) : Has w0 w (PRes v y G Rv Ry :: Rs) := by
  obtain ⟨hy, hv, hne⟩ := h.pat
  refine h.turn (r' := PRes v y G Rv Ry) (Only.refl _ _) ⟨hv, hy, fun e => hne e.symm⟩ (fun x hx => ?_)
  have := (h.each (PRes y v G Ry Rv) (by simp)).2 x
  simp only [PRes, List.mem_cons] at hx this ⊢
  exact ⟨.inl (by rcases hx with h | h | h <;> simp [h]), (this (by rcases hx with h | h | h <;> simp [h])).2⟩
end

theorem op_cells {w : World} {g : Nat} {a0 a1 a2 a3 a4 : Value} (hb : w.heap[g]? = some (.cells #[a0, a1, a2, a3, a4] 35 (0, 0))) :
    w.cell? ⟨g, 0, none⟩ = some a0 ∧ w.cell? ⟨g, 1, none⟩ = some a1 ∧ w.cell? ⟨g, 2, none⟩ = some a2 ∧ w.cell? ⟨g, 3, none⟩ = some a3 ∧ w.cell? ⟨g, 4, none⟩ = some a4 := by
  refine ⟨?_, ?_, ?_, ?_, ?_⟩ <;> (rw [cell_of_row _ _ _ _ _ _ hb]; rfl)

theorem build330 (w : World) : (Instr.buildSlice 33 0 #[]).run Try.prog w = .ok (.slice (some ⟨w.heap.size, 0, none⟩) 0 0) (w.alloc (.cells #[] 3)) := by kernel_rfl
theorem append33nil (w : World) (g cap : Nat) (t : TypeId) : (Builtin.append_ #[33, 33] t #[.slice (some ⟨g, 0, none⟩) 0 0, .slice none 0 cap]).run Try.prog w = .ok (.slice (some ⟨g, 0, none⟩) 0 0) w := by
  kernel_rfl
theorem info3 : (Try.prog.info? 3).map (fun i => (i.zero, i.size, i.bytes)) = some (some (.int .i64 0), 1, 8) := by kernel_rfl

/-- 'append([]int{}, keep...)'. -/
theorem append33 {w : World} {kv : Value} {keep : List Int} (hk : KeepAt w [] kv keep) (hl : keep.length * 8 ≤ 140737488351232) (t : TypeId) :
    ∃ g cap w' cur, (Builtin.append_ #[33, 33] t #[.slice (some ⟨w.heap.size, 0, none⟩) 0 0, kv]).run Try.prog (w.alloc (.cells #[] 3)) = .ok (.slice (some ⟨g, 0, none⟩) keep.length cap) w' ∧ w.heap.size ≤ g ∧ g < w'.heap.size ∧
      w'.heap[g]? = some (.cells cur 3 (0, 0)) ∧ (∀ (j : Nat) (z : Int), keep[j]? = some z → cur[j]? = some (.int .i64 z)) ∧ Only [] w w' := by
  obtain ⟨ad, cap, rfl, h2, h3⟩ := hk
  have hown0 : (w.alloc (.cells #[] 3)).ownsRow w.heap.size 3 1 (.slice (some ⟨w.heap.size, 0, none⟩) 0 0) 0 [] := ⟨rfl, .inr ⟨w.heap.size, 0, #[], rfl, Nat.le_refl _, heap_alloc_last w _, Nat.le_refl _, Nat.zero_le _, rfl, rfl⟩⟩
  cases ad with
  | none =>
    have hke : keep = [] := by
      cases keep with
      | nil => rfl
      | cons z r =>
        obtain ⟨g, o, h, _⟩ := h3 (by simp)
        cases h
    subst hke
    exact ⟨w.heap.size, 0, _, #[], append33nil _ _ cap t, Nat.le_refl _, by simp, heap_alloc_last w _, by simp, (Only.refl [] w).alloc _⟩
  | some x =>
    obtain ⟨i0, hi, hz0, hz1, hz2⟩ := info_parts info3
    obtain ⟨v', w', hrun, hown, hgrow, hnil, hloc⟩ := run_append_own_at (P := Try.prog) (w.alloc (.cells #[] 3)) w.heap.size 33 t 3 i0 _ 1 8 Try.underlying33 hi hz0 hz1 hz2 (by simp [Value.cells]) (by omega)
      (.slice (some ⟨w.heap.size, 0, none⟩) 0 0) 0 [] hown0 x keep.length cap (keep.map (Value.int .i64)) (by simp)
      (fun j u hu => by
        simp only [List.getElem?_map, Option.map_eq_some_iff] at hu
        obtain ⟨z, hz, rfl⟩ := hu
        obtain ⟨g, o, hx, e2, _, e4⟩ := h3 (fun e => by rw [e] at hz; simp at hz)
        cases hx
        rw [Addr.add_mid, World.cell?_alloc_lt _ _ _ e2]
        exact e4 j z hz)
      (fun u hu => by obtain ⟨z, _, rfl⟩ := List.mem_map.1 hu; rfl) (by unfold maxLen; omega) (by omega) (by simp)
    rw [Nat.zero_add, List.nil_append] at hown
    rcases hown.2 with ⟨h1, _⟩ | ⟨g, cap', cur, rfl, hb, hcur, _, _, _, htake⟩
    · have := (hnil.1 h1).1
      cases this
    refine ⟨g, cap', w', cur, hrun, hb, (Array.getElem?_eq_some_iff.1 hcur).1, hcur, fun j z hz => ?_, ((Only.refl [] w).alloc (.cells #[] 3)).grown hgrow (fun k hk => ?_)⟩
    · have hj : j < keep.length := (List.getElem?_eq_some_iff.1 hz).1
      rw [← Array.getElem?_toList, ← List.getElem?_take_of_lt (show j < keep.length * 1 by omega), htake, List.getElem?_map, hz]
      rfl
    · simp [Value.ownBlock] at hk
      exact .inr (by omega)

section
variable {o : Oper} {a : Act}
theorem run_index33 {x y : Operand} {g q j n cap : Nat} (hj : j < n) (ho : o.op = .indexAddr 33 x y) (hx : a.eval x = .slice (some ⟨g, q, none⟩) n cap) (hy : a.eval y = .int .i64 j) : ∀ w, (execOp a.eval o).run Try.prog w = .ok (.value (.pointer (some ⟨g, q + j, none⟩))) w := by
  intro w
  unfold execOp
  simp only [ho, hx, hy]
  go_simp
theorem run_field35 {x : Operand} {g : Nat} (ho : o.op = .fieldAddr 35 x 4) (hx : a.eval x = .pointer (some ⟨g, 0, none⟩)) : ∀ w, (execOp a.eval o).run Try.prog w = .ok (.value (.pointer (some ⟨g, 4, none⟩))) w := by
  intro w
  unfold execOp
  simp only [ho, hx]
  go_simp
theorem run_neq_i3 {x y : Operand} {z : Int} {t : TypeId} (ho : o.op = .binOp .neq 3 x y t) (hx : a.eval x = .int .i64 z) (hy : a.eval y = .int .i64 z) : ∀ w, (execOp a.eval o).run Try.prog w = .ok (.value (.bool false)) w := by
  intro w
  unfold execOp
  simp only [ho, hx, hy]
  go_simp
theorem isAgg33 (w : World) : (isAgg 33).run Try.prog w = .ok false w := by kernel_rfl
end

def PlayRel (w : World) (bx ry bz rv k : Nat) (wr : World) : Prop :=
  ∃ Fx Sx Fz Sz G Ry Rv, Has w wr [DRes bx Fx Sx, DRes bz Fz Sz, PRes ry rv G Ry Rv] ∧ Sim Sx Ry ∧ Sim Sz Rv ∧ Bd Ry k ∧ Bd Rv k

set_option maxRecDepth 100000 in
set_option maxHeartbeats 1000000 in
theorem plays_out (w : World) (n : Int) (a : Option Addr) (len cap : Nat) (hn : n < 1 ∨ 8192 < n) :
    Calls Try.prog 3 #[.int .i64 n, .slice a len cap] w fun e w' => e = .returned (.bool true) ∧ Only [] w w' := by
  have NN := Lib.hid (fun w => new_no w n hn)
  have RN := Lib.hid (fun w => rnew_no w n hn)
  clear hn
  go_enter Try.func3, Try.ntmps3
  go_wp2_with fail
  refine (shown_any w).mono ?_
  rintro e w1 ⟨rfl, o1⟩
  have O1 := Lib.hid o1
  clear o1
  go_wp2_with fail
  refine (NN.out _).mono ?_
  rintro e w' ⟨rfl, rfl⟩
  go_wp2_with fail
  refine (RN.out _).mono ?_
  rintro e w' ⟨rfl, rfl⟩
  go_wp2
  go_ret
  exact ⟨rfl, O1.out⟩

end Go.Proofs.Ytabddepidhfelaa
