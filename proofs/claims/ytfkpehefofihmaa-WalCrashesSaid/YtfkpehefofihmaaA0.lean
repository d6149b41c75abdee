/- WalArgs: its list of sectors -/
import Derived.Test.YtfkpehefofihmaaW19
set_option linter.unusedSimpArgs false
set_option linter.unusedVariables false
set_option maxRecDepth 8000
namespace Go.Proofs.Ytfkpehefofihmaa
open Go.RowKit

theorem Has.swap2 {w0 w : World} {r s t : Res} {Rs : List Res} (h : Has w0 w (r :: s :: t :: Rs)) : Has w0 w (r :: t :: s :: Rs) := by
  obtain ⟨h1, h2⟩ := List.pairwise_cons.1 h.apart
  obtain ⟨h3, h4⟩ := List.pairwise_cons.1 h2
  obtain ⟨h5, h6⟩ := List.pairwise_cons.1 h4
  refine ⟨h.only, fun q hq => h.each q (by simp at hq ⊢; rcases hq with h | h | h | h <;> simp [h]), List.pairwise_cons.2 ⟨fun q hq => h1 q (by simp at hq ⊢; rcases hq with h | h | h <;> simp [h]), List.pairwise_cons.2 ⟨fun q hq x hx hxq => ?_, List.pairwise_cons.2 ⟨fun q hq => h3 q (by simp [hq]), h6⟩⟩⟩⟩
  rcases List.mem_cons.1 hq with rfl | hq
  · exact h3 t (by simp) x hxq hx
  · exact h5 q hq x hx hxq
theorem LAt.cap_le {w : World} {G : List Nat} {a : Option Addr} {n cap : Nat} {ps : List (Int × Array Value)} (h : LAt w G (.slice a n cap) ps) : n ≤ cap := by
  obtain ⟨gs, h1, h2, h3, h4⟩ := h
  rcases h2.2 with ⟨e, hn⟩ | ⟨g, cap', cur, e, _, _, hc, _⟩
  · simp at e; omega
  · simp at e; omega
theorem room_facts {m : Int} (h : 3 ≤ m) (h2 : m ≤ 9223372036854775807) : 1 ≤ roomF m ∧ roomF m ≤ m ∧ 0 ≤ m - 1 - roomF m - (roomF m + 31) / 32 ∧ m - 2 - roomF m - (roomF m + 32) / 32 < 0 ∧ roomF m + 32 ≤ 9223372036854775807 := by
  rw [roomF, if_neg (by omega)]
  refine ⟨?_, ?_, ?_, ?_, ?_⟩ <;> omega

/-- The sectors below k that are not the log's, each with its bytes. -/
def isOut (a m : Int) (j : Nat) : Bool := decide ((j : Int) < a ∨ a + m ≤ (j : Int))
def outP (j : Nat) : Int × Array Value := ((j : Int), fullB ((j : Int) % 256) 7)
def outs (a m : Int) (k : Nat) : List (Int × Array Value) := ((List.range k).filter (isOut a m)).map outP
theorem outs_in (a m : Int) (k : Nat) (h : isOut a m k = true) : outs a m (k + 1) = outs a m k ++ [outP k] := by
  simp [outs, List.range_succ, List.filter_append, h]
theorem outs_out (a m : Int) (k : Nat) (h : isOut a m k = false) : outs a m (k + 1) = outs a m k := by
  simp [outs, List.range_succ, List.filter_append, h]
theorem outs_mem {a m : Int} {k : Nat} {p : Int × Array Value} (h : p ∈ outs a m k) : ∃ j, j < k ∧ isOut a m j = true ∧ p = outP j := by
  obtain ⟨j, hj, rfl⟩ := List.mem_map.1 h
  rw [List.mem_filter] at hj
  exact ⟨j, List.mem_range.1 hj.1, hj.2, rfl⟩
theorem outs_nodup (a m : Int) (k : Nat) : ((outs a m k).map (·.1)).Nodup := by
  rw [outs, List.map_map]
  have h1 : ((List.range k).filter (isOut a m)).Nodup := List.nodup_range.filter _
  rw [List.nodup_iff_pairwise_ne, List.pairwise_map]
  exact (List.nodup_iff_pairwise_ne.1 h1).imp (fun hne e => hne (by simp [outP] at e; omega))
theorem outs_group {a m : Int} {k : Nat} {n : Int} {q : Nat} (hk : (k : Int) ≤ n) (hq : ((min q (outs a m k).length : Nat) : Int) ≤ roomF m) : GroupOk a m n (rawsOf ((outs a m k).take q)) := by
  refine ⟨by simpa [rawsOf] using hq, fun r hr => ?_, ?_⟩
  · obtain ⟨p, hp, rfl⟩ := List.mem_map.1 hr
    obtain ⟨j, hj, ho, rfl⟩ := outs_mem (List.mem_of_mem_take hp)
    simp only [isOut, decide_eq_true_eq] at ho
    refine ⟨by simp [outP], by simp only [outP]; omega, by simp only [outP]; omega, rfl⟩
  · rw [rawsOf, List.map_map]
    have := outs_nodup a m k
    have h2 : ((outs a m k).take q).map (·.1) = ((outs a m k).map (·.1)).take q := by rw [List.map_take]
    show (((outs a m k).take q).map (·.1)).Nodup
    rw [h2]
    exact this.sublist (List.take_sublist _ _)

section
variable {o : Oper} {a : Act} {w : World}
theorem run_conv35 {x : Operand} {i : Int} (ho : o.op = .convert 3 5 x) (hx : a.eval x = .int .i64 i) : ∀ w, (execOp a.eval o).run Try.prog w = .ok (.value (.int .u8 (i % 256))) w := by
  intro w
  unfold execOp
  simp only [ho, hx]
  go_simp
  simp [IntKind.wrap, IntKind.signed, IntKind.bits]
theorem run_neq36 {x y : Operand} {i j : Int} (ho : o.op = .binOp .neq 36 x y 36) (hx : a.eval x = .int .i64 i) (hy : a.eval y = .int .i64 j) : ∀ w, (execOp a.eval o).run Try.prog w = .ok (.value (.bool (i != j))) w := by
  intro w
  unfold execOp
  simp only [ho, hx, hy]
  go_simp
theorem run_neqS {x y : Operand} {s : ByteArray} (ho : o.op = .binOp .neq 9 x y 9) (hx : a.eval x = .string s) (hy : a.eval y = .string s) : ∀ w, (execOp a.eval o).run Try.prog w = .ok (.value (.bool false)) w := by
  intro w
  unfold execOp
  simp only [ho, hx, hy]
  go_simp
end
theorem new_quiet (n : Int) : St.new n = quiet n 0 (fun _ => none) := rfl
theorem now_none (n k a : Int) : ((quiet n k (fun _ => none)).now a).getD Z = Z := Option.getD_none
theorem buildSlice32_0 (w : World) : (Instr.buildSlice 32 0 #[]).run Try.prog w = .ok (.slice (some ⟨w.heap.size, 0, none⟩) 0 0) (w.alloc (.cells #[] 54)) := by kernel_rfl


end Go.Proofs.Ytfkpehefofihmaa
