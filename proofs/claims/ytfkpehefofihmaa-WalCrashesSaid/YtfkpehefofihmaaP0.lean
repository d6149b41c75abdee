/- WalApart: what holds behind each group, and within one. -/
import Derived.Test.YtfkpehefofihmaaO0
set_option linter.unusedSimpArgs false
set_option linter.unusedVariables false
set_option maxRecDepth 8000
namespace Go.Proofs.Ytfkpehefofihmaa
open Go.RowKit

def pv (x : Nat) : Value := .pointer (some ⟨x, 0, none⟩)

structure PSt where
  H : Nat → Int
  A : Array Value
  f : Int → Option (Array Value)
  k : Int
  F : List Nat
  g0 : Int
  g1 : Int
  wb0 : Nat
  wb1 : Nat

/-- The part of it that speaks of no world. -/
structure POld (X : PSt) (i : Nat) : Prop where
  rel : ∀ t : Nat, t < 40 → 0 ≤ X.H t ∧ X.H t ≤ 30 ∧ (X.H t ≠ 0 → X.f (80 + (t : Int)) = some (fullB (X.H t) 3))
  head0 : X.f 0 = some (headA 0 40 X.g0 0)
  head1 : X.f 40 = some (headA 40 40 X.g1 0)
  k0 : 0 ≤ X.k
  k1 : X.k ≤ 4 + 200 * (i : Int)
  b0 : 0 ≤ X.g0 ∧ X.g0 ≤ i
  b1 : 0 ≤ X.g1 ∧ X.g1 ≤ i

def prest (hb pb sb nb : Nat) (A : Array Value) (wb0 wb1 : Nat) (g0 g1 : Int) : List Res :=
  BRes hb (.cells A 63) :: BRes pb (.cells #[.int .i64 0, .int .i64 40] 61) :: BRes sb (.cells #[pv wb0, pv wb1] 62) :: BRes nb (.cells #[.int .i64 g0, .int .i64 g1] 61) :: []

/-- Behind i groups. -/
structure PInv (w wr : World) (b hb pb sb nb i : Nat) (X : PSt) : Prop where
  row : RowIs X.A 40 X.H
  old : POld X i
  has : Has w wr (DRes b X.F (quiet 120 X.k X.f) :: WRes X.wb0 b 0 40 X.g0 :: WRes X.wb1 b 40 40 X.g1 :: prest hb pb sb nb X.A X.wb0 X.wb1 X.g0 X.g1)

/-- Within group i of the log whose sectors begin at base: the sectors xs so far; off: where has begins for it; Rs: all else. -/
structure JInv (w wr : World) (hb sg i j : Nat) (base : Int) (off : Nat) (H : Nat → Int) (c : Value) (xs : List Nat) (A B : Array Value) (G : List Nat) (Rs : List Res) : Prop where
  nodup : xs.Nodup
  lt : ∀ t ∈ xs, t < 20
  len : xs.length ≤ j
  row : RowIs A 40 (fun t => if off ≤ t ∧ t - off ∈ xs then (i : Int) + 1 else H t)
  flag : FlagIs B 20 (fun t => decide (t ∈ xs))
  has : Has w wr (LRes G c (grp base ((i : Int) + 1) (fun _ => 3) xs) :: BRes sg (.cells B 64) :: BRes hb (.cells A 63) :: Rs)

theorem JInv.start {w wr : World} {hb i : Nat} {A : Array Value} {H : Nat → Int} {Rs : List Res} (base : Int) (off : Nat) (hr : RowIs A 40 H) (h : Has w wr (BRes hb (.cells A 63) :: Rs)) :
    JInv w ((wr.alloc (.cells #[] 54)).alloc (.cells (nays 20) 64)) hb (wr.heap.size + 1) i 0 base off H (.slice (some ⟨wr.heap.size, 0, none⟩) 0 0) [] A (nays 20) [wr.heap.size] Rs := by
  have h1 := (has_nil h).alloc (.cells (nays 20) 64)
  rw [World.size_alloc] at h1
  exact ⟨List.nodup_nil, by simp, by simp, by simpa using hr, by simpa using nays_is 20, h1.swap⟩

theorem JInv.skip {w wr : World} {hb sg i j : Nat} {base : Int} {off : Nat} {H : Nat → Int} {c : Value} {xs : List Nat} {A B : Array Value} {G : List Nat} {Rs : List Res} (h : JInv w wr hb sg i j base off H c xs A B G Rs) : JInv w wr hb sg i (j + 1) base off H c xs A B G Rs :=
  ⟨h.nodup, h.lt, Nat.le_succ_of_le h.len, h.row, h.flag, h.has⟩

theorem JInv.add {w wr : World} {hb sg i j : Nat} {base : Int} {off : Nat} {H : Nat → Int} {c : Value} {xs : List Nat} {A B : Array Value} {G : List Nat} {Rs : List Res} (h : JInv w wr hb sg i j base off H c xs A B G Rs) {t : Nat} (ht : t < 20) (hx : t ∉ xs) (hj : j ≤ 100) {q : Nat} (hq : q = off + t) (hoff : off ≤ 20) {z : Int} (hz : z = base + (t : Int)) :
    ∃ v3 w3, (Builtin.append_ #[32, 32] 32 #[c, .slice (some ⟨wr.heap.size + 1, 0, none⟩) 1 1]).run Try.prog ((((wr.setCell ⟨sg, t, none⟩ (.bool true)).setCell ⟨hb, q, none⟩ (.int .u8 ((i : Int) + 1))).alloc (.cells (fullB ((i : Int) + 1) 3) 5)).alloc (.cells #[.int .i64 z, .slice (some ⟨wr.heap.size, 0, none⟩) 64 64] 54)) = .ok v3 w3 ∧
      ∃ A' B' G', JInv w w3 hb sg i (j + 1) base off H v3 (xs ++ [t]) A' B' G' Rs := by
  subst hq hz
  have h1 := (h.has.pull (L1 := [_]) (L2 := _ :: Rs)).setb t (.bool true)
  have h2 := (h1.pull (L1 := [_, _]) (L2 := Rs)).setb (off + t) (.int .u8 ((i : Int) + 1))
  have h3 := h2.pull (L1 := [_, _]) (L2 := Rs)
  have hl := h.len
  obtain ⟨v3, w3, hrun, G3, h4⟩ := has_append h3 (base + (t : Int)) (fullB ((i : Int) + 1) 3) (fullB_ok _ _) (by simp [grp]; omega) 32
  simp only [World.size_setCell] at hrun
  refine ⟨v3, w3, hrun, A.setIfInBounds (off + t) (.int .u8 ((i : Int) + 1)), B.setIfInBounds t (.bool true), G3, nodup_more' h.nodup hx, ?_, by simp; omega, ?_, ?_, ?_⟩
  · intro y hy
    rcases List.mem_append.1 hy with hy | hy
    · exact h.lt y hy
    · simp at hy; omega
  · have := h.row.set (off + t) ((i : Int) + 1)
    refine ⟨this.size, fun y hy => ?_⟩
    rw [this.cell y hy]
    by_cases hyt : y = off + t
    · subst hyt; simp
    · have e : y - off = t → ¬ off ≤ y := fun e h => hyt (by omega)
      simp only [hyt, if_false, List.mem_append, List.mem_singleton]
      congr 2
      by_cases ho : off ≤ y
      · have : ¬ y - off = t := fun h => e h ho
        simp [ho, this]
      · simp [ho]
  · have := h.flag.set t true
    refine ⟨this.size, fun y hy => ?_⟩
    rw [this.cell y hy]
    by_cases hyt : y = t
    · simp [hyt]
    · simp [hyt]
  · rw [← grp_snoc]
    exact (h4.pull (L1 := [_, _]) (L2 := Rs)).swap

/-- What a group of log 0 leaves. -/
theorem POld.done0 {X : PSt} {i : Nat} (ho : POld X i) {xs : List Nat} (hn : xs.Nodup) (hx : ∀ t ∈ xs, t < 20) (hl : xs.length ≤ 20) (hi : i < 30) {k' : Int} (hk : X.k ≤ k') (hk1 : k' ≤ X.k + 3 * (grp 80 ((i : Int) + 1) (fun _ => 3) xs).length + 10) (A : Array Value) (F : List Nat) (wb : Nat) :
    POld ⟨fun t => if 0 ≤ t ∧ t - 0 ∈ xs then (i : Int) + 1 else X.H t, A, putLog X.f 0 40 X.g0 (grp 80 ((i : Int) + 1) (fun _ => 3) xs), k', F, X.g0 + 1, X.g1, X.wb0, wb⟩ (i + 1) := by
  have hok : GroupOk 0 40 120 (rawsOf (grp 80 ((i : Int) + 1) (fun _ => 3) xs)) := grp_ok (m := 20) hn hx (by omega) (by omega) (by omega) (by rw [room40]; omega)
  have hlen : (grp 80 ((i : Int) + 1) (fun _ => 3) xs).length = xs.length := by simp [grp]
  have b0 := ho.b0
  have b1 := ho.b1
  refine ⟨fun t ht => ?_, ?_, ?_, by have := ho.k0; simp only; omega, ?_, by simp; omega, by simp; omega⟩
  · obtain ⟨r1, r2, r3⟩ := ho.rel t ht
    simp only [Nat.zero_le, true_and, Nat.sub_zero]
    by_cases hx : t ∈ xs
    · rw [if_pos hx]
      refine ⟨by omega, by omega, fun _ => ?_⟩
      exact putLog_at (p := (80 + (t : Int), fullB ((i : Int) + 1) 3)) (by omega) hok (List.mem_map.2 ⟨t, hx, rfl⟩)
    · rw [if_neg hx]
      refine ⟨r1, r2, fun hz => ?_⟩
      rw [putLog_other (by omega) hok (by omega) (fun p hp => ?_)]
      · exact r3 hz
      · obtain ⟨y, hy, rfl⟩ := List.mem_map.1 hp
        simp only
        intro e
        have : y = t := by omega
        exact hx (this ▸ hy)
  · simp only
    rw [putLog_head]
  · simp only
    rw [putLog_other (by omega) hok (by omega) (fun p hp => ?_)]
    · exact ho.head1
    · obtain ⟨y, hy, rfl⟩ := List.mem_map.1 hp
      simp only
      omega
  · simp only
    rw [hlen] at hk1
    have := ho.k1
    simp
    omega
theorem POld.done1 {X : PSt} {i : Nat} (ho : POld X i) {xs : List Nat} (hn : xs.Nodup) (hx : ∀ t ∈ xs, t < 20) (hl : xs.length ≤ 20) (hi : i < 30) {k' : Int} (hk : X.k ≤ k') (hk1 : k' ≤ X.k + 3 * (grp 100 ((i : Int) + 1) (fun _ => 3) xs).length + 10) (A : Array Value) (F : List Nat) (wb : Nat) :
    POld ⟨fun t => if 20 ≤ t ∧ t - 20 ∈ xs then (i : Int) + 1 else X.H t, A, putLog X.f 40 40 X.g1 (grp 100 ((i : Int) + 1) (fun _ => 3) xs), k', F, X.g0, X.g1 + 1, wb, X.wb1⟩ (i + 1) := by
  have hok : GroupOk 40 40 120 (rawsOf (grp 100 ((i : Int) + 1) (fun _ => 3) xs)) := grp_ok (m := 20) hn hx (by omega) (by omega) (by omega) (by rw [room40]; omega)
  have hlen : (grp 100 ((i : Int) + 1) (fun _ => 3) xs).length = xs.length := by simp [grp]
  have b0 := ho.b0
  have b1 := ho.b1
  refine ⟨fun t ht => ?_, ?_, ?_, by have := ho.k0; simp only; omega, ?_, by simp; omega, by simp; omega⟩
  · obtain ⟨r1, r2, r3⟩ := ho.rel t ht
    by_cases hx : 20 ≤ t ∧ t - 20 ∈ xs
    · simp only [if_pos hx]
      refine ⟨by omega, by omega, fun _ => ?_⟩
      have := putLog_at (f := X.f) (g := X.g1) (p := (100 + ((t - 20 : Nat) : Int), fullB ((i : Int) + 1) 3)) (by omega) hok (List.mem_map.2 ⟨t - 20, hx.2, rfl⟩)
      simp only at this
      rw [show (80 : Int) + (t : Int) = 100 + ((t - 20 : Nat) : Int) by omega]
      exact this
    · simp only [if_neg hx]
      refine ⟨r1, r2, fun hz => ?_⟩
      rw [putLog_other (by omega) hok (by omega) (fun p hp => ?_)]
      · exact r3 hz
      · obtain ⟨y, hy, rfl⟩ := List.mem_map.1 hp
        simp only
        intro e
        have h1 : y = t - 20 := by omega
        exact hx ⟨by omega, h1 ▸ hy⟩
  · simp only
    rw [putLog_other (by omega) hok (by omega) (fun p hp => ?_)]
    · exact ho.head0
    · obtain ⟨y, hy, rfl⟩ := List.mem_map.1 hp
      simp only
      omega
  · simp only
    rw [putLog_head]
  · simp only
    rw [hlen] at hk1
    have := ho.k1
    simp
    omega

def pvs (a b : Value) : Array Value := #[a, b]
theorem build61a (w : World) : (Instr.build 61 #[(0, .int .i64 0), (1, .int .i64 40)]).run Try.prog w = .ok (.agg #[.int .i64 0, .int .i64 40]) w := by kernel_rfl
theorem build61 (w : World) : (Instr.build 61 #[]).run Try.prog w = .ok (.agg #[.int .i64 0, .int .i64 0]) w := by kernel_rfl
theorem build62 (w : World) : (Instr.build 62 #[]).run Try.prog w = .ok (.agg #[.pointer none, .pointer none]) w := by kernel_rfl
theorem zero61 (w : World) : (zeroValue 61).run Try.prog w = .ok (.agg #[.int .i64 0, .int .i64 0]) w := by kernel_rfl
theorem zero62 (w : World) : (zeroValue 62).run Try.prog w = .ok (.agg #[.pointer none, .pointer none]) w := by kernel_rfl
theorem info61 : (Try.prog.info? 61).map (·.size) = some 2 := by kernel_rfl
theorem info62 : (Try.prog.info? 62).map (·.size) = some 2 := by kernel_rfl
section
variable {o : Oper} {a : Act} {w : World}
theorem run_eqlnil26 {x : Operand} {g : Nat} (ho : o.op = .binOp .eql 26 x (.const (.pointer none)) 26) (hx : a.eval x = .pointer (some ⟨g, 0, none⟩)) : ∀ w, (execOp a.eval o).run Try.prog w = .ok (.value (.bool false)) w := by
  intro w
  unfold execOp
  simp only [ho, hx]
  go_simp
theorem run_index61 {x y : Operand} {g j : Nat} (hj : j < 2) (ho : o.op = .indexAddr 61 x y) (hx : a.eval x = .pointer (some ⟨g, 0, none⟩)) (hy : a.eval y = .int .i64 j) : ∀ w, (execOp a.eval o).run Try.prog w = .ok (.value (.pointer (some ⟨g, j, none⟩))) w := by
  intro w
  unfold execOp
  simp only [ho, hx, hy]
  have : (j : Int) < 2 := by omega
  go_simp
theorem run_index62 {x y : Operand} {g j : Nat} (hj : j < 2) (ho : o.op = .indexAddr 62 x y) (hx : a.eval x = .pointer (some ⟨g, 0, none⟩)) (hy : a.eval y = .int .i64 j) : ∀ w, (execOp a.eval o).run Try.prog w = .ok (.value (.pointer (some ⟨g, j, none⟩))) w := by
  intro w
  unfold execOp
  simp only [ho, hx, hy]
  have : (j : Int) < 2 := by omega
  go_simp
theorem run_index63 {x y : Operand} {g j : Nat} (hj : j < 40) (ho : o.op = .indexAddr 63 x y) (hx : a.eval x = .pointer (some ⟨g, 0, none⟩)) (hy : a.eval y = .int .i64 j) : ∀ w, (execOp a.eval o).run Try.prog w = .ok (.value (.pointer (some ⟨g, j, none⟩))) w := by
  intro w
  unfold execOp
  simp only [ho, hx, hy]
  have : (j : Int) < 40 := by omega
  go_simp
theorem run_gtr5 {x y : Operand} {i j : Int} (ho : o.op = .binOp .gtr 5 x y 5) (hx : a.eval x = .int .u8 i) (hy : a.eval y = .int .u8 j) : ∀ w, (execOp a.eval o).run Try.prog w = .ok (.value (.bool (decide (j < i)))) w := by
  intro w
  unfold execOp
  simp only [ho, hx, hy]
  go_simp
theorem isAgg26 (w : World) : (isAgg 26).run Try.prog w = .ok false w := by kernel_rfl
theorem isAgg5 (w : World) : (isAgg 5).run Try.prog w = .ok false w := by kernel_rfl
end
theorem Has.firsts {w0 w : World} {L L2 : List Res} (h : Has w0 w (L ++ L2)) : Has w0 w L :=
  ⟨h.only, fun q hq => h.each q (List.mem_append_left _ hq), (List.pairwise_append.1 h.apart).1⟩
theorem Has.two {w0 w : World} {r s : Res} {Rs : List Res} (h : Has w0 w (r :: s :: Rs)) : Has w0 w [r, s] :=
  ⟨h.only, fun q hq => h.each q (by simp at hq ⊢; rcases hq with h | h <;> simp [h]), by
    have := List.pairwise_cons.1 h.apart
    simpa using this.1 s (by simp)⟩
end Go.Proofs.Ytfkpehefofihmaa
