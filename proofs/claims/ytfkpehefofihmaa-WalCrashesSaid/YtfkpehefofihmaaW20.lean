/- Rows of bytes and of flags of a law's own, beside other things. -/
import Derived.Test.YtfkpehefofihmaaA0
import Derived.Test.YtfkpehefofihmaaFrame
import Derived.BigFrame
set_option linter.unusedSimpArgs false
set_option linter.unusedVariables false
set_option maxRecDepth 8000
namespace Go.Proofs.Ytfkpehefofihmaa
open Go.RowKit

/-- Slices of bytes that came in, in a slice. -/
structure RowsIn (w : World) (a : Option Addr) (len : Nat) (ra : Nat → Option Addr) (rl rc : Nat → Nat) (z : Nat → Nat → Int) : Prop where
  small : len ≤ 9223372036854775807
  each : ∀ i, i < len → ∃ g o, a = some ⟨g, o, none⟩ ∧ g < w.heap.size ∧ w.cell? ⟨g, o + i, none⟩ = some (.slice (ra i) (rl i) (rc i)) ∧ BytesIn w (ra i) (rl i) (z i)

theorem Has.pull {w0 w : World} {L1 L2 : List Res} {r : Res} (h : Has w0 w (L1 ++ r :: L2)) : Has w0 w (r :: (L1 ++ L2)) :=
  ⟨h.only, fun q hq => h.each q ((List.perm_middle (l₁ := L1) (l₂ := L2) (a := r)).mem_iff.2 hq), (List.perm_middle (l₁ := L1) (l₂ := L2) (a := r)).pairwise h.apart (fun hab x hx hy => hab x hy hx)⟩

theorem Has.setb {w0 w : World} {g : Nat} {A : Array Value} {t : TypeId} {Rs : List Res} (h : Has w0 w (BRes g (.cells A t) :: Rs)) (j : Nat) (v : Value) : Has w0 (w.setCell ⟨g, j, none⟩ v) (BRes g (.cells (A.setIfInBounds j v) t) :: Rs) := by
  have hb : w.heap[g]? = some (.cells A t (0, 0)) := h.blk (by simp)
  refine h.turn (r' := BRes g (.cells (A.setIfInBounds j v) t)) ((Only.refl [g] w).setCell (by simp) _) (heap_setCell_row hb _ _) (fun x hx => ⟨.inl hx, ?_⟩)
  simp [BRes] at hx
  subst hx
  simpa using (Array.getElem?_eq_some_iff.1 hb).1

/-- A row of bytes, a row of flags. -/
structure RowIs (A : Array Value) (n : Nat) (f : Nat → Int) : Prop where
  size : A.size = n
  cell : ∀ j, j < n → A[j]? = some (.int .u8 (f j))
structure FlagIs (A : Array Value) (n : Nat) (f : Nat → Bool) : Prop where
  size : A.size = n
  cell : ∀ j, j < n → A[j]? = some (.bool (f j))
theorem RowIs.set {A : Array Value} {n : Nat} {f : Nat → Int} (h : RowIs A n f) (i : Nat) (c : Int) : RowIs (A.setIfInBounds i (.int .u8 c)) n (fun j => if j = i then c else f j) :=
  ⟨by simpa using h.size, fun j hj => by
    by_cases hji : j = i
    · subst hji; simp [h.size, hj]
    · have : i ≠ j := fun e => hji e.symm
      rw [Array.getElem?_setIfInBounds_ne this, h.cell j hj, if_neg hji]⟩
theorem FlagIs.set {A : Array Value} {n : Nat} {f : Nat → Bool} (h : FlagIs A n f) (i : Nat) (c : Bool) : FlagIs (A.setIfInBounds i (.bool c)) n (fun j => if j = i then c else f j) :=
  ⟨by simpa using h.size, fun j hj => by
    by_cases hji : j = i
    · subst hji; simp [h.size, hj]
    · have : i ≠ j := fun e => hji e.symm
      rw [Array.getElem?_setIfInBounds_ne this, h.cell j hj, if_neg hji]⟩
def zeros (n : Nat) : Array Value := Array.replicate n (.int .u8 0)
def nays (n : Nat) : Array Value := Array.replicate n (.bool false)
theorem zeros_is (n : Nat) : RowIs (zeros n) n (fun _ => 0) := ⟨by simp [zeros], fun j hj => by simp [zeros, hj]⟩
theorem nays_is (n : Nat) : FlagIs (nays n) n (fun _ => false) := ⟨by simp [nays], fun j hj => by simp [nays, hj]⟩

theorem build58 (w : World) : (Instr.build 58 #[]).run Try.prog w = .ok (.agg (zeros 60)) w := by kernel_rfl
theorem build59 (w : World) : (Instr.build 59 #[]).run Try.prog w = .ok (.agg (nays 60)) w := by kernel_rfl
theorem zero58 (w : World) : (zeroValue 58).run Try.prog w = .ok (.agg (zeros 60)) w := by kernel_rfl
theorem zero59 (w : World) : (zeroValue 59).run Try.prog w = .ok (.agg (nays 60)) w := by kernel_rfl
theorem info58 : (Try.prog.info? 58).map (·.size) = some 60 := by kernel_rfl
theorem info59 : (Try.prog.info? 59).map (·.size) = some 60 := by kernel_rfl
theorem build63 (w : World) : (Instr.build 63 #[]).run Try.prog w = .ok (.agg (zeros 40)) w := by kernel_rfl
theorem build64 (w : World) : (Instr.build 64 #[]).run Try.prog w = .ok (.agg (nays 20)) w := by kernel_rfl
theorem zero63 (w : World) : (zeroValue 63).run Try.prog w = .ok (.agg (zeros 40)) w := by kernel_rfl
theorem zero64 (w : World) : (zeroValue 64).run Try.prog w = .ok (.agg (nays 20)) w := by kernel_rfl
theorem info63 : (Try.prog.info? 63).map (·.size) = some 40 := by kernel_rfl
theorem info64 : (Try.prog.info? 64).map (·.size) = some 20 := by kernel_rfl

section
variable {ops : Array Oper} {rest : List Oper} {o : Oper} {a : Act} {Q : Exit → Act → World → Prop} {w : World}
theorem wpL_valueW {P : Program} {v : Value} {w' : World} (hg : Region.wanted o (yielded ops a.tmps) = true) (hr : (execOp a.eval o).run P w = .ok (.value v) w') (h : wpList P ops Q rest (a.put o.dst v) w') : wpList P ops Q (o :: rest) a w :=
  Go.BigFrame.wpList_want hg fun K hK => by unfold Oper.wp; rw [hr]; exact hK _ _ h
/-- An array of nothing but noughts, made and stored. -/
theorem wpL_build0 {t : TypeId} {c : Array Value} (hb : ∀ w, (Instr.build t #[]).run Try.prog w = .ok (.agg c) w) (hg : o.guard = none) (ho : o.op = .build t #[])
    (h : wpList Try.prog ops Q rest (a.put o.dst (.agg c)) w) : wpList Try.prog ops Q (o :: rest) a w := by
  refine wpL_value hg ?_ h
  unfold execOp
  simp only [ho, List.map_toArray, List.map_nil, Sem.run_bind, hb w, Result.andThen_ok, Sem.run_pure]
theorem wpL_alloc0 {t : TypeId} {c : Array Value} (hz : ∀ w, (zeroValue t).run Try.prog w = .ok (.agg c) w) (hg : o.guard = none) (ho : o.op = .alloc t) (h : wpList Try.prog ops Q rest (a.put o.dst (.pointer (some ⟨w.heap.size, 0, none⟩))) (w.alloc (.cells c t))) : wpList Try.prog ops Q (o :: rest) a w := by
  refine wpL_value hg ?_ h
  unfold execOp
  rw [ho]
  simp only [Instr.alloc, Sem.run_bind, hz, Result.andThen, newVar, newRow, Value.cells]
  rfl
theorem wpL_store0 {t : TypeId} {c c' : Array Value} {n : Nat} {x y : Operand} (hi : (Try.prog.info? t).map (·.size) = some n) (hc : c.size = n) (hc' : c'.size = n) (h1 : c'.all (·.oneCell') = true) (hg : o.guard = none) (ho : o.op = .store t x y) (hx : a.eval x = .pointer (some ⟨w.heap.size, 0, none⟩)) (hy : a.eval y = .agg c')
    (h : wpList Try.prog ops Q rest (a.put o.dst undef) (w.alloc (.cells c' t))) : wpList Try.prog ops Q (o :: rest) a (w.alloc (.cells c t)) := by
  refine wpL_skip hg ?_ h
  unfold execOp
  rw [ho]
  simp only [hx, hy, Sem.run_bind, run_storeAt_new (P := Try.prog) w t c c' (by rw [hi, hc']) (by rw [hc, hc']) h1, Result.andThen]
  rfl
end
theorem zeros_one (n : Nat) : (zeros n).all (·.oneCell') = true := by rw [Array.all_eq_true_iff_forall_mem]; intro x hx; simp [zeros] at hx; rw [hx.2]; rfl
theorem nays_one (n : Nat) : (nays n).all (·.oneCell') = true := by rw [Array.all_eq_true_iff_forall_mem]; intro x hx; simp [nays] at hx; rw [hx.2]; rfl
theorem zeros_size (n : Nat) : (zeros n).size = n := by simp [zeros]
theorem nays_size (n : Nat) : (nays n).size = n := by simp [nays]

theorem KeepAt.grow {w w' : World} {F : List Nat} {kv : Value} {keep : List Int} (h : KeepAt w F kv keep) (ho : Only [] w w') : KeepAt w' F kv keep := h.only ho (by simp)
theorem booted_quiet0 (n k : Int) (f : Int → Option (Array Value)) (keep : List Int) : (quiet n k f).booted keep = quiet n k f := rfl

/-- What a group of sectors base + t, t on xs, each with the bytes c and l t, leaves. -/
def grp (base c : Int) (l : Nat → Int) (xs : List Nat) : List (Int × Array Value) := xs.map (fun t : Nat => (base + (t : Int), fullB c (l t)))
theorem grp_snoc (base c : Int) (l : Nat → Int) (xs : List Nat) (t : Nat) : grp base c l xs ++ [(base + (t : Int), fullB c (l t))] = grp base c l (xs ++ [t]) := by simp [grp]
theorem grp_ok {a s n base c : Int} {l : Nat → Int} {xs : List Nat} {m : Nat} (hn : xs.Nodup) (hx : ∀ t ∈ xs, t < m) (h0 : a + s ≤ base) (h00 : 0 ≤ base) (h1 : base + m ≤ n) (hl : (xs.length : Int) ≤ roomF s) : GroupOk a s n (rawsOf (grp base c l xs)) := by
  refine ⟨by simpa [rawsOf, grp] using hl, fun r hr => ?_, ?_⟩
  · obtain ⟨p, hp, rfl⟩ := List.mem_map.1 hr
    obtain ⟨t, ht, rfl⟩ := List.mem_map.1 hp
    have := hx t ht
    exact ⟨by simp only; omega, by simp only; omega, by simp only; omega, rfl⟩
  · rw [rawsOf, grp, List.map_map, List.map_map, List.nodup_iff_pairwise_ne, List.pairwise_map]
    exact (List.nodup_iff_pairwise_ne.1 hn).imp (fun hne e => hne (by simp at e; omega))
end Go.Proofs.Ytfkpehefofihmaa
