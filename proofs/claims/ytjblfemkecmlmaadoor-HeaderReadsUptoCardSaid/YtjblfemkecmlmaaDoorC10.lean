/- Parse's closure: a field is kept. -/
import Derived.Test.YtjblfemkecmlmaaDoorC9
import Derived.Test.YtjblfemkecmlmaaDoorFlowR
import Derived.Lib.AppendStr
set_option linter.unusedSimpArgs false
set_option linter.unusedVariables false
namespace Go.Proofs.YtjblfemkecmlmaaDoor
open Go.RowKit Go.Shelf

section
variable {w : World} {a : Act} {o : Oper}
theorem run_load1 {x : Operand} {p : Addr} {t : TypeId} {u : Value} (ho : o.op = .load t x) (hx : a.eval x = .pointer (some p)) (hc : w.cell? p = some u) (ht : ∀ w, (isAgg t).run Tryd.prog w = .ok false w) :
    (execOp a.eval o).run Tryd.prog w = .ok (.value u) w := by
  unfold execOp
  simp only [ho, hx, Instr.loadAt, Instr.sureAddr, loadVar, Sem.run_bind, Sem.run_pure, Result.andThen_ok, ht, Bool.false_eq_true, if_false]
  simp [load, Sem.run, hc]
theorem run_store1 {x y : Operand} {p : Addr} {t : TypeId} {u u' : Value} (ho : o.op = .store t x y) (hx : a.eval x = .pointer (some p)) (hy : a.eval y = u') (hc : w.cell? p = some u) (hf : w.frozen? p = false) (h1 : u'.oneCell' = true)
    (ht : ∀ w, (sizeOf t).run Tryd.prog w = .ok 1 w) (hcs : u'.cells = #[u']) : (execOp a.eval o).run Tryd.prog w = .ok .skip (w.setCell p u') := by
  unfold execOp
  simp only [ho, hx, hy, Instr.storeAt, Instr.sureAddr, storeVar, Sem.run_bind, Sem.run_pure, Result.andThen_ok, ht, hcs]
  simp [storeCells, Addr.add, run_store _ _ _ _ _ h1, hc, hf]
theorem run_builtin_append {x y : Operand} {u1 u2 u : Value} {t t2 : TypeId} {w' : World} (ho : o.op = .call { callee := .builtin .append, args := #[x, y], argTypes := #[t, t2] }) (hx : a.eval x = u1) (hy : a.eval y = u2)
    (hr : (Builtin.append_ #[t, t2] o.type #[u1, u2]).run Tryd.prog w = .ok u w') : (execOp a.eval o).run Tryd.prog w = .ok (.value u) w' := by
  unfold execOp
  simp only [ho, resolve, invoke, builtin, Sem.run_bind, Sem.run_pure, Result.andThen_ok, List.map_toArray, List.map_cons, List.map_nil, hx, hy, hr]
theorem run_enter1 {f : FuncId} {x1 : Operand} {v1 : Value} {ts : Array TypeId} (hc : ∀ args w, (callFunc f args).run Tryd.prog w = .ok (.enter f args) w) (ho : o.op = .call { callee := .value (.func f), args := #[x1], argTypes := ts }) (h1 : a.eval x1 = v1) : (execOp a.eval o).run Tryd.prog w = .ok (.enter f #[v1]) w := by
  unfold execOp
  simp only [ho]
  have hf : a.eval (.func f) = .func (.func f) #[] #[] := rfl
  simp only [resolve, List.map_toArray, List.map_cons, List.map_nil, h1, hf, Sem.run_bind, Sem.run_pure, Result.andThen_ok]
  first | exact hc _ _ | simp [hc]
theorem run_enter2 {f : FuncId} {x1 x2 : Operand} {v1 v2 : Value} {ts : Array TypeId} (hc : ∀ args w, (callFunc f args).run Tryd.prog w = .ok (.enter f args) w) (ho : o.op = .call { callee := .value (.func f), args := #[x1, x2], argTypes := ts }) (h1 : a.eval x1 = v1) (h2 : a.eval x2 = v2) : (execOp a.eval o).run Tryd.prog w = .ok (.enter f #[v1, v2]) w := by
  unfold execOp
  simp only [ho]
  have hf : a.eval (.func f) = .func (.func f) #[] #[] := rfl
  simp only [resolve, List.map_toArray, List.map_cons, List.map_nil, h1, h2, hf, Sem.run_bind, Sem.run_pure, Result.andThen_ok]
  first | exact hc _ _ | simp [hc]
theorem run_conv {x : Operand} {t t' : TypeId} {v u : Value} (ho : o.op = .convert t t' x) (hx : a.eval x = v) (hr : (convert t t' v).run Tryd.prog w = .ok u w) : (execOp a.eval o).run Tryd.prog w = .ok (.value u) w := by
  unfold execOp
  simp only [ho, hx, Sem.run_bind, hr, Result.andThen_ok, Sem.run_pure]
theorem buildF_run (x y : ByteArray) (w : World) : (Instr.build 28 #[(0, .string x), (1, .string y)]).run Tryd.prog w = .ok (.agg #[.string x, .string y]) w := by kernel_rfl
theorem run_buildF {x y : Operand} {u v : ByteArray} (ho : o.op = .build 28 #[(0, x), (1, y)]) (hx : a.eval x = .string u) (hy : a.eval y = .string v) : ∀ w, (execOp a.eval o).run Tryd.prog w = .ok (.value (.agg #[.string u, .string v])) w := by
  intro w
  unfold execOp
  simp only [ho, List.map_toArray, List.map_cons, List.map_nil, hx, hy, Sem.run_bind, buildF_run u v w, Result.andThen_ok, Sem.run_pure]
theorem buildSliceF_run (x y : Value) (hx : x.oneCell' = true) (w : World) : (Instr.buildSlice 24 1 #[(0, .agg #[x, y])]).run Tryd.prog w = .ok (.slice (some ⟨w.heap.size, 0, none⟩) 1 1) (w.alloc (.cells #[x, y] 28)) := by kernel_rfl
theorem run_buildSliceF {x : Operand} {u v : Value} (ho : o.op = .buildSlice 24 1 #[(0, x)]) (hx : a.eval x = .agg #[u, v]) (hu : u.oneCell' = true) :
    (execOp a.eval o).run Tryd.prog w = .ok (.value (.slice (some ⟨w.heap.size, 0, none⟩) 1 1)) (w.alloc (.cells #[u, v] 28)) := by
  unfold execOp
  simp only [ho, List.map_toArray, List.map_cons, List.map_nil, hx, Sem.run_bind, buildSliceF_run u v hu w, Result.andThen_ok, Sem.run_pure]
end
theorem isAggFs (w : World) : (isAgg 24).run Tryd.prog w = .ok false w := by kernel_rfl
theorem isAggBs (w : World) : (isAgg 22).run Tryd.prog w = .ok false w := by kernel_rfl
theorem isAggS (w : World) : (isAgg 9).run Tryd.prog w = .ok false w := by kernel_rfl
theorem sizeFs (w : World) : (sizeOf 24).run Tryd.prog w = .ok 1 w := by kernel_rfl
theorem sizeBs (w : World) : (sizeOf 22).run Tryd.prog w = .ok 1 w := by kernel_rfl
theorem sizeS (w : World) : (sizeOf 9).run Tryd.prog w = .ok 1 w := by kernel_rfl
theorem lat_of_below {w w' : World} (h : Below w.heap.size w w') : Lat w w' := ⟨h.size, fun k hk => h.block k hk⟩

/-- Parse's three variables: the fields so far, the last name, its value. -/
structure PS (B : Nat) (w : World) (A : List Fld) (nm vl : List UInt8) : Prop where
  l : ∃ a cap, w.heap[B]? = some (.cells #[.slice a A.length cap] 24) ∧ w.ownsRow (B + 3) 28 2 (.slice a A.length cap) A.length (A.flatMap fC)
  n : w.heap[B + 1]? = some (.cells #[.string ⟨nm.toArray⟩] 9)
  v : ∃ a cap, w.heap[B + 2]? = some (.cells #[.slice a vl.length cap] 22) ∧ w.ownsRow (B + 3) 5 1 (.slice a vl.length cap) vl.length (Lib.byteCells vl)
  size : B + 3 ≤ w.heap.size
theorem PS.below {B : Nat} {w w' : World} {A : List Fld} {nm vl : List UInt8} (h : PS B w A nm vl) (hb : Below w.heap.size w w') : PS B w' A nm vl := by
  have hz := h.size
  obtain ⟨a, cap, h1, h2⟩ := h.l
  obtain ⟨a', cap', h3, h4⟩ := h.v
  refine ⟨⟨a, cap, ?_, ownsRow_keep h2 (fun g _ hg => hb.block g hg)⟩, ?_, ⟨a', cap', ?_, ownsRow_keep h4 (fun g _ hg => hb.block g hg)⟩, Nat.le_trans hz hb.size⟩
  · rw [hb.block _ (by omega)]; exact h1
  · rw [hb.block _ (by omega)]; exact h.n
  · rw [hb.block _ (by omega)]; exact h3
/-- Rows of two types lie apart. -/
theorem own_apart {w : World} {B B' : Nat} {e e' : TypeId} {s s' : Nat} {v v' : Value} {n n' : Nat} {xs xs' : List Value} (h : w.ownsRow B e s v n xs) (h' : w.ownsRow B' e' s' v' n' xs') (he : e ≠ e') : v.ownBlock = none ∨ v.ownBlock ≠ v'.ownBlock := by
  rcases h.2 with ⟨rfl, _⟩ | ⟨g, cap, cur, rfl, _, hg, _⟩
  · exact .inl rfl
  · refine .inr ?_
    rcases h'.2 with ⟨rfl, _⟩ | ⟨g', cap', cur', rfl, _, hg', _⟩
    · simp [Value.ownBlock]
    · simp only [Value.ownBlock, ne_eq, Option.some.injEq]
      rintro rfl
      rw [hg] at hg'
      cases hg'
      exact he rfl
theorem own_shift {w : World} {B : Nat} {e : TypeId} {s : Nat} {v : Value} {n : Nat} {xs : List Value} (h : w.ownsRow B e s v n xs) : ∀ k, v.ownBlock = some k → B ≤ k := fun k hk => (h.lt k hk).1
theorem frozen_row {w : World} {b i : Nat} {cs : Array Value} {t : TypeId} (h : w.heap[b]? = some (.cells cs t)) : w.frozen? ⟨b, i, none⟩ = false := by
  simp [World.frozen?, h]
theorem set_row {w : World} {b : Nat} {u : Value} {t : TypeId} (h : w.heap[b]? = some (.cells #[u] t)) (v : Value) : (w.setCell ⟨b, 0, none⟩ v).heap[b]? = some (.cells #[v] t) ∧ (∀ k, k ≠ b → (w.setCell ⟨b, 0, none⟩ v).heap[k]? = w.heap[k]?) ∧ (w.setCell ⟨b, 0, none⟩ v).heap.size = w.heap.size := by
  have e := setCell_eq_setRow w b 0 _ t (0, 0) v h
  rw [e]
  exact ⟨setRow_heap w b _ _ t _ h, fun k hk => setRow_other w b k _ hk, by simp [World.setRow]⟩
theorem below_set {w0 w : World} {B b : Nat} (h : Below B w0 w) (hb : B ≤ b) (v : Value) : Below B w0 (w.setCell ⟨b, 0, none⟩ v) := h.setCell hb _
/-- A field more. -/
theorem PS.push {B : Nat} {w : World} {A : List Fld} {nm vl : List UInt8} (h : PS B w A nm vl) (f : Fld) (hA : A.length < 64) (ty : TypeId) :
    ∃ a cap a' cap' w5, w.cell? ⟨B, 0, none⟩ = some (.slice a A.length cap) ∧ (Builtin.append_ #[24, 24] ty #[.slice a A.length cap, .slice (some ⟨w.heap.size, 0, none⟩) 1 1]).run Tryd.prog (w.alloc (.cells #[sV f.1, sV f.2] 28)) = .ok (.slice a' (A.length + 1) cap') w5 ∧
      w5.cell? ⟨B, 0, none⟩ = some (.slice a A.length cap) ∧ w5.frozen? ⟨B, 0, none⟩ = false ∧ PS B (w5.setCell ⟨B, 0, none⟩ (.slice a' (A.length + 1) cap')) (A ++ [f]) nm vl ∧ Below B w (w5.setCell ⟨B, 0, none⟩ (.slice a' (A.length + 1) cap')) := by
  have hz := h.size
  obtain ⟨a, cap, h1, h2⟩ := h.l
  obtain ⟨a2, cap2, h3, h4⟩ := h.v
  obtain ⟨i0, hi0, hi1⟩ := Option.map_eq_some_iff.1 infoF
  have b1 : Below w.heap.size w (w.alloc (.cells #[sV f.1, sV f.2] 28)) := (Below.refl _ _).alloc (Nat.le_refl _) _
  have hz1 : (w.alloc (.cells #[sV f.1, sV f.2] 28)).heap.size = w.heap.size + 1 := by simp
  obtain ⟨v', w5, hr, hown, hg, _⟩ := run_append_own (P := Tryd.prog) (w := w.alloc (.cells #[sV f.1, sV f.2] 28)) (B + 3) 24 ty 28 i0 (.agg #[.string ByteArray.empty, .string ByteArray.empty]) 2 32 Tryd.underlying24 hi0 (congrArg (·.1) hi1) (congrArg (·.2.1) hi1) (congrArg (·.2.2) hi1) rfl (by decide) _ A.length (A.flatMap fC) (h2.alloc _) ⟨w.heap.size, 0, none⟩ 1 1 (fC f) rfl (by
      intro j u hj
      have hadd : (⟨w.heap.size, 0, none⟩ : Addr).add j = ⟨w.heap.size, j, none⟩ := by unfold Addr.add; split <;> simp_all
      rw [hadd, cell_of_row _ _ _ _ _ _ (heap_alloc_new w _)]
      match j, hj with
      | 0, hj => simpa [fC] using hj
      | 1, hj => simpa [fC] using hj
      | j + 2, hj => simp [fC] at hj) (by intro u hu; simp [fC] at hu; rcases hu with rfl | rfl <;> rfl) (by unfold maxLen; omega) (by omega) (by omega)
  have hv : ∃ a' cap', v' = .slice a' (A.length + 1) cap' := by
    rcases hown.2 with ⟨_, e⟩ | ⟨g, cap', cur, e1, _⟩
    · omega
    · exact ⟨_, _, e1⟩
  obtain ⟨a', cap', rfl⟩ := hv
  have hlo : ∀ k, Value.ownBlock (.slice a A.length cap) = some k → B + 3 ≤ k := own_shift h2
  have old : ∀ k, k < B + 3 → w5.heap[k]? = w.heap[k]? := fun k hk => by
    rw [hg.block k (by omega) (fun e => by have := hlo k e.symm; omega), b1.block k (by omega)]
  have c1 : w5.heap[B]? = some (.cells #[.slice a A.length cap] 24) := by rw [old B (by omega)]; exact h1
  have hs5 : w.heap.size ≤ w5.heap.size := by have := hg.size; omega
  obtain ⟨s1, s2, s3⟩ := set_row c1 (.slice a' (A.length + 1) cap')
  have hlo5 : ∀ k, Value.ownBlock (.slice a' (A.length + 1) cap') = some k → B + 3 ≤ k := own_shift hown
  have h4' := (h4.alloc (.cells #[sV f.1, sV f.2] 28)).kept hg (own_apart (h4.alloc _) (h2.alloc (.cells #[sV f.1, sV f.2] 28)) (by decide))
  have hbw : Below B w w5 := ⟨hg.os, hg.tape, hg.output, hs5, fun k hk => old k (by omega)⟩
  refine ⟨a, cap, a', cap', w5, by rw [cell_of_row _ _ _ _ _ _ h1]; rfl, hr, by rw [cell_of_row _ _ _ _ _ _ c1]; rfl, frozen_row c1, ⟨⟨a', cap', ?_, ?_⟩, ?_, ⟨a2, cap2, ?_, ?_⟩, ?_⟩, below_set hbw (Nat.le_refl _) _⟩
  · rw [List.length_append]; exact s1
  · rw [List.length_append, List.flatMap_append]
    have e : ([f] : List Fld).flatMap fC = fC f := by simp
    rw [e]
    exact ownsRow_keep hown (fun g hg1 _ => s2 g (by omega))
  · rw [s2 _ (by omega), old _ (by omega)]; exact h.n
  · rw [s2 _ (by omega), old _ (by omega)]; exact h3
  · exact ownsRow_keep h4' (fun g hg1 _ => s2 g (by omega))
  · rw [s3]; omega
/-- The field that may go on is laid behind the others. -/
def keepR (A : List Fld) (nm vl : List UInt8) : List Fld := if nm ≠ [] ∧ A.length < 64 then A ++ [(nm, trm vl)] else A
set_option maxHeartbeats 4000000 in
set_option maxRecDepth 100000 in
theorem keep_any (B : Nat) (A : List Fld) (nm vl : List UInt8) (hA : A.length ≤ 64) (hvl : vl.length ≤ 1000000000000) (w : World) (h : PS B w A nm vl) :
    Calls Tryd.prog 17 #[.pointer (some ⟨B + 1, 0, none⟩), .pointer (some ⟨B, 0, none⟩), .pointer (some ⟨B + 2, 0, none⟩)] w fun e w' => e = .returned (.tuple #[]) ∧ PS B w' (keepR A nm vl) nm vl ∧ Below B w w' := by
  have hz := h.size
  obtain ⟨a, cap, h1, h2⟩ := h.l
  obtain ⟨a2, cap2, h3, h4⟩ := h.v
  have q0 : w.cell? ⟨B + 1, 0, none⟩ = some (.string ⟨nm.toArray⟩) := by rw [cell_of_row _ _ _ _ _ _ h.n]; rfl
  have q1 : w.cell? ⟨B, 0, none⟩ = some (.slice a A.length cap) := by rw [cell_of_row _ _ _ _ _ _ h1]; rfl
  have q2 : w.cell? ⟨B + 2, 0, none⟩ = some (.slice a2 vl.length cap2) := by rw [cell_of_row _ _ _ _ _ _ h3]; rfl
  have HH := Lib.hid h
  unfold keepR
  cases nm with
  | nil =>
    rw [if_neg (by simp)]
    clear h h1 h2 h3 h4 hz
    go_enter Tryd.func17, Tryd.ntmps17
    go_wp2
    refine bodyPost_end (results_none rfl _ _ _) rfl ?_
    exact ⟨rfl, HH.out, Below.refl _ _⟩
  | cons c t =>
    have he : (⟨(c :: t).toArray⟩ : ByteArray).toList.isEmpty = false := by rw [Lib.toList_data]; rfl
    by_cases h64 : A.length < 64
    · rw [if_pos ⟨by simp, h64⟩]
      have h64' : (A.length : Int) < 64 := by omega
      have hB : Bs w a2 vl := by
        have ho : OB (B + 3) w a2 cap2 vl := ⟨h4, hz⟩
        exact ho.cells
      have hbs : ∀ x, Lat w x → Bs x a2 vl := fun x hx j c hj => by
        obtain ⟨b, off, e, hb, hc⟩ := hB j c hj
        refine ⟨b, off, e, Nat.lt_of_lt_of_le hb hx.1, ?_⟩
        rw [World.cell?, hx.2 b hb]
        exact hc
      have HB := Lib.hid hbs
      have hnn := HH.out.n
      clear h h2 h4 hB hbs
      generalize hn : (c :: t) = nm at *
      generalize hsn : (⟨nm.toArray⟩ : ByteArray) = sn at *
      have HS := Lib.hid hsn
      clear hsn
      go_enter Tryd.func17, Tryd.ntmps17
      go_wp2
      refine wp_region_flowR Lat [1, 1, 1, 1, 2, 0, 2, 3, 3] (by kernel_rfl) (by kernel_rfl) Lat.refl Lat.trans ?_
      refine fr1 rfl (fun x hx => run_load1 rfl rfl (by rw [cell_of_row _ _ _ _ _ _ (hx.at h1)]; rfl) isAggFs) ?_
      simp only [Act.put, List.setIfInBounds_toArray, List.set_cons_succ, List.set_cons_zero]
      refine fr1 rfl (fun x hx => run_load1 rfl rfl (by rw [cell_of_row _ _ _ _ _ _ (hx.at hnn)]; rfl) isAggS) ?_
      simp only [Act.put, List.setIfInBounds_toArray, List.set_cons_succ, List.set_cons_zero]
      refine fr1 rfl (fun x hx => run_load1 rfl rfl (by rw [cell_of_row _ _ _ _ _ _ (hx.at h3)]; rfl) isAggBs) ?_
      simp only [Act.put, List.setIfInBounds_toArray, List.set_cons_succ, List.set_cons_zero]
      refine fr1 rfl (fun x hx => run_conv rfl rfl (bs_string' (n := vl.length) cap2 (HB.out x hx) rfl)) ?_
      simp only [Act.put, List.setIfInBounds_toArray, List.set_cons_succ, List.set_cons_zero]
      refine fr2c rfl (run_enter2 Tryd.call18 rfl rfl rfl) (tm_any vl (by omega) _) ?_
      rintro e w3 ⟨rfl, b3⟩
      refine ⟨_, rfl, lat_of_below b3, ?_⟩
      simp only [Act.put, List.setIfInBounds_toArray, List.set_cons_succ, List.set_cons_zero]
      have bW3 : Below w.heap.size w w3 := (Below.refl w.heap.size w).drew.trans (b3.mono (Nat.le_refl _))
      have P3 := HH.out.below bW3
      have B3 : Below B w w3 := bW3.mono (by omega)
      obtain ⟨aa, cc, a', cap', w5, e1, e2, e3, e4, e5, e6⟩ := P3.push (nm, trm vl) h64 24
      rw [bW3.cell (p := ⟨B, 0, none⟩) (by show B < _; omega), q1] at e1
      injection e1 with e1
      injection e1 with e7 e8 e9
      subst e7 e9
      have e2' := e2
      unfold sV at e2'
      simp only [HS.out] at e2'
      have PP := Lib.hid e5
      have BB := Lib.hid (B3.trans e6)
      clear e2 e5 e6 bW3 P3 B3
      refine fr0 rfl (run_buildF rfl rfl rfl) ?_
      simp only [Act.put, List.setIfInBounds_toArray, List.set_cons_succ, List.set_cons_zero]
      refine fr2 rfl (Lat.alloc _ _) (.inl (run_buildSliceF rfl rfl rfl)) ?_
      simp only [Act.put, List.setIfInBounds_toArray, List.set_cons_succ, List.set_cons_zero]
      refine fr3 rfl (.inl (run_builtin_append rfl rfl rfl e2')) ?_
      simp only [Act.put, List.setIfInBounds_toArray, List.set_cons_succ, List.set_cons_zero]
      refine fr3 (u := undef) rfl (.inr (.inl ⟨run_store1 rfl rfl rfl e3 e4 rfl sizeFs rfl, rfl⟩)) ?_
      simp only [Act.put]
      refine frnil ?_
      go_wp2
      refine bodyPost_end (results_none rfl _ _ _) rfl ?_
      exact ⟨rfl, PP.out, BB.out⟩
    · rw [if_neg (fun e => h64 e.2)]
      have h64' : ¬ (A.length : Int) < 64 := by omega
      clear h h1 h2 h3 h4 hz
      generalize hn : (c :: t) = nm at *
      generalize hsn : (⟨nm.toArray⟩ : ByteArray) = sn at *
      go_enter Tryd.func17, Tryd.ntmps17
      go_wp2
      refine bodyPost_end (results_none rfl _ _ _) rfl ?_
      exact ⟨rfl, HH.out, Below.refl _ _⟩
end Go.Proofs.YtjblfemkecmlmaaDoor
