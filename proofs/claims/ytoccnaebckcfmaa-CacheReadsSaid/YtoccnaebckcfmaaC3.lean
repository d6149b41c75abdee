/- What a write does. -/
import Derived.Test.YtoccnaebckcfmaaC2
import Derived.Test.YtoccnaebckcfmaaFlow
set_option linter.unusedSimpArgs false
set_option maxRecDepth 8000
namespace Go.Proofs.Ytoccnaebckcfmaa
open Go.RowKit
open Go.ChangeMaps (setBlock)

theorem fold_get (off : Nat) : ∀ (l : List Value) (k : Nat) (cells : Array Value) (i : Nat),
    ((l.zipIdx k).foldl (fun (cs : Array Value) (x : Value × Nat) => cs.setIfInBounds (off + x.2) x.1) cells)[i]? = if off + k ≤ i ∧ i < off + k + l.length ∧ i < cells.size then l[i - (off + k)]? else cells[i]?
  | [], k, cells, i => by simp; intro h1 h2; omega
  | c :: l, k, cells, i => by
    rw [List.zipIdx_cons, List.foldl_cons, fold_get off l (k + 1)]
    simp only [Array.size_setIfInBounds, List.length_cons]
    by_cases h1 : off + (k + 1) ≤ i ∧ i < off + (k + 1) + l.length ∧ i < cells.size
    · rw [if_pos h1, if_pos (by omega), show i - (off + k) = (i - (off + (k + 1))) + 1 by omega]
      simp
    · rw [if_neg h1]
      by_cases h2 : i = off + k
      · subst h2
        by_cases h3 : off + k < cells.size
        · rw [if_pos (by omega)]
          simp [h3]
        · rw [if_neg (by omega)]
          simp [h3]
      · rw [if_neg (by omega), Array.getElem?_setIfInBounds_ne (by omega)]

theorem fold_eq {off : Nat} {v cells : Array Value} (h : off + v.size ≤ cells.size) :
    v.zipIdx.foldl (fun (cs : Array Value) (x : Value × Nat) => cs.setIfInBounds (off + x.2) x.1) cells = (cells.toList.take off ++ v.toList ++ cells.toList.drop (off + v.size)).toArray := by
  rw [← Array.foldl_toList, Array.toList_zipIdx]
  apply Array.ext_getElem?
  intro i
  rw [fold_get off v.toList 0 cells i]
  simp only [Nat.add_zero, Array.length_toList, List.getElem?_toArray]
  by_cases h1 : off ≤ i ∧ i < off + v.size ∧ i < cells.size
  · rw [if_pos h1, List.append_assoc, List.getElem?_append_right (by simp; omega), List.getElem?_append_left (by simp; omega)]
    simp
    congr 1
    omega
  · rw [if_neg h1]
    by_cases h2 : i < off
    · rw [List.append_assoc, List.getElem?_append_left (by simp; omega), List.getElem?_take_of_lt h2, Array.getElem?_toList]
    · rw [List.getElem?_append_right (by simp; omega), List.getElem?_drop, Array.getElem?_toList]
      simp
      congr 1
      omega

theorem fill_step {place : Nat → Option (Nat × Nat)} {cells : Array Value} {i off size : Nat} {v : Value} {rest : List (Nat × Value)} (hp : place i = some (off, size)) (hv : v.cells.size = size) (hc : off + size ≤ cells.size) :
    Instr.fill place cells ((i, v) :: rest) = Instr.fill place (cells.toList.take off ++ v.cells.toList ++ cells.toList.drop (off + size)).toArray rest := by
  subst hv
  have h1 : (v.cells.size ≠ v.cells.size || off + v.cells.size > cells.size) = false := by simp; omega
  rw [Instr.fill, hp]
  simp only [ne_eq, not_true_eq_false, decide_false, Bool.false_or, decide_eq_true_eq, gt_iff_lt, if_neg (Nat.not_lt.2 hc)]
  rw [← fold_eq hc]

theorem build_run (i : Int) (v : Array Value) (hv : v.size = 64) (w : World) : (Instr.build 96 #[(0, .int .i64 i), (1, .agg v)]).run Try.prog w = .ok (.agg (wcells (i, v)).toArray) w := by
  have hz := zero90 w
  have hs1 : (sizeOf 3).run Try.prog w = .ok 1 w := by kernel_rfl
  have hs2 : (sizeOf 93).run Try.prog w = .ok 64 w := by kernel_rfl
  unfold Instr.build
  simp only [Sem.run_bind, hz, Result.andThen_ok, run_underlying Try.underlying96]
  simp only [List.mapM_toArray, List.mapM_cons, List.mapM_nil, map_eq_pure_bind, bind_assoc, pure_bind, Sem.run_bind, Sem.run_pure, hs1, hs2, Result.andThen_ok]
  have hsz : (Value.agg (#[Value.int .i64 0] ++ Z)).cells.size = 65 := by simp [Value.cells, Z]
  rw [fill_step (off := 0) (size := 1) rfl rfl (by rw [hsz]; omega), fill_step (off := 1) (size := 64) (v := .agg v) rfl hv (by simp [Value.cells, Z])]
  simp [Instr.fill, Value.cells, wcells, Z]

theorem buildSlice_run (c : Array Value) (hc : c.size = 65) (w : World) : (Instr.buildSlice 89 1 #[(0, .agg c)]).run Try.prog w = .ok (.slice (some ⟨w.heap.size, 0, none⟩) 1 1) (w.alloc (.cells c 96)) := by
  have hz := zero90 w
  have hs : (sizeOf 96).run Try.prog w = .ok 65 w := by kernel_rfl
  unfold Instr.buildSlice
  simp only [Sem.run_bind, run_underlying Try.underlying89, Result.andThen_ok, hs]
  rw [if_neg (by decide), if_neg (by decide)]
  simp only [Sem.run_bind, hz, Result.andThen_ok, Sem.run_pure]
  rw [fill_step (off := 0) (size := 65) (v := .agg c) rfl hc (by simp)]
  simp only [List.take_zero, List.nil_append, Value.cells, Nat.zero_add]
  rw [List.drop_of_length_le (by simp), List.append_nil, Array.toArray_toList]
  simp [Instr.fill, newRow, newObj, Sem.run]

section
variable {ops : Array Oper} {rest : List Oper} {o : Oper} {a : Act} {Q : Exit → Act → World → Prop} {w : World}

/-- 'copy(s[:], b)' into the sector that was made last. -/
theorem wpL_copy88 {c v : Array Value} {x y : Operand} {ad : Addr} {cap : Nat} (hg : o.guard = none) (ho : o.op = .call { callee := .builtin .copy, args := #[x, y], argTypes := #[34, 34] })
    (hx : a.eval x = .slice (some ⟨w.heap.size, 0, none⟩) 64 64) (hy : a.eval y = .slice (some ad) 64 cap) (hc : c.size = 64) (hv : SecOk v) (hsrc : ∀ j u, v.toList[j]? = some u → (w.alloc (.cells c 93)).cell? (ad.add j) = some u)
    (h : wpList Try.prog ops Q rest (a.put o.dst (.int .i64 64)) (w.alloc (.cells v 93))) : wpList Try.prog ops Q (o :: rest) a (w.alloc (.cells c 93)) := by
  have hl : v.toList.length = 64 := by simpa using hv.1
  have hr := run_copy_row (P := Try.prog) (w.alloc (.cells c 93)) 34 34 o.type 5 w.heap.size 0 64 64 ad 64 cap c 93 v.toList Try.underlying34 (by kernel_rfl) (heap_alloc_last w _) (by rw [hl]; rfl) hsrc (by rw [hl, hc]; omega) (fun u hu => (Array.all_eq_true_iff_forall_mem.1 hv.2) u (by simpa using hu))
  rw [hl] at hr
  have e : (c.toList.take 0 ++ v.toList ++ c.toList.drop (0 + 64)).toArray = v := by
    rw [List.take_zero, List.nil_append, List.drop_of_length_le (by simp [hc]), List.append_nil, Array.toArray_toList]
  rw [e, World.setRow_alloc_new] at hr
  refine wpL_value hg ?_ h
  unfold execOp
  simp only [ho, resolve, invoke, builtin, Sem.run_bind, Sem.run_pure, Result.andThen_ok, List.map_toArray, List.map_cons, List.map_nil, hx, hy, hr]
  rfl

theorem wpSt_value {P : Program} {K : Act → Prop} {v : Value} (hg : o.guard = none) (hr : (execOp a.eval o).run P w = .ok (.value v) w) (h : wpStill P ops w K rest (a.put o.dst v)) : wpStill P ops w K (o :: rest) a :=
  wpStill_step fun K' hK => by
    rw [if_pos (by simp [Region.wanted, hg])]
    unfold Oper.still
    rw [hr]
    exact ⟨rfl, hK _ h⟩

/-- A whole sector is read out of its block. -/
theorem run_load88 {x : Operand} {g : Nat} {v : Array Value} {t : TypeId} (ho : o.op = .load 93 x) (hx : a.eval x = .pointer (some ⟨g, 0, none⟩)) (hb : w.heap[g]? = some (.cells v t (0, 0))) (hv : v.size = 64) :
    (execOp a.eval o).run Try.prog w = .ok (.value (.agg v)) w := by
  unfold execOp
  simp only [ho, hx, Instr.loadAt, Instr.sureAddr, Sem.run_bind, Sem.run_pure, Result.andThen_ok, run_loadVar_row (P := Try.prog) w g t 93 v (0, 0) (.array 64 5) hb Try.underlying93 rfl (by rw [info88, hv])]

theorem st_value {P : Program} {K : Act → World → Prop} {E : Prop} {v : Value} {w' : World} (hg : o.guard = none) (hr : (execOp a.eval o).run P w = .ok (.value v) w') (h : K (a.put o.dst v) w') :
    if Region.wanted o (yielded ops a.tmps) = true then Oper.wp P o a w K Q else E := by
  rw [if_pos (by simp [Region.wanted, hg])]
  unfold Oper.wp
  rw [hr]
  exact h
theorem st_skip {P : Program} {K : Act → World → Prop} {E : Prop} {w' : World} (hg : o.guard = none) (hr : (execOp a.eval o).run P w = .ok .skip w') (h : K (a.put o.dst undef) w') :
    if Region.wanted o (yielded ops a.tmps) = true then Oper.wp P o a w K Q else E := by
  rw [if_pos (by simp [Region.wanted, hg])]
  unfold Oper.wp
  rw [hr]
  exact h

theorem run_build90 {x y : Operand} {i : Int} {v : Array Value} (ho : o.op = .build 96 #[(0, x), (1, y)]) (hx : a.eval x = .int .i64 i) (hy : a.eval y = .agg v) (hv : v.size = 64) :
    ∀ w, (execOp a.eval o).run Try.prog w = .ok (.value (.agg (wcells (i, v)).toArray)) w := by
  intro w
  unfold execOp
  simp only [ho, List.map_toArray, List.map_cons, List.map_nil, hx, hy, Sem.run_bind, build_run i v hv w, Result.andThen_ok, Sem.run_pure]
theorem run_field71 {x : Operand} {b k : Nat} (hk : k < 7) (ho : o.op = .fieldAddr 91 x k) (hx : a.eval x = .pointer (some ⟨b, 0, none⟩)) :
    ∀ w, (execOp a.eval o).run Try.prog w = .ok (.value (.pointer (some ⟨b, k, none⟩))) w := by
  intro w
  unfold execOp
  simp only [ho, hx]
  match k, hk with
  | 0, _ | 1, _ | 2, _ | 3, _ | 4, _ | 5, _ | 6, _ => go_simp
theorem run_load1 {x : Operand} {p : Addr} {t : TypeId} {u : Value} (ho : o.op = .load t x) (hx : a.eval x = .pointer (some p)) (hc : w.cell? p = some u) (ht : ∀ w, (isAgg t).run Try.prog w = .ok false w) :
    (execOp a.eval o).run Try.prog w = .ok (.value u) w := by
  unfold execOp
  simp only [ho, hx, Instr.loadAt, Instr.sureAddr, loadVar, Sem.run_bind, Sem.run_pure, Result.andThen_ok, ht, Bool.false_eq_true, if_false]
  simp [load, Sem.run, hc]
theorem isAgg69 (w : World) : (isAgg 89).run Try.prog w = .ok false w := by kernel_rfl
theorem isAgg68 (w : World) : (isAgg 88).run Try.prog w = .ok false w := by kernel_rfl
theorem isAgg3 (w : World) : (isAgg 3).run Try.prog w = .ok false w := by kernel_rfl
theorem run_store1 {x y : Operand} {p : Addr} {t : TypeId} {u u' : Value} (ho : o.op = .store t x y) (hx : a.eval x = .pointer (some p)) (hy : a.eval y = u') (hc : w.cell? p = some u) (hf : w.frozen? p = false) (h1 : u'.oneCell' = true)
    (ht : ∀ w, (sizeOf t).run Try.prog w = .ok 1 w) (hcs : u'.cells = #[u']) : (execOp a.eval o).run Try.prog w = .ok .skip (w.setCell p u') := by
  unfold execOp
  simp only [ho, hx, hy, Instr.storeAt, Instr.sureAddr, storeVar, Sem.run_bind, Sem.run_pure, Result.andThen_ok, ht, hcs]
  simp [storeCells, Addr.add, run_store _ _ _ _ _ h1, hc, hf]
theorem info90a : (Try.prog.info? 96).map (fun i => (i.zero, i.size, i.bytes)) = some (some (.agg (#[.int .i64 0] ++ Z)), 65, 72) := by kernel_rfl
theorem run_builtin_append {x y : Operand} {u1 u2 u : Value} {t : TypeId} {w' : World} (ho : o.op = .call { callee := .builtin .append, args := #[x, y], argTypes := #[t, t] }) (hx : a.eval x = u1) (hy : a.eval y = u2)
    (hr : (Builtin.append_ #[t, t] o.type #[u1, u2]).run Try.prog w = .ok u w') : (execOp a.eval o).run Try.prog w = .ok (.value u) w' := by
  unfold execOp
  simp only [ho, resolve, invoke, builtin, Sem.run_bind, Sem.run_pure, Result.andThen_ok, List.map_toArray, List.map_cons, List.map_nil, hx, hy, hr]
theorem sizeOf69 (w : World) : (sizeOf 89).run Try.prog w = .ok 1 w := by kernel_rfl
theorem run_buildSlice69 {x : Operand} {c : Array Value} (ho : o.op = .buildSlice 89 1 #[(0, x)]) (hx : a.eval x = .agg c) (hc : c.size = 65) :
    (execOp a.eval o).run Try.prog w = .ok (.value (.slice (some ⟨w.heap.size, 0, none⟩) 1 1)) (w.alloc (.cells c 96)) := by
  unfold execOp
  simp only [ho, List.map_toArray, List.map_cons, List.map_nil, hx, Sem.run_bind, buildSlice_run c hc w, Result.andThen_ok, Sem.run_pure]
end

set_option maxHeartbeats 400000 in
theorem write_no {w : World} {b : Nat} {F : List Nat} {S : St} (h : DAt w b F S) (i : Int) (s : Value) (hr : S.reach i ≠ 0) :
    Calls Try.prog 83 #[.pointer (some ⟨b, 0, none⟩), .int .i64 i, s] w fun e w' => e = .returned (.int .i64 (S.reach i)) ∧ w = w' := by
  have hn : (S.reach i != 0) = true := by simpa using hr
  have H := Lib.hid (reach_any h i)
  clear hr h
  go_enter Try.func83, Try.ntmps83
  go_wp2_with (go_at_call 65; refine H.out.mono ?_; rintro e w' ⟨rfl, rfl⟩)
  go_ret
  exact ⟨rfl, rfl⟩

set_option maxHeartbeats 400000 in
theorem write_bytes {w : World} {b : Nat} {F : List Nat} {S : St} (h : DAt w b F S) (i : Int) (ad : Option Addr) (len cap : Nat) (hr : S.reach i = 0) (hl : len ≠ 64) :
    Calls Try.prog 83 #[.pointer (some ⟨b, 0, none⟩), .int .i64 i, .slice ad len cap] w fun e w' => e = .returned (.int .i64 11) ∧ w = w' := by
  have hn : ((len : Int) != 64) = true := by simp; omega
  have H := reach_any h i
  rw [hr] at H
  have H2 := Lib.hid H
  clear hr h H hl
  go_enter Try.func83, Try.ntmps83
  go_wp2_with (go_at_call 65; refine H2.out.mono ?_; rintro e w' ⟨rfl, rfl⟩)
  go_ret
  exact ⟨rfl, rfl⟩

set_option maxHeartbeats 400000 in
theorem write_fall {w : World} {b : Nat} {F : List Nat} {S : St} (h : DAt w b F S) (i : Int) (ad : Option Addr) (cap : Nat) (hr : S.reach i = 0) (hf : S.fuse = 0) :
    Calls Try.prog 83 #[.pointer (some ⟨b, 0, none⟩), .int .i64 i, .slice ad 64 cap] w fun e w' => e = .returned (.int .i64 2) ∧ DPost w w' b F S.fallen := by
  have H := reach_any h i
  rw [hr] at H
  have H2 := Lib.hid H
  have H3 := Lib.hid (step_zero h hf)
  clear hr h H hf
  go_enter Try.func83, Try.ntmps83
  go_wp2_with (first | (go_at_call 65; refine H2.out.mono ?_; rintro e w' ⟨rfl, rfl⟩) | (go_at_call 91; refine H3.out.mono ?_; rintro e w' ⟨rfl, hp⟩))
  go_ret
  exact ⟨rfl, hp⟩

theorem DiskAt.pendUp {w Wa w' : World} {b mn ms : Nat} {pv v' : Value} {S : St} {p : Int × Array Value} (h : DiskAt w b mn ms pv S) (ho : Only [] w Wa) (hg : Wa.grownBy w' pv.ownBlock)
    (hown : w'.ownsRow 0 96 65 v' (S.pend.length + 1) (S.pend.flatMap wcells ++ wcells p)) (hloc : v'.ownBlock = pv.ownBlock ∨ v'.ownBlock = some Wa.heap.size) (hp : SecOk p.2) :
    w'.heap[b]? = w.heap[b]? ∧ DiskAt (w'.setCell ⟨b, 6, none⟩ v') b mn ms v' { S with pend := S.pend ++ [p] } ∧ Only (foot b mn ms pv) w (w'.setCell ⟨b, 6, none⟩ v') ∧ (∀ x ∈ foot b mn ms v', x ∈ foot b mn ms pv ∨ w.heap.size ≤ x) := by
  have lt := diskAt_lt h
  have keep : ∀ x, x < w.heap.size → pv.ownBlock ≠ some x → w'.heap[x]? = w.heap[x]? := fun x hx hne =>
    (hg.block x (Nat.lt_of_lt_of_le hx ho.size) (fun e => hne e.symm)).trans (ho.block x hx (by simp))
  have hb := keep b (lt b (by simp [foot])) (fun e => (h.ne_pend e).1 rfl)
  have hmn := keep mn (lt mn (by simp [foot])) (fun e => (h.ne_pend e).2.1 rfl)
  have hms := keep ms (lt ms (by simp [foot])) (fun e => (h.ne_pend e).2.2 rfl)
  have hvb : ∀ x, v'.ownBlock = some x → x ≠ b := fun x hx e => by
    subst e
    rcases hloc with hl | hl
    · exact (h.ne_pend (hl.symm.trans hx)).1 rfl
    · rw [hl] at hx
      cases hx
      have := lt Wa.heap.size (by simp [foot])
      have := ho.size
      omega
  refine ⟨hb, ⟨?_, ?_, ?_, ?_, h.ne, ⟨h.ok.n0, h.ok.n1, h.ok.s0, h.ok.f1, h.ok.now, h.ok.sure, ?_⟩⟩, ?_, ?_⟩
  · rw [heap_setCell_row (hb.trans h.row)]
    rfl
  · exact mapAt_congr h.now ((Below.heap_setCell _ _ _ _ h.ne_now.symm).trans hmn)
  · exact mapAt_congr h.sure ((Below.heap_setCell _ _ _ _ h.ne_sure.symm).trans hms)
  · refine ownsRow_congr (w := w') ?_ (fun x hx => Below.heap_setCell _ _ _ _ (hvb x hx))
    simpa using hown
  · intro q hq
    simp only [List.mem_append, List.mem_singleton] at hq
    rcases hq with hq | rfl
    · exact h.ok.pend q hq
    · exact hp
  · exact ((ho.mono (by simp)).grown hg (fun k hk => .inl (by simp [foot, hk]))).setCell (by simp [foot]) _
  · intro x hx
    simp only [foot, List.mem_cons, Option.mem_toList] at hx ⊢
    rcases hx with hx | hx | hx | hx
    · exact .inl (.inl hx)
    · exact .inl (.inr (.inl hx))
    · exact .inl (.inr (.inr (.inl hx)))
    · rcases hloc with hl | hl
      · exact .inl (.inr (.inr (.inr (hl.symm.trans hx))))
      · rw [hl] at hx
        cases hx
        exact .inr ho.size

def St.written (S : St) (i : Int) (v : Array Value) : St := { S with now := updF S.now i v, pend := S.pend ++ [(i, v)] }

set_option maxHeartbeats 400000 in
theorem write_ok {w : World} {b : Nat} {F : List Nat} {S : St} (h : DAt w b F S) (i : Int) (g o : Nat) (cap : Nat) (v : Array Value) (hv : SecOk v) (hsrc : w.rangeAt g o v.toList) (hg : g < w.heap.size) (hgF : g ∉ F)
    (hr : S.reach i = 0) (hf : S.fuse ≠ 0) (hs : S.steps < 1000000000) (hp : S.pend.length < 1000000000) :
    Calls Try.prog 83 #[.pointer (some ⟨b, 0, none⟩), .int .i64 i, .slice (some ⟨g, o, none⟩) 64 cap] w fun e w' => e = .returned (.int .i64 0) ∧ DPost w w' b F ((S.stepped.kept i).written i v) := by
  have H := reach_any h i
  rw [hr] at H
  have H2 := Lib.hid H
  have H3 := Lib.hid (step_ok h hf hs)
  have HP := Lib.hid hp
  have HF := Lib.hid hgF
  have HSRC := Lib.hid hsrc
  clear hr h H hf hs hp hgF hsrc
  go_enter Try.func83, Try.ntmps83
  go_wp2_with (go_at_call 65; refine H2.out.mono ?_; rintro e w' ⟨rfl, rfl⟩)
  refine H3.out.mono ?_
  rintro e w1 ⟨rfl, F1, d1, f1, o1⟩
  go_wp2_with fail
  refine (keep_any d1 i).mono ?_
  rintro e w2 ⟨rfl, F2, d2, f2, o2⟩
  clear H2 H3
  have o12 := o1.trans o2 f1
  have hg2 : g < w2.heap.size := Nat.lt_of_lt_of_le hg o12.size
  have hsrc : ∀ j u, v.toList[j]? = some u → (w2.alloc (.cells Z 93)).cell? ((⟨g, o, none⟩ : Addr).add j) = some u := fun j u hu => by
    rw [Addr.add_mid, World.cell?_alloc_lt _ _ _ hg2, World.cell?_of_block (w := w) (o12.block g hg HF.out)]
    exact HSRC.out j u hu
  have SRC := Lib.hid hsrc
  clear hsrc
  go_wp2_with (first | (refine wpL_alloc88 rfl rfl ?_) | (refine wpL_copy88 rfl rfl rfl rfl rfl hv SRC.out ?_))
  simp only [Act.put, List.setIfInBounds_toArray, List.set_cons_succ, List.set_cons_zero]
  obtain ⟨mn, ms, pv, h2, rfl⟩ := d2
  obtain ⟨c0, c1, c2, c3, c4, c5, c6, fz⟩ := h2.cells
  have hb2 : b < w2.heap.size := diskAt_lt h2 b (by simp [foot])
  have hnow := mapAt_congr (w' := (w2.alloc (.cells v 93)).drew) h2.now (Below.heap_alloc _ _ _ (mapAt_lt h2.now))
  have hblk : (w2.alloc (.cells v 93)).drew.heap[w2.heap.size]? = some (.cells v 93 (0, 0)) := heap_alloc_last w2 _
  have BLK := Lib.hid hblk
  clear hblk
  refine wp_region_still_tail 6 (by kernel_rfl) (by kernel_rfl) ?_
  change wpStill Try.prog _ (World.drew _) _ _ _
  simp only [List.take_succ_cons, List.take_zero, List.drop_succ_cons, List.drop_zero]
  still_step
  still_step
  still_step
  still_step
  still_step
  refine wpSt_value rfl (run_load88 rfl rfl BLK.out hv.1) ?_
  refine wpStill_nil ?_
  refine wpL_update rfl rfl rfl rfl rfl hnow ?_
  intro ob hm
  go_wp2
  have h3 := h2.nowUp ((Only.refl [] w2).alloc (.cells v 93)).drew hm (secOk_upd h2.ok.now hv)
  change Code.wp Try.prog _ _ _ (setBlock (w2.alloc (.cells v 93)).drew mn ob)
  have hmn : mn ≠ w2.heap.size := Nat.ne_of_lt (mapAt_lt h2.now)
  have BLK3 := Lib.hid ((heap_setBlock_ne (w2.alloc (.cells v 93)).drew mn ob hmn.symm).trans BLK.out)
  generalize setBlock (w2.alloc (.cells v 93)).drew mn ob = w3 at *
  simp only [Act.put, List.setIfInBounds_toArray, List.set_cons_succ, List.set_cons_zero]
  clear hm hnow BLK c0 c1 c2 c3 c4 c5 c6 fz
  obtain ⟨h3, o3⟩ := h3
  obtain ⟨c0, c1, c2, c3, c4, c5, c6, fz⟩ := h3.cells
  have hb3 : b < w3.heap.size := diskAt_lt h3 b (by simp [foot])
  have hwc : (wcells (i, v)).length = 65 := by simp [wcells, hv.1]
  have hone : ∀ u ∈ wcells (i, v), u.oneCell' = true := by
    intro u hu
    simp only [wcells, List.mem_cons] at hu
    rcases hu with rfl | hu
    · rfl
    · exact (Array.all_eq_true_iff_forall_mem.1 hv.2) u (by simpa using hu)
  obtain ⟨i0, hi, hz0, hz1, hz2⟩ := info_parts info90a
  have SRC2 : ∀ j u, (wcells (i, v))[j]? = some u → (w3.drew.alloc (.cells (wcells (i, v)).toArray 96)).cell? ((⟨w3.heap.size, 0, none⟩ : Addr).add j) = some u := fun j u hu => by
    rw [Addr.add_mid, Nat.zero_add]
    have := cell_of_row _ _ j _ _ _ (heap_alloc_last w3.drew (.cells (wcells (i, v)).toArray 96))
    rw [World.size_drew] at this
    rw [this]
    simpa using hu
  have APP := run_append_own_at (P := Try.prog) (w3.drew.alloc (.cells (wcells (i, v)).toArray 96)) 0 89 89 96 i0 _ 65 72 Try.underlying89 hi hz0 hz1 hz2 (by simp [Value.cells, Z]) (by omega)
    pv _ _ (World.ownsRow.alloc (w := w3.drew) h3.pend _) ⟨w3.heap.size, 0, none⟩ 1 1 (wcells (i, v)) (by rw [hwc]) SRC2 hone (by unfold maxLen; have := HP.out; simp only [St.kept, St.stepped]; omega) (by have := HP.out; simp only [St.kept, St.stepped]; omega) (Nat.zero_le _)
  obtain ⟨v', w', hrun, hown, hgrow, hnil, hloc⟩ := APP
  refine wp_region_flow Lat [0, 0, 0, 0, 1, 0, 1, 0, 2, 3, 0, 0, 3] (by kernel_rfl) (by kernel_rfl) Lat.refl Lat.trans ?_
  refine fl0 rfl (fun _ => rfl) ?_
  refine fl0 rfl (fun _ => rfl) ?_
  refine fl0 (u := .pointer (some ⟨b, 0, none⟩)) rfl (fun _ => rfl) ?_
  refine fl0 (u := .pointer (some ⟨b, 6, none⟩)) rfl (run_field71 (by omega) rfl rfl) ?_
  simp only [Act.put, List.setIfInBounds_toArray, List.set_cons_succ, List.set_cons_zero]
  refine fl1 (u := pv) rfl (fun x hx => run_load1 rfl rfl (hx.cell c6) isAgg69) ?_
  refine fl0 (u := .int .i64 i) rfl (fun _ => rfl) ?_
  refine fl1 (u := .agg v) rfl (fun x hx => run_load88 rfl rfl (hx.at BLK3.out) hv.1) ?_
  simp only [Act.put, List.setIfInBounds_toArray, List.set_cons_succ, List.set_cons_zero]
  refine fl0 (u := .agg (wcells (i, v)).toArray) rfl (run_build90 rfl rfl rfl hv.1) ?_
  refine fl2 (u := .slice (some ⟨w3.heap.size, 0, none⟩) 1 1) (w' := w3.drew.alloc (.cells (wcells (i, v)).toArray 96)) rfl (Lat.alloc _ _) (.inl (run_buildSlice69 rfl rfl (by simpa using hwc))) ?_
  simp only [Act.put, List.setIfInBounds_toArray, List.set_cons_succ, List.set_cons_zero]
  refine fl3 (u := v') (w' := w') rfl (.inl (run_builtin_append rfl rfl rfl hrun)) ?_
  refine fl0 (u := .pointer (some ⟨b, 0, none⟩)) rfl (fun _ => rfl) ?_
  refine fl0 (u := .pointer (some ⟨b, 6, none⟩)) rfl (run_field71 (by omega) rfl rfl) ?_
  simp only [Act.put, List.setIfInBounds_toArray, List.set_cons_succ, List.set_cons_zero]
  obtain ⟨hbrow, h4, o4, f4⟩ := h3.pendUp (p := (i, v)) ((Only.refl [] w3).drew.alloc (.cells (wcells (i, v)).toArray 96)) hgrow hown hloc hv
  have hc6' : w'.cell? ⟨b, 6, none⟩ = some pv := (World.cell?_of_block (w := w3) hbrow).trans c6
  have hf6' : w'.frozen? ⟨b, 6, none⟩ = false := (World.frozen?_of_block (w := w3) hbrow).trans (fz 6)
  have hv1 : v'.oneCell' = true ∧ v'.cells = #[v'] := by
    rcases hown.2 with ⟨h1, _⟩ | ⟨g', cap', cur', h1, _⟩ <;> rw [h1] <;> exact ⟨rfl, rfl⟩
  refine fl3 (u := undef) (w' := w'.setCell ⟨b, 6, none⟩ v') rfl (.inr (.inl ⟨run_store1 rfl rfl rfl hc6' hf6' hv1.1 sizeOf69 hv1.2, rfl⟩)) ?_
  refine flnil ?_
  show Exit.then _ _ _ _ _
  go_wp2
  go_ret
  refine ⟨rfl, ?_⟩
  have f12 : ∀ x ∈ foot b mn ms pv, x ∈ F ∨ w.heap.size ≤ x := fun x hx => by
    rcases f2 x hx with h | h
    · exact f1 x h
    · exact .inr (Nat.le_trans o1.size h)
  have o23 : Only F w w3 := o12.trans o3 (fun x hx => by simp at hx; subst hx; exact f12 x (by simp [foot]))
  refine ⟨foot b mn ms v', ⟨mn, ms, v', h4, rfl⟩, fun x hx => ?_, o23.trans o4 f12⟩
  rcases f4 x hx with h | h
  · exact f12 x h
  · exact .inr (Nat.le_trans o23.size h)

end Go.Proofs.Ytoccnaebckcfmaa
