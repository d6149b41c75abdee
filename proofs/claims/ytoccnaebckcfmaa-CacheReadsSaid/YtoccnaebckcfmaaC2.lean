/- What the disk's reads and writes of sectors do. -/
import Derived.Test.YtoccnaebckcfmaaC1
import Derived.StillTailTactics
import Derived.Deep.RegionLaw
import Derived.Deep.RegionLawGrows
import Derived.BigQuiet
set_option linter.unusedSimpArgs false
set_option maxRecDepth 8000
namespace Go.Proofs.Ytoccnaebckcfmaa
open Go.RowKit
open Go.ChangeMaps (setBlock)

theorem zero88 (w : World) : (zeroValue 93).run Try.prog w = .ok (.agg Z) w := by kernel_rfl
theorem info88 : (Try.prog.info? 93).map (·.size) = some 64 := by kernel_rfl
theorem info90 : (Try.prog.info? 96).map (·.size) = some 65 := by kernel_rfl
theorem zero90 (w : World) : (zeroValue 96).run Try.prog w = .ok (.agg (#[.int .i64 0] ++ Z)) w := by kernel_rfl

section
variable {ops : Array Oper} {rest : List Oper} {o : Oper} {a : Act} {Q : Exit → Act → World → Prop} {w : World}

theorem wpL_value {P : Program} {v : Value} {w' : World} (hg : o.guard = none) (hr : (execOp a.eval o).run P w = .ok (.value v) w') (h : wpList P ops Q rest (a.put o.dst v) w') : wpList P ops Q (o :: rest) a w :=
  wpList_plain hg fun K hK => by unfold Oper.wp; rw [hr]; exact hK _ _ h
theorem wpL_skip {P : Program} {w' : World} (hg : o.guard = none) (hr : (execOp a.eval o).run P w = .ok .skip w') (h : wpList P ops Q rest (a.put o.dst undef) w') : wpList P ops Q (o :: rest) a w :=
  wpList_plain hg fun K hK => by unfold Oper.wp; rw [hr]; exact hK _ _ h

/-- 'var s sector'. -/
theorem wpL_alloc88 (hg : o.guard = none) (ho : o.op = .alloc 93) (h : wpList Try.prog ops Q rest (a.put o.dst (.pointer (some ⟨w.heap.size, 0, none⟩))) (w.alloc (.cells Z 93))) : wpList Try.prog ops Q (o :: rest) a w := by
  refine wpL_value hg ?_ h
  unfold execOp
  rw [ho]
  simp only [Instr.alloc, Sem.run_bind, zero88, Result.andThen, newVar, newRow, Value.cells]
  rfl

/-- A sector into the block that was made last. -/
theorem wpL_store88 {c c' : Array Value} {x y : Operand} (hg : o.guard = none) (ho : o.op = .store 93 x y) (hx : a.eval x = .pointer (some ⟨w.heap.size, 0, none⟩)) (hy : a.eval y = .agg c') (hc : c.size = 64) (hc' : SecOk c')
    (h : wpList Try.prog ops Q rest (a.put o.dst undef) (w.alloc (.cells c' 93))) : wpList Try.prog ops Q (o :: rest) a (w.alloc (.cells c 93)) := by
  refine wpL_skip hg ?_ h
  unfold execOp
  rw [ho]
  simp only [hx, hy, Sem.run_bind, run_storeAt_new (P := Try.prog) w 93 c c' (by rw [info88, hc'.1]) (by rw [hc, hc'.1]) hc'.2, Result.andThen]
  rfl

/-- A look-up in a map of sectors. -/
theorem wpL_lookup {m x : Operand} {b : Nat} {f : Int → Option (Array Value)} {k : Int} (hg : o.guard = none) (ho : o.op = .lookup 88 m x false) (hm : a.eval m = .map (some b)) (hx : a.eval x = .int .i64 k) (hf : MapAt w b f)
    (h : wpList Try.prog ops Q rest (a.put o.dst (.agg ((f k).getD Z))) w) : wpList Try.prog ops Q (o :: rest) a w := by
  refine wpL_value hg ?_ h
  unfold execOp
  rw [ho]
  simp only [hm, hx, Sem.run_bind, hf.lookup Try.underlying88 Try.underlying3 (zero88 w) k false, Result.andThen]
  rfl
theorem wpL_lookup_ok {m x : Operand} {b : Nat} {f : Int → Option (Array Value)} {k : Int} (hg : o.guard = none) (ho : o.op = .lookup 88 m x true) (hm : a.eval m = .map (some b)) (hx : a.eval x = .int .i64 k) (hf : MapAt w b f)
    (h : wpList Try.prog ops Q rest (a.put o.dst (.tuple #[.agg ((f k).getD Z), .bool (f k).isSome])) w) : wpList Try.prog ops Q (o :: rest) a w := by
  refine wpL_value hg ?_ h
  unfold execOp
  rw [ho]
  simp only [hm, hx, Sem.run_bind, hf.lookup Try.underlying88 Try.underlying3 (zero88 w) k true, Result.andThen]
  rfl
/-- A store into a map of sectors. -/
theorem wpL_update {m x y : Operand} {b : Nat} {f : Int → Option (Array Value)} {k : Int} {v : Array Value} (hg : o.guard = none) (ho : o.op = .mapUpdate 88 m x y) (hm : a.eval m = .map (some b)) (hx : a.eval x = .int .i64 k) (hy : a.eval y = .agg v) (hf : MapAt w b f)
    (h : ∀ ob, MapAt (setBlock w b ob) b (updF f k v) → wpList Try.prog ops Q rest (a.put o.dst undef) (setBlock w b ob)) : wpList Try.prog ops Q (o :: rest) a w := by
  obtain ⟨ob, hr, hm'⟩ := hf.update (P := Try.prog) Try.underlying88 Try.underlying3 k v
  refine wpL_skip hg ?_ (h ob hm')
  unfold execOp
  rw [ho]
  simp only [hm, hx, hy, Sem.run_bind, hr, Result.andThen]
  rfl
end

theorem secOk_getD {f : Int → Option (Array Value)} (h : ∀ i v, f i = some v → SecOk v) (k : Int) : SecOk ((f k).getD Z) := by
  cases hk : f k with
  | none => exact Z_ok
  | some v => exact h k v hk

theorem heap_setBlock_ne (w : World) (g : Nat) (o : Obj) {x : Nat} (h : x ≠ g) : (setBlock w g o).heap[x]? = w.heap[x]? := by
  have : ¬ g = x := fun e => h e.symm
  simp [Go.ChangeMaps.setBlock, this]

theorem DiskAt.sureUp {w W : World} {b mn ms : Nat} {pv : Value} {S : St} (h : DiskAt w b mn ms pv S) (ho : Only [] w W) {ob : Obj} {g : Int → Option (Array Value)} (hm : MapAt (setBlock W ms ob) ms g) (hg : ∀ i v, g i = some v → SecOk v) :
    DiskAt (setBlock W ms ob) b mn ms pv { S with sure := g } ∧ Only [ms] w (setBlock W ms ob) := by
  have lt := diskAt_lt h
  have hw := diskAt_congr h (fun x hx => ho.block x (lt x hx) (by simp))
  refine ⟨⟨?_, ?_, hm, ?_, h.ne, ⟨h.ok.n0, h.ok.n1, h.ok.s0, h.ok.f1, h.ok.now, hg, h.ok.pend⟩⟩, (ho.mono (by simp)).setBlock (by simp) _⟩
  · rw [heap_setBlock_ne _ _ _ h.ne_sure]; exact hw.row
  · exact mapAt_congr hw.now (heap_setBlock_ne _ _ _ h.ne)
  · exact ownsRow_congr hw.pend (fun x hx => heap_setBlock_ne _ _ _ (h.ne_pend hx).2.2)

theorem DiskAt.nowUp {w W : World} {b mn ms : Nat} {pv : Value} {S : St} (h : DiskAt w b mn ms pv S) (ho : Only [] w W) {ob : Obj} {g : Int → Option (Array Value)} (hm : MapAt (setBlock W mn ob) mn g) (hg : ∀ i v, g i = some v → SecOk v) :
    DiskAt (setBlock W mn ob) b mn ms pv { S with now := g } ∧ Only [mn] w (setBlock W mn ob) := by
  have lt := diskAt_lt h
  have hw := diskAt_congr h (fun x hx => ho.block x (lt x hx) (by simp))
  refine ⟨⟨?_, hm, ?_, ?_, h.ne, ⟨h.ok.n0, h.ok.n1, h.ok.s0, h.ok.f1, hg, h.ok.sure, h.ok.pend⟩⟩, (ho.mono (by simp)).setBlock (by simp) _⟩
  · rw [heap_setBlock_ne _ _ _ h.ne_now]; exact hw.row
  · exact mapAt_congr hw.sure (heap_setBlock_ne _ _ _ h.ne.symm)
  · exact ownsRow_congr hw.pend (fun x hx => heap_setBlock_ne _ _ _ (h.ne_pend hx).2.1)

theorem secOk_upd {f : Int → Option (Array Value)} (h : ∀ i v, f i = some v → SecOk v) {k : Int} {v : Array Value} (hv : SecOk v) : ∀ i u, updF f k v i = some u → SecOk u := by
  intro i u hu
  unfold updF at hu
  split at hu
  · cases hu; exact hv
  · exact h i u hu

set_option maxHeartbeats 400000 in
theorem read_no {w : World} {b : Nat} {F : List Nat} {S : St} (h : DAt w b F S) (i : Int) (hr : S.reach i ≠ 0) :
    Calls Try.prog 33 #[.pointer (some ⟨b, 0, none⟩), .int .i64 i] w fun e w' => e = .returned (.tuple #[.slice none 0 0, .int .i64 (S.reach i)]) ∧ w = w' := by
  have hn : (S.reach i != 0) = true := by simpa using hr
  have H := Lib.hid (reach_any h i)
  clear hr h
  go_enter Try.func33, Try.ntmps33
  go_wp2_with (go_at_call 65; refine H.out.mono ?_; rintro e w' ⟨rfl, rfl⟩)
  go_ret2
  exact ⟨rfl, rfl⟩

set_option maxHeartbeats 400000 in
theorem read_ok {w : World} {b : Nat} {F : List Nat} {S : St} (h : DAt w b F S) (i : Int) (hr : S.reach i = 0) :
    Calls Try.prog 33 #[.pointer (some ⟨b, 0, none⟩), .int .i64 i] w fun e w' => e = .returned (.tuple #[.slice (some ⟨w.heap.size, 0, none⟩) 64 64, .int .i64 0]) ∧ w' = w.alloc (.cells ((S.now i).getD Z) 93) := by
  have H := reach_any h i
  rw [hr] at H
  have H := Lib.hid H
  obtain ⟨mn, ms, pv, h, rfl⟩ := h
  obtain ⟨c0, c1, c2, c3, c4, c5, c6, fz⟩ := h.cells
  have hnow := h.now
  have hok := secOk_getD h.ok.now i
  clear h hr
  go_enter Try.func33, Try.ntmps33
  go_wp2_with (first | (go_at_call 65; refine H.out.mono ?_; rintro e w' ⟨rfl, rfl⟩) | (refine wpL_alloc88 rfl rfl ?_) | (refine wpL_store88 rfl rfl rfl rfl rfl hok ?_) | (refine wpL_lookup rfl rfl rfl rfl hnow ?_))
  go_ret2
  exact ⟨rfl, rfl⟩

set_option maxHeartbeats 400000 in
theorem keep_there {w : World} {b : Nat} {F : List Nat} {S : St} (h : DAt w b F S) (i : Int) (v : Array Value) (hs : S.sure i = some v) :
    Calls Try.prog 92 #[.pointer (some ⟨b, 0, none⟩), .int .i64 i] w fun e w' => e = .returned (.tuple #[]) ∧ w' = w.alloc (.cells v 93) := by
  obtain ⟨mn, ms, pv, h, rfl⟩ := h
  obtain ⟨c0, c1, c2, c3, c4, c5, c6, fz⟩ := h.cells
  have hsure := h.sure
  have hok : SecOk v := h.ok.sure i v hs
  have HS := Lib.hid hs
  clear h hs
  go_enter Try.func92, Try.ntmps92
  go_wp2_with (first | (refine wpL_alloc88 rfl rfl ?_) | (refine wpL_store88 rfl rfl rfl rfl rfl hok ?_) | (refine wpL_lookup_ok rfl rfl rfl rfl hsure ?_; rw [HS.out]))
  go_end0
  exact ⟨rfl, rfl⟩

set_option maxHeartbeats 400000 in
theorem keep_new {w : World} {b : Nat} {F : List Nat} {S : St} (h : DAt w b F S) (i : Int) (hs : S.sure i = none) :
    Calls Try.prog 92 #[.pointer (some ⟨b, 0, none⟩), .int .i64 i] w fun e w' => e = .returned (.tuple #[]) ∧ DPost w w' b F { S with sure := updF S.sure i ((S.now i).getD Z) } := by
  obtain ⟨mn, ms, pv, h, rfl⟩ := h
  obtain ⟨c0, c1, c2, c3, c4, c5, c6, fz⟩ := h.cells
  have hsure := h.sure
  have hnow := h.now
  have lt := diskAt_lt h
  have hb : b < w.heap.size := lt b (by simp [foot])
  have H := Lib.hid h
  have LT := Lib.hid lt
  have HS := Lib.hid hs
  have hl := (mapAt_congr (w' := (w.alloc (.cells Z 93)).drew) hnow (Below.heap_alloc _ _ _ (mapAt_lt hnow))).lookup (P := Try.prog) Try.underlying88 Try.underlying3 (zero88 _) i false
  simp only [Bool.false_eq_true, if_false] at hl
  clear h hs lt
  go_enter Try.func92, Try.ntmps92
  go_wp2_with (first | (refine wpL_alloc88 rfl rfl ?_) | (refine wpL_store88 rfl rfl rfl rfl rfl Z_ok ?_) | (refine wpL_lookup_ok rfl rfl rfl rfl hsure ?_; rw [HS.out]))
  refine wp_region_still_tail 11 (by kernel_rfl) (by kernel_rfl) ?_
  change wpStill Try.prog _ (World.drew _) _ _ _
  simp only [List.take_succ_cons, List.take_zero, List.drop_succ_cons, List.drop_zero]
  repeat still_step
  refine wpStill_nil ?_
  refine wpL_update rfl rfl rfl rfl rfl (mapAt_congr (w' := (w.alloc (.cells Z 93)).drew) hsure (Below.heap_alloc _ _ _ (mapAt_lt hsure))) ?_
  intro ob hm
  go_wp2
  go_end0
  have h := H.out
  show _ ∧ DPost w (setBlock (w.alloc (.cells Z 93)).drew ms ob) b _ _
  obtain ⟨h1, h2⟩ := h.sureUp ((Only.refl [] w).alloc (.cells Z 93)).drew hm (secOk_upd h.ok.sure (secOk_getD h.ok.now i))
  exact ⟨rfl, h.post h1 h2 (by simp [foot])⟩

def St.kept (S : St) (i : Int) : St := { S with sure := if (S.sure i).isSome then S.sure else updF S.sure i ((S.now i).getD Z) }

theorem keep_any {w : World} {b : Nat} {F : List Nat} {S : St} (h : DAt w b F S) (i : Int) :
    Calls Try.prog 92 #[.pointer (some ⟨b, 0, none⟩), .int .i64 i] w fun e w' => e = .returned (.tuple #[]) ∧ DPost w w' b F (S.kept i) := by
  cases hs : S.sure i with
  | some v =>
    refine (keep_there h i v hs).mono ?_
    rintro e w' ⟨rfl, rfl⟩
    refine ⟨rfl, F, ?_, fun x hx => .inl hx, (Only.refl F w).alloc _⟩
    have : S.kept i = S := by simp [St.kept, hs]
    rw [this]
    exact h.alloc _
  | none =>
    refine (keep_new h i hs).mono ?_
    rintro e w' ⟨rfl, h'⟩
    refine ⟨rfl, ?_⟩
    have : S.kept i = { S with sure := updF S.sure i ((S.now i).getD Z) } := by simp [St.kept, hs]
    rw [this]
    exact h'

end Go.Proofs.Ytoccnaebckcfmaa
