/- A cache in memory; isPinned, and the choice that evict makes. -/
import Derived.Test.YtoccnaebckcfmaaK2
import Derived.Deep.CutBlock
set_option linter.unusedSimpArgs false
set_option linter.unusedVariables false
set_option maxRecDepth 8000
namespace Go.Proofs.Ytoccnaebckcfmaa
open Go.RowKit
open Go.ChangeMaps (setBlock)

structure CaS where
  most : Int
  opn : Bool
  miss : Int
  held : Int → Option (Array Value)
  ord : List Int
  pin : List Int

structure CaOk (C : CaS) : Prop where
  nd : C.ord.Nodup
  hd : ∀ k, (C.held k).isSome = true ↔ k ∈ C.ord
  sec : ∀ k v, C.held k = some v → SecOk v
  pn : C.pin.Nodup
  ps : ∀ k ∈ C.pin, k ∈ C.ord
  rg : ∀ k ∈ C.ord, 0 ≤ k ∧ k < 8192
  m0 : 1 ≤ C.most
  m1 : C.most ≤ 9223372036854775807
  i0 : 0 ≤ C.miss
  i1 : C.miss ≤ 1000000000

theorem small_len {l : List Int} (hn : l.Nodup) (h : ∀ k ∈ l, 0 ≤ k ∧ k < 8192) : l.length ≤ 8192 := by
  have := length_le_of_nodup (ks := (List.range 8192).map (fun i : Nat => (i : Int))) hn (fun x hx => by
    have := h x hx
    exact List.mem_map.2 ⟨x.toNat, List.mem_range.2 (by omega), by omega⟩)
  simpa using this
theorem CaOk.len {C : CaS} (h : CaOk C) : C.ord.length ≤ 8192 := small_len h.nd h.rg
theorem CaOk.plen {C : CaS} (h : CaOk C) : C.pin.length ≤ C.ord.length := length_le_of_nodup h.pn h.ps

def pp (x : Nat) : Value := .pointer (some ⟨x, 0, none⟩)
def crow (d wb : Nat) (C : CaS) (hm pm : Nat) (ov : Value) : Array Value := #[pp d, pp wb, .int .i64 C.most, .bool C.opn, .int .i64 C.miss, .map (some hm), ov, .map (some pm)]

structure CIs (w : World) (cb d wb hm pm : Nat) (ov : Value) (C : CaS) : Prop where
  row : w.heap[cb]? = some (.cells (crow d wb C hm pm ov) 74 (0, 0))
  held : MapAt w hm C.held
  pinned : MapAt w pm (setF C.pin)
  ord : w.ownsRow 0 3 1 ov C.ord.length (C.ord.map (Value.int .i64))
  ne : hm ≠ pm

def cfoot (cb hm pm : Nat) (ov : Value) : List Nat := cb :: hm :: pm :: ov.ownBlock.toList

section
variable {w w' : World} {cb d wb hm pm : Nat} {ov : Value} {C : CaS}

theorem CIs.cells (h : CIs w cb d wb hm pm ov C) : w.cell? ⟨cb, 0, none⟩ = some (pp d) ∧ w.cell? ⟨cb, 1, none⟩ = some (pp wb) ∧ w.cell? ⟨cb, 2, none⟩ = some (.int .i64 C.most) ∧ w.cell? ⟨cb, 3, none⟩ = some (.bool C.opn) ∧ w.cell? ⟨cb, 4, none⟩ = some (.int .i64 C.miss) ∧
    w.cell? ⟨cb, 5, none⟩ = some (.map (some hm)) ∧ w.cell? ⟨cb, 6, none⟩ = some ov ∧ w.cell? ⟨cb, 7, none⟩ = some (.map (some pm)) ∧ ∀ j, w.frozen? ⟨cb, j, none⟩ = false := by
  have hb := h.row
  refine ⟨?_, ?_, ?_, ?_, ?_, ?_, ?_, ?_, fun j => by simp [World.frozen?, hb]⟩ <;> (rw [cell_of_row _ _ _ _ _ _ hb]; rfl)

theorem CIs.slice (h : CIs w cb d wb hm pm ov C) : ∃ a cap, ov = .slice a C.ord.length cap ∧ C.ord.length ≤ cap ∧ cap ≤ 9223372036854775807 := by
  rcases h.ord.2 with ⟨e, hn⟩ | ⟨g, cap, cur, e, _, _, h1, h2, _⟩
  · exact ⟨none, 0, by rw [e, hn], by omega, by omega⟩
  · exact ⟨_, cap, e, h1, by unfold maxLen at h2; omega⟩

/-- The block of the order, if there is one. -/
theorem CIs.oblk (h : CIs w cb d wb hm pm ov C) {g : Nat} (hg : ov.ownBlock = some g) : ∃ cap cur, ov = .slice (some ⟨g, 0, none⟩) C.ord.length cap ∧ w.heap[g]? = some (.cells cur 3 (0, 0)) ∧ C.ord.length ≤ cap ∧ cap ≤ 9223372036854775807 ∧ cur.size = cap ∧ cur.toList.take C.ord.length = C.ord.map (Value.int .i64) := by
  rcases h.ord.2 with ⟨e, hn⟩ | ⟨g', cap, cur, e, _, hh, h1, h2, h3, h4⟩
  · rw [e] at hg; cases hg
  · rw [e] at hg
    simp [Value.ownBlock] at hg
    subst hg
    exact ⟨cap, cur, e, hh, h1, by unfold maxLen at h2; omega, by omega, by simpa using h4⟩

theorem CIs.apart (h : CIs w cb d wb hm pm ov C) : cb ≠ hm ∧ cb ≠ pm ∧ hm ≠ pm ∧ (∀ g, ov.ownBlock = some g → g ≠ cb ∧ g ≠ hm ∧ g ≠ pm) := by
  obtain ⟨es, c, hh, _⟩ := h.held
  obtain ⟨es', c', hp, _⟩ := h.pinned
  have hr := h.row
  refine ⟨fun e => (by rw [e, hh] at hr; cases hr), fun e => (by rw [e, hp] at hr; cases hr), h.ne, fun g hg => ?_⟩
  obtain ⟨cap, cur, _, hb, _⟩ := h.oblk hg
  exact ⟨fun e => (by rw [e, hr] at hb; simp at hb), fun e => (by rw [e, hh] at hb; cases hb), fun e => (by rw [e, hp] at hb; cases hb)⟩

theorem CIs.lt (h : CIs w cb d wb hm pm ov C) : ∀ x ∈ cfoot cb hm pm ov, x < w.heap.size := by
  intro x hx
  simp only [cfoot, List.mem_cons, Option.mem_toList] at hx
  rcases hx with rfl | rfl | rfl | hx
  · exact (Array.getElem?_eq_some_iff.1 h.row).1
  · exact mapAt_lt h.held
  · exact mapAt_lt h.pinned
  · obtain ⟨cap, cur, _, hb, _⟩ := h.oblk hx
    exact (Array.getElem?_eq_some_iff.1 hb).1

theorem CIs.congr (h : CIs w cb d wb hm pm ov C) (he : ∀ x ∈ cfoot cb hm pm ov, w'.heap[x]? = w.heap[x]?) : CIs w' cb d wb hm pm ov C :=
  ⟨(he cb (by simp [cfoot])).trans h.row, mapAt_congr h.held (he hm (by simp [cfoot])), mapAt_congr h.pinned (he pm (by simp [cfoot])), ownsRow_congr' h.ord (fun g hg => he g (by simp [cfoot, hg])), h.ne⟩
theorem CIs.only (h : CIs w cb d wb hm pm ov C) {G : List Nat} (ho : Only G w w') (hG : ∀ x ∈ cfoot cb hm pm ov, x ∉ G) : CIs w' cb d wb hm pm ov C := h.congr (fun x hx => ho.block x (h.lt x hx) (hG x hx))
end

section
variable {ops : Array Oper} {rest : List Oper} {o : Oper} {a : Act} {Q : Exit → Act → World → Prop} {w : World}
theorem wpL_valueW {P : Program} {v : Value} {w' : World} (hg : Region.wanted o (yielded ops a.tmps) = true) (hr : (execOp a.eval o).run P w = .ok (.value v) w') (h : wpList P ops Q rest (a.put o.dst v) w') : wpList P ops Q (o :: rest) a w :=
  Go.BigFrame.wpList_want hg fun K hK => by unfold Oper.wp; rw [hr]; exact hK _ _ h
/-- A new variable of several cells, and the first store into it. -/
theorem wpL_alloc0 {t : TypeId} {c : Array Value} (hz : ∀ w, (zeroValue t).run Try.prog w = .ok (.agg c) w) (hg : o.guard = none) (ho : o.op = .alloc t) (h : wpList Try.prog ops Q rest (a.put o.dst (.pointer (some ⟨w.heap.size, 0, none⟩))) (w.alloc (.cells c t))) : wpList Try.prog ops Q (o :: rest) a w := by
  refine wpL_value hg ?_ h
  unfold execOp
  rw [ho]
  simp only [Instr.alloc, Sem.run_bind, hz, Result.andThen, newVar, newRow, Value.cells]
  rfl
theorem wpL_store0 {t : TypeId} {c c' : Array Value} {n : Nat} {x y : Operand} (hi : (Try.prog.info? t).map (·.size) = some n) (hc : c.size = n) (hc' : c'.size = n) (h1 : c'.all (·.oneCell') = true) (hg : o.guard = none) (ho : o.op = .store t x y) (hx : a.eval x = .pointer (some ⟨w.heap.size, 0, none⟩)) (hy : a.eval y = .agg c')
    (h : wpList Try.prog ops Q rest (a.put o.dst undef) (w.alloc (.cells c' t))) : wpList Try.prog ops Q (o :: rest) a (w.alloc (.cells c t)) := by
  refine wpL_skip hg ?_ h
  unfold execOp
  rw [ho]
  simp only [hx, hy, Sem.run_bind, run_storeAt_new (P := Try.prog) w t c c' (by rw [hi, hc']) (by rw [hc, hc']) h1, Result.andThen]
  rfl
end
theorem info82 : (Try.prog.info? 82).map (·.size) = some 0 := by kernel_rfl
theorem info69 : (Try.prog.info? 69).map (·.size) = some 64 := by kernel_rfl

theorem setF_some (l : List Int) (i : Int) : (setF l i).isSome = decide (i ∈ l) := by unfold setF; split <;> simp [*]
theorem setF_get (l : List Int) (i : Int) : (setF l i).getD #[] = #[] := by unfold setF; split <;> rfl

set_option maxHeartbeats 1000000 in
theorem isPinned_raw {w : World} {cb pm : Nat} {pin : List Int} (hc : w.cell? ⟨cb, 7, none⟩ = some (.map (some pm))) (hm : MapAt w pm (setF pin)) (i : Int) :
    Calls Try.prog 52 #[pp cb, .int .i64 i] w fun e w' => e = .returned (.bool (decide (i ∈ pin))) ∧ w' = w.alloc (.cells #[] 82) := by
  have HM := Lib.hid hm
  have e1 := setF_some pin i
  have e2 := setF_get pin i
  clear hm
  show Calls Try.prog 52 #[.pointer (some ⟨cb, 0, none⟩), .int .i64 i] w _
  go_enter Try.func52, Try.ntmps52
  go_wp2_with (first | (refine wpL_lookG Try.underlying72 zero82 rfl rfl rfl rfl HM.out ?_; simp only [if_true, e1, e2]) | (refine wpL_alloc0 zero82 rfl rfl ?_) | (refine wpL_store0 info82 rfl rfl rfl rfl rfl rfl rfl ?_))
  go_ret
  exact ⟨rfl, rfl⟩

/-- What evict's choice does: ex: how many are too much. -/
def evPick (ex : Int) (pin : List Int) (i : Int) : Bool := decide (ex ≠ 0 ∧ i ∉ pin)

def EvPost (eb : Nat) (ex : Int) (pin : List Int) (i : Int) (w : World) (e : Ending) (w' : World) : Prop :=
  e = .returned (.bool (evPick ex pin i)) ∧ w'.heap[eb]? = some (.cells #[.int .i64 (if evPick ex pin i then ex - 1 else ex)] 3 (0, 0)) ∧ Only [eb] w w'

set_option maxHeartbeats 1000000 in
theorem evict1_raw {w : World} {cb pm eb xb : Nat} {pin : List Int} {ex : Int} (hc : w.cell? ⟨cb, 7, none⟩ = some (.map (some pm))) (hm : MapAt w pm (setF pin)) (hx : w.heap[xb]? = some (.cells #[pp cb] 26 (0, 0))) (he : w.heap[eb]? = some (.cells #[.int .i64 ex] 3 (0, 0))) (h0 : 0 ≤ ex) (h1 : ex ≤ 1000000) (i : Int) :
    Calls Try.prog 69 #[.int .i64 i, pp eb, pp xb] w fun e w' => EvPost eb ex pin i w e w' := by
  have cx : w.cell? ⟨xb, 0, none⟩ = some (.pointer (some ⟨cb, 0, none⟩)) := by rw [cell_of_row _ _ _ _ _ _ hx]; rfl
  have ce : w.cell? ⟨eb, 0, none⟩ = some (.int .i64 ex) := by rw [cell_of_row _ _ _ _ _ _ he]; rfl
  have fe : w.frozen? ⟨eb, 0, none⟩ = false := by simp [World.frozen?, he]
  have hlt := (Array.getElem?_eq_some_iff.1 he).1
  have PI := Lib.hid (isPinned_raw hc hm i)
  have HE := Lib.hid he
  clear hm hx he hc
  show Calls Try.prog 69 #[.int .i64 i, .pointer (some ⟨eb, 0, none⟩), .pointer (some ⟨xb, 0, none⟩)] w _
  by_cases hz : ex = 0
  · subst hz
    go_enter Try.func69, Try.ntmps69
    go_wp2
    go_ret
    exact ⟨by simp [evPick], by simpa [evPick] using HE.out, Only.refl _ _⟩
  · have hzb : (ex == 0) = false := by simp [hz]
    by_cases hp : i ∈ pin
    · rw [decide_eq_true hp] at PI
      go_enter Try.func69, Try.ntmps69
      go_wp2_with (go_at_call 52; refine PI.out.mono ?_; rintro e w' ⟨rfl, rfl⟩)
      go_ret
      exact ⟨by simp [evPick, hp], by rw [Below.heap_alloc _ _ _ hlt]; simpa [evPick, hp] using HE.out, (Only.refl _ _).alloc _⟩
    · rw [decide_eq_false hp] at PI
      go_enter Try.func69, Try.ntmps69
      go_wp2_with (go_at_call 52; refine PI.out.mono ?_; rintro e w' ⟨rfl, rfl⟩)
      go_ret
      refine ⟨by simp [evPick, hp, hz], ?_, ((Only.refl [eb] w).setCell (p := ⟨eb, 0, none⟩) (.inl (by simp)) _).alloc _⟩
      rw [Below.heap_alloc _ _ _ (by simpa using hlt), heap_setCell_row HE.out]
      simp [evPick, hp, hz]

end Go.Proofs.Ytoccnaebckcfmaa
