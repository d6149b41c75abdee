/- The disk and the document's own disk beside each other: what holds between their states; alike says so. -/
import Derived.Test.YtabddepidhfelaaR5
set_option linter.unusedSimpArgs false
namespace Go.Proofs.Ytabddepidhfelaa
open Go.RowKit

structure Sim (S : St) (R : RS) : Prop where
  n : S.n = R.n
  on : S.on = !R.off
  steps : S.steps = R.N
  pend : S.pend = R.L
  fuse1 : R.burns = true → S.fuse = R.left ∧ 0 ≤ R.left
  fuse2 : R.burns = false → S.fuse < 0
  base : ∀ j : Int, (S.base j).getD Z = (R.B j).getD Z
  now : ∀ j : Int, (S.now j).getD Z = (replay R.B R.L j).getD Z

theorem Sim.new (n : Nat) : Sim (St.new n) (RS.new n) := ⟨rfl, rfl, rfl, rfl, by simp [RS.new], by simp [St.new], fun _ => rfl, fun _ => rfl⟩
theorem Sim.reach {S : St} {R : RS} (h : Sim S R) (i : Int) : S.reach i = R.reach i := by
  unfold St.reach RS.reach
  rw [h.on, h.n]
  cases R.off <;> simp
theorem Sim.falls {S : St} {R : RS} (h : Sim S R) : R.falls ↔ S.fuse = 0 := by
  unfold RS.falls
  cases hb : R.burns with
  | true => rw [(h.fuse1 hb).1]; simp
  | false => have := h.fuse2 hb; simp; omega
theorem Sim.fallen {S : St} {R : RS} (h : Sim S R) : Sim S.fallen R.fallen := ⟨h.n, rfl, h.steps, h.pend, by simp [RS.fallen], by simp [St.fallen], h.base, h.now⟩
theorem Sim.fused {S : St} {R : RS} (h : Sim S R) (n : Int) : Sim (S.fused n) (R.fused n) := by
  unfold St.fused RS.fused
  rw [h.on]
  cases ho : R.off with
  | true => simp; exact h
  | false =>
    simp
    refine ⟨h.n, by simp [h.on, ho], h.steps, h.pend, ?_, ?_, h.base, h.now⟩
    · intro hb; simp at hb; exact ⟨rfl, hb⟩
    · intro hb; simp at hb; exact hb
theorem Sim.stepF {S : St} {R : RS} (h : Sim S R) (hf : S.fuse ≠ 0) : (R.stepped.burns = true → S.stepped.fuse = R.stepped.left ∧ 0 ≤ R.stepped.left) ∧ (R.stepped.burns = false → S.stepped.fuse < 0) := by
  unfold RS.stepped St.stepped
  simp only
  constructor
  · intro hb
    obtain ⟨h1, h2⟩ := h.fuse1 hb
    rw [if_pos (by omega)]
    simp only [hb, if_true]
    omega
  · intro hb
    have := h.fuse2 hb
    rw [if_neg (by omega)]
    exact this
theorem replay_snoc (B : Int → Option (Array Value)) (l : List (Int × Array Value)) (p : Int × Array Value) : replay B (l ++ [p]) = updF (replay B l) p.1 p.2 := by simp [replay, List.foldl_append]
theorem Sim.write {S : St} {R : RS} (h : Sim S R) (hf : S.fuse ≠ 0) (i : Int) (v : Array Value) : Sim (S.write i v) (R.written i v) := by
  have hs := h.stepF hf
  refine ⟨h.n, h.on, ?_, ?_, hs.1, hs.2, fun j => ?_, fun j => ?_⟩
  · have := h.steps; simp only [St.write, St.written, St.kept, St.stepped, RS.written, RS.stepped]; omega
  · have := h.pend; simp only [St.write, St.written, St.kept, St.stepped, RS.written, RS.stepped, this]
  · rw [write_base]; exact h.base j
  · have e1 : (S.write i v).now = updF S.now i v := rfl
    have e2 : replay (R.written i v).B (R.written i v).L = updF (replay R.B R.L) i v := replay_snoc _ _ _
    rw [e1, e2]
    unfold updF
    split
    · rfl
    · exact h.now j
theorem Sim.settle {S : St} {R : RS} (h : Sim S R) (hf : S.fuse ≠ 0) : Sim S.stepped.settled (R.stepped.settled R.L) := by
  have hs := h.stepF hf
  refine ⟨h.n, h.on, ?_, rfl, hs.1, hs.2, fun j => ?_, fun j => ?_⟩
  · have := h.steps; simp only [St.settled, St.stepped, RS.settled, RS.stepped]; omega
  · simp only [St.base, St.settled, St.stepped, Option.none_or]; exact h.now j
  · exact h.now j
theorem bootF_like {b1 b2 : Int → Option (Array Value)} (h : ∀ j, (b1 j).getD Z = (b2 j).getD Z) (keep : List Int) (l : List (Int × Array Value)) : ∀ k j, (bootF b1 keep l k j).getD Z = (bootF b2 keep l k j).getD Z
  | 0, j => h j
  | k + 1, j => by
    have ih := bootF_like h keep l k
    cases hp : l[k]? with
    | none => rw [bootF_none hp, bootF_none hp]; exact ih j
    | some p =>
      rw [bootF_some hp, bootF_some hp]
      split
      · unfold updF
        split
        · rfl
        · exact ih j
      · exact ih j
theorem Sim.booted {S : St} {R : RS} (h : Sim S R) (keep : List Int) : Sim (S.booted keep) (R.booted keep) := by
  refine ⟨h.n, rfl, h.steps, rfl, by simp [RS.booted], by simp [St.booted], fun j => ?_, fun j => ?_⟩
  · simp only [St.base, St.booted, RS.booted, Option.none_or, h.pend]
    exact bootF_like h.base keep R.L _ j
  · simp only [St.booted, RS.booted, h.pend]
    exact bootF_like h.base keep R.L _ j
theorem Sim.barrier {S : St} {R : RS} (h : Sim S R) : S.doBarrier.1 = R.doBarrier.1 ∧ Sim S.doBarrier.2 R.doBarrier.2 := by
  unfold St.doBarrier RS.doBarrier
  rw [h.on]
  cases ho : R.off with
  | true => simp; exact h
  | false =>
    simp only [Bool.not_false, Bool.true_eq_false, Bool.false_eq_true, if_false]
    by_cases hf : S.fuse = 0
    · rw [if_pos hf, if_pos (h.falls.2 hf)]
      exact ⟨rfl, h.fallen⟩
    · rw [if_neg hf, if_neg (fun e => hf (h.falls.1 e))]
      exact ⟨rfl, h.settle hf⟩

section
variable {o : Oper} {a : Act} {w : World}
theorem does_call26 {x : Operand} {v u : Value} {t : TypeId} (ho : o.op = .call { callee := .value (.func 26), args := #[x], argTypes := #[t] }) (hx : a.eval x = v) (hc : Calls Try.prog 26 #[v] w fun e w' => e = .returned u ∧ w = w') : Does Try.prog o a w u w := by
  refine .inr (.inr ⟨26, #[v], ?_, hc.mono (fun e w' h => ⟨h.1, h.2.symm⟩)⟩)
  unfold execOp
  simp only [ho]
  have hf : a.eval (.func 26) = .func (.func 26) #[] #[] := rfl
  simp only [resolve, List.map_toArray, List.map_cons, List.map_nil, hx, hf, Sem.run_bind, Sem.run_pure, Result.andThen_ok]
  first | exact Try.call26 _ _ | simp [Try.call26]
theorem does_call27 {x : Operand} {v u : Value} {t : TypeId} (ho : o.op = .call { callee := .value (.func 27), args := #[x], argTypes := #[t] }) (hx : a.eval x = v) (hc : Calls Try.prog 27 #[v] w fun e w' => e = .returned u ∧ w = w') : Does Try.prog o a w u w := by
  refine .inr (.inr ⟨27, #[v], ?_, hc.mono (fun e w' h => ⟨h.1, h.2.symm⟩)⟩)
  unfold execOp
  simp only [ho]
  have hf : a.eval (.func 27) = .func (.func 27) #[] #[] := rfl
  simp only [resolve, List.map_toArray, List.map_cons, List.map_nil, hx, hf, Sem.run_bind, Sem.run_pure, Result.andThen_ok]
  first | exact Try.call27 _ _ | simp [Try.call27]
theorem does_call28 {x : Operand} {v u : Value} {t : TypeId} (ho : o.op = .call { callee := .value (.func 28), args := #[x], argTypes := #[t] }) (hx : a.eval x = v) (hc : Calls Try.prog 28 #[v] w fun e w' => e = .returned u ∧ w = w') : Does Try.prog o a w u w := by
  refine .inr (.inr ⟨28, #[v], ?_, hc.mono (fun e w' h => ⟨h.1, h.2.symm⟩)⟩)
  unfold execOp
  simp only [ho]
  have hf : a.eval (.func 28) = .func (.func 28) #[] #[] := rfl
  simp only [resolve, List.map_toArray, List.map_cons, List.map_nil, hx, hf, Sem.run_bind, Sem.run_pure, Result.andThen_ok]
  first | exact Try.call28 _ _ | simp [Try.call28]
theorem does_call40 {x : Operand} {v u : Value} {t : TypeId} (ho : o.op = .call { callee := .value (.func 40), args := #[x], argTypes := #[t] }) (hx : a.eval x = v) (hc : Calls Try.prog 40 #[v] w fun e w' => e = .returned u ∧ w = w') : Does Try.prog o a w u w := by
  refine .inr (.inr ⟨40, #[v], ?_, hc.mono (fun e w' h => ⟨h.1, h.2.symm⟩)⟩)
  unfold execOp
  simp only [ho]
  have hf : a.eval (.func 40) = .func (.func 40) #[] #[] := rfl
  simp only [resolve, List.map_toArray, List.map_cons, List.map_nil, hx, hf, Sem.run_bind, Sem.run_pure, Result.andThen_ok]
  first | exact Try.call40 _ _ | simp [Try.call40]
theorem run_field62 {x : Operand} {r k : Nat} (hk : k < 6) (ho : o.op = .fieldAddr 62 x k) (hx : a.eval x = .pointer (some ⟨r, 0, none⟩)) :
    ∀ w, (execOp a.eval o).run Try.prog w = .ok (.value (.pointer (some ⟨r, k, none⟩))) w := by
  intro w
  unfold execOp
  simp only [ho, hx]
  match k, hk with
  | 0, _ | 1, _ | 2, _ | 3, _ | 4, _ | 5, _ => go_simp
theorem run_eql_self {x y : Operand} {s : ByteArray} {t : TypeId} (ho : o.op = .binOp .eql 9 x y t) (hx : a.eval x = .string s) (hy : a.eval y = .string s) : ∀ w, (execOp a.eval o).run Try.prog w = .ok (.value (.bool true)) w := by
  intro w
  unfold execOp
  simp only [ho, hx, hy]
  go_simp
theorem run_eql_i3 {x y : Operand} {z : Int} {t : TypeId} (ho : o.op = .binOp .eql 3 x y t) (hx : a.eval x = .int .i64 z) (hy : a.eval y = .int .i64 z) : ∀ w, (execOp a.eval o).run Try.prog w = .ok (.value (.bool true)) w := by
  intro w
  unfold execOp
  simp only [ho, hx, hy]
  go_simp
theorem run_eql_i25 {x y : Operand} {z : Int} {t : TypeId} (ho : o.op = .binOp .eql 25 x y t) (hx : a.eval x = .int .i64 z) (hy : a.eval y = .int .i64 z) : ∀ w, (execOp a.eval o).run Try.prog w = .ok (.value (.bool true)) w := by
  intro w
  unfold execOp
  simp only [ho, hx, hy]
  go_simp
theorem run_eql_b4 {x y : Operand} {z : Bool} {t : TypeId} (ho : o.op = .binOp .eql 4 x y t) (hx : a.eval x = .bool z) (hy : a.eval y = .bool z) : ∀ w, (execOp a.eval o).run Try.prog w = .ok (.value (.bool true)) w := by
  intro w
  unfold execOp
  simp only [ho, hx, hy]
  cases z <;> go_simp
theorem run_str_nil {x : Operand} (ho : o.op = .convert 37 9 x) (hx : a.eval x = .slice none 0 0) : ∀ w, (execOp a.eval o).run Try.prog w = .ok (.value (.string ByteArray.empty)) w := by
  intro w
  have h : (convert 37 9 (.slice none 0 0)).run Try.prog w = .ok (.string ByteArray.empty) w := by kernel_rfl
  unfold execOp
  simp only [ho, hx, Sem.run_bind, h, Result.andThen_ok, Sem.run_pure]
theorem isAgg4 (w : World) : (isAgg 4).run Try.prog w = .ok false w := by kernel_rfl
theorem isAgg59 (w : World) : (isAgg 59).run Try.prog w = .ok false w := by kernel_rfl
theorem isAgg60 (w : World) : (isAgg 60).run Try.prog w = .ok false w := by kernel_rfl
end

theorem dAt_lat {w x : World} {b : Nat} {F : List Nat} {S : St} (h : DAt w b F S) (hx : Lat w x) : DAt x b F S := dAt_congr h (fun y hy => hx.2 y (dAt_lt h y hy))
theorem DAt.later {w w' : World} {b : Nat} {F : List Nat} {S : St} (h : DAt w b F S) (ho : Only [] w w') : DAt w' b F S := dAt_congr h (fun x hx => ho.block x (dAt_lt h x hx) (by simp))
theorem RAt.later {w w' : World} {r : Nat} {G : List Nat} {R : RS} (h : RAt w r G R) (ho : Only [] w w') : RAt w' r G R := h.congr (fun x hx => ho.block x (h.lt x hx) (by simp))

set_option maxRecDepth 100000 in
set_option maxHeartbeats 4000000 in
theorem alike_no {w : World} {b r : Nat} {F G : List Nat} {S : St} {R : RS} (hd : DAt w b F S) (hr : RAt w r G R) (hs : Sim S R) (i : Int) (hi : R.reach i ≠ 0) :
    Calls Try.prog 25 #[.pointer (some ⟨b, 0, none⟩), .pointer (some ⟨r, 0, none⟩), .int .i64 i] w fun e w' => e = .returned (.bool true) ∧ Only [] w w' := by
  have HD := Lib.hid hd
  have HR := Lib.hid hr
  have HS := Lib.hid hs
  have RD := read_no hd i (by rw [hs.reach]; exact hi)
  rw [hs.reach] at RD
  have RD := Lib.hid RD
  have RR := Lib.hid (rread_no hr i hi)
  have OW := Lib.hid (Only.refl [] w).drew
  clear hd hr hs hi
  go_enter Try.func25, Try.ntmps25
  go_wp2_with fail
  refine RD.out.mono ?_
  rintro e w' ⟨rfl, rfl⟩
  go_wp2_with fail
  refine RR.out.mono ?_
  rintro e w' ⟨rfl, rfl⟩
  clear RD RR
  go_wp2_with fail

  have dW : DAt w.drew b F S := HD.out.later OW.out
  have C1 := fun (x : World) (hx : Lat w.drew x) => on_any (dAt_lat dW hx)
  have C2 := fun (x : World) (hx : Lat w.drew x) => steps_any (dAt_lat dW hx)
  have C3 := fun (x : World) (hx : Lat w.drew x) => len_any (dAt_lat dW hx)
  have C4 := fun (x : World) (hx : Lat w.drew x) => waiting_any (dAt_lat dW hx)
  simp only [HS.out.on] at C1
  have C1 := Lib.hid C1
  simp only [HS.out.steps] at C2
  have C2 := Lib.hid C2
  simp only [HS.out.n] at C3
  have C3 := Lib.hid C3
  simp only [HS.out.pend] at C4
  have C4 := Lib.hid C4
  obtain ⟨bv, lv, rW⟩ := HR.out.later OW.out
  obtain ⟨c0, c1, c2, c3, c4, c5, fz⟩ := rW.cells
  obtain ⟨bg, bcap, rfl, _⟩ := rW.b
  obtain ⟨la, lcap, rfl⟩ : ∃ a cap, lv = .slice a R.L.length cap := by
    rcases rW.l with ⟨h1, h2⟩ | ⟨g, cap, h1, _⟩
    · exact ⟨none, 0, by rw [h1, h2]; rfl⟩
    · exact ⟨_, _, h1⟩
  clear dW rW
  refine wp_region_flow Lat [0, 1, 0, 1, 0, 0, 0, 0, 0, 0, 0, 0, 1, 0, 0, 0, 1, 0, 0, 0, 0, 0, 1, 0, 0, 0, 1, 0, 0, 0, 0, 1, 0, 0, 0, 1, 0, 0, 0, 0, 0, 1, 0, 0, 0, 1, 0, 0, 0, 0] (by kernel_rfl) (by kernel_rfl) Lat.refl Lat.trans ?_
  refine fl0 (u := .slice none 0 0) (by kernel_rfl) (fun _ => by kernel_rfl) ?_
  simp only [Act.put, List.setIfInBounds_toArray, List.set_cons_succ, List.set_cons_zero]
  refine fl1 (u := .string ByteArray.empty) (by kernel_rfl) (fun x _ => run_str_nil rfl rfl x) ?_
  refine fl0 (u := .slice none 0 0) (by kernel_rfl) (fun _ => by kernel_rfl) ?_
  simp only [Act.put, List.setIfInBounds_toArray, List.set_cons_succ, List.set_cons_zero]
  refine fl1 (u := .string ByteArray.empty) (by kernel_rfl) (fun x _ => run_str_nil rfl rfl x) ?_
  simp only [Act.put, List.setIfInBounds_toArray, List.set_cons_succ, List.set_cons_zero]
  refine fl0 (u := .bool true) (by kernel_rfl) (run_eql_self rfl rfl rfl) ?_
  simp only [Act.put, List.setIfInBounds_toArray, List.set_cons_succ, List.set_cons_zero]
  refine fl0 (u := .bool true) (by kernel_rfl) (fun _ => by kernel_rfl) ?_
  simp only [Act.put, List.setIfInBounds_toArray, List.set_cons_succ, List.set_cons_zero]
  refine fl0 (u := .int .i64 (R.reach i)) (by kernel_rfl) (fun _ => by kernel_rfl) ?_
  refine fl0 (u := .int .i64 (R.reach i)) (by kernel_rfl) (fun _ => by kernel_rfl) ?_
  simp only [Act.put, List.setIfInBounds_toArray, List.set_cons_succ, List.set_cons_zero]
  refine fl0 (u := .bool true) (by kernel_rfl) (run_eql_i25 rfl rfl rfl) ?_
  simp only [Act.put, List.setIfInBounds_toArray, List.set_cons_succ, List.set_cons_zero]
  refine fl0 (u := .bool true) (by kernel_rfl) (fun _ => by kernel_rfl) ?_
  simp only [Act.put, List.setIfInBounds_toArray, List.set_cons_succ, List.set_cons_zero]
  refine fl0 (u := .bool true) (by kernel_rfl) (fun _ => by kernel_rfl) ?_
  simp only [Act.put, List.setIfInBounds_toArray, List.set_cons_succ, List.set_cons_zero]
  refine fl0 (u := .pointer (some ⟨b, 0, none⟩)) (by kernel_rfl) (fun _ => by kernel_rfl) ?_
  simp only [Act.put, List.setIfInBounds_toArray, List.set_cons_succ, List.set_cons_zero]
  refine fl1c (u := .bool (!R.off)) (by kernel_rfl) (fun x hx => does_call28 rfl rfl (C1.out x hx)) ?_
  refine fl0 (u := .pointer (some ⟨r, 0, none⟩)) (by kernel_rfl) (fun _ => by kernel_rfl) ?_
  simp only [Act.put, List.setIfInBounds_toArray, List.set_cons_succ, List.set_cons_zero]
  refine fl0 (u := .pointer (some ⟨r, 0, none⟩)) (by kernel_rfl) (fun _ => by kernel_rfl) ?_
  simp only [Act.put, List.setIfInBounds_toArray, List.set_cons_succ, List.set_cons_zero]
  refine fl0 (u := .pointer (some ⟨r, 2, none⟩)) (by kernel_rfl) (run_field62 (by omega) rfl rfl) ?_
  simp only [Act.put, List.setIfInBounds_toArray, List.set_cons_succ, List.set_cons_zero]
  refine fl1 (u := .bool R.off) (by kernel_rfl) (fun x hx => run_load1 rfl rfl (hx.cell c2) isAgg4) ?_
  simp only [Act.put, List.setIfInBounds_toArray, List.set_cons_succ, List.set_cons_zero]
  refine fl0 (u := .bool (!R.off)) (by kernel_rfl) (fun _ => by kernel_rfl) ?_
  simp only [Act.put, List.setIfInBounds_toArray, List.set_cons_succ, List.set_cons_zero]
  refine fl0 (u := .bool true) (by kernel_rfl) (run_eql_b4 rfl rfl rfl) ?_
  simp only [Act.put, List.setIfInBounds_toArray, List.set_cons_succ, List.set_cons_zero]
  refine fl0 (u := .bool true) (by kernel_rfl) (fun _ => by kernel_rfl) ?_
  simp only [Act.put, List.setIfInBounds_toArray, List.set_cons_succ, List.set_cons_zero]
  refine fl0 (u := .bool true) (by kernel_rfl) (fun _ => by kernel_rfl) ?_
  simp only [Act.put, List.setIfInBounds_toArray, List.set_cons_succ, List.set_cons_zero]
  refine fl0 (u := .pointer (some ⟨b, 0, none⟩)) (by kernel_rfl) (fun _ => by kernel_rfl) ?_
  simp only [Act.put, List.setIfInBounds_toArray, List.set_cons_succ, List.set_cons_zero]
  refine fl1c (u := .int .i64 R.N) (by kernel_rfl) (fun x hx => does_call27 rfl rfl (C2.out x hx)) ?_
  refine fl0 (u := .pointer (some ⟨r, 0, none⟩)) (by kernel_rfl) (fun _ => by kernel_rfl) ?_
  simp only [Act.put, List.setIfInBounds_toArray, List.set_cons_succ, List.set_cons_zero]
  refine fl0 (u := .pointer (some ⟨r, 0, none⟩)) (by kernel_rfl) (fun _ => by kernel_rfl) ?_
  simp only [Act.put, List.setIfInBounds_toArray, List.set_cons_succ, List.set_cons_zero]
  refine fl0 (u := .pointer (some ⟨r, 5, none⟩)) (by kernel_rfl) (run_field62 (by omega) rfl rfl) ?_
  simp only [Act.put, List.setIfInBounds_toArray, List.set_cons_succ, List.set_cons_zero]
  refine fl1 (u := .int .i64 R.N) (by kernel_rfl) (fun x hx => run_load1 rfl rfl (hx.cell c5) isAgg3) ?_
  simp only [Act.put, List.setIfInBounds_toArray, List.set_cons_succ, List.set_cons_zero]
  refine fl0 (u := .bool true) (by kernel_rfl) (run_eql_i3 rfl rfl rfl) ?_
  simp only [Act.put, List.setIfInBounds_toArray, List.set_cons_succ, List.set_cons_zero]
  refine fl0 (u := .bool true) (by kernel_rfl) (fun _ => by kernel_rfl) ?_
  simp only [Act.put, List.setIfInBounds_toArray, List.set_cons_succ, List.set_cons_zero]
  refine fl0 (u := .bool true) (by kernel_rfl) (fun _ => by kernel_rfl) ?_
  simp only [Act.put, List.setIfInBounds_toArray, List.set_cons_succ, List.set_cons_zero]
  refine fl0 (u := .pointer (some ⟨b, 0, none⟩)) (by kernel_rfl) (fun _ => by kernel_rfl) ?_
  simp only [Act.put, List.setIfInBounds_toArray, List.set_cons_succ, List.set_cons_zero]
  refine fl1c (u := .int .i64 R.n) (by kernel_rfl) (fun x hx => does_call40 rfl rfl (C3.out x hx)) ?_
  refine fl0 (u := .pointer (some ⟨r, 0, none⟩)) (by kernel_rfl) (fun _ => by kernel_rfl) ?_
  simp only [Act.put, List.setIfInBounds_toArray, List.set_cons_succ, List.set_cons_zero]
  refine fl0 (u := .pointer (some ⟨r, 0, none⟩)) (by kernel_rfl) (fun _ => by kernel_rfl) ?_
  simp only [Act.put, List.setIfInBounds_toArray, List.set_cons_succ, List.set_cons_zero]
  refine fl0 (u := .pointer (some ⟨r, 0, none⟩)) (by kernel_rfl) (run_field62 (by omega) rfl rfl) ?_
  simp only [Act.put, List.setIfInBounds_toArray, List.set_cons_succ, List.set_cons_zero]
  refine fl1 (u := .slice (some ⟨bg, 0, none⟩) R.n bcap) (by kernel_rfl) (fun x hx => run_load1 rfl rfl (hx.cell c0) isAgg59) ?_
  simp only [Act.put, List.setIfInBounds_toArray, List.set_cons_succ, List.set_cons_zero]
  refine fl0 (u := .int .i64 R.n) (by kernel_rfl) (fun _ => by kernel_rfl) ?_
  simp only [Act.put, List.setIfInBounds_toArray, List.set_cons_succ, List.set_cons_zero]
  refine fl0 (u := .bool true) (by kernel_rfl) (run_eql_i3 rfl rfl rfl) ?_
  simp only [Act.put, List.setIfInBounds_toArray, List.set_cons_succ, List.set_cons_zero]
  refine fl0 (u := .bool true) (by kernel_rfl) (fun _ => by kernel_rfl) ?_
  simp only [Act.put, List.setIfInBounds_toArray, List.set_cons_succ, List.set_cons_zero]
  refine fl0 (u := .bool true) (by kernel_rfl) (fun _ => by kernel_rfl) ?_
  simp only [Act.put, List.setIfInBounds_toArray, List.set_cons_succ, List.set_cons_zero]
  refine fl0 (u := .pointer (some ⟨b, 0, none⟩)) (by kernel_rfl) (fun _ => by kernel_rfl) ?_
  simp only [Act.put, List.setIfInBounds_toArray, List.set_cons_succ, List.set_cons_zero]
  refine fl1c (u := .int .i64 R.L.length) (by kernel_rfl) (fun x hx => does_call26 rfl rfl (C4.out x hx)) ?_
  refine fl0 (u := .pointer (some ⟨r, 0, none⟩)) (by kernel_rfl) (fun _ => by kernel_rfl) ?_
  simp only [Act.put, List.setIfInBounds_toArray, List.set_cons_succ, List.set_cons_zero]
  refine fl0 (u := .pointer (some ⟨r, 0, none⟩)) (by kernel_rfl) (fun _ => by kernel_rfl) ?_
  simp only [Act.put, List.setIfInBounds_toArray, List.set_cons_succ, List.set_cons_zero]
  refine fl0 (u := .pointer (some ⟨r, 1, none⟩)) (by kernel_rfl) (run_field62 (by omega) rfl rfl) ?_
  simp only [Act.put, List.setIfInBounds_toArray, List.set_cons_succ, List.set_cons_zero]
  refine fl1 (u := .slice la R.L.length lcap) (by kernel_rfl) (fun x hx => run_load1 rfl rfl (hx.cell c1) isAgg60) ?_
  simp only [Act.put, List.setIfInBounds_toArray, List.set_cons_succ, List.set_cons_zero]
  refine fl0 (u := .int .i64 R.L.length) (by kernel_rfl) (fun _ => by kernel_rfl) ?_
  simp only [Act.put, List.setIfInBounds_toArray, List.set_cons_succ, List.set_cons_zero]
  refine fl0 (u := .bool true) (by kernel_rfl) (run_eql_i3 rfl rfl rfl) ?_
  simp only [Act.put, List.setIfInBounds_toArray, List.set_cons_succ, List.set_cons_zero]
  refine fl0 (u := .bool true) (by kernel_rfl) (fun _ => by kernel_rfl) ?_
  simp only [Act.put, List.setIfInBounds_toArray, List.set_cons_succ, List.set_cons_zero]
  refine fl0 (u := .bool true) (by kernel_rfl) (fun _ => by kernel_rfl) ?_
  simp only [Act.put, List.setIfInBounds_toArray, List.set_cons_succ, List.set_cons_zero]
  refine flnil ?_
  clear C1 C2 C3 C4 c0 c1 c2 c3 c4 c5 fz
  go_wp2
  go_ret
  exact ⟨rfl, OW.out⟩
set_option maxRecDepth 100000 in
set_option maxHeartbeats 4000000 in
theorem alike_ok {w : World} {b r : Nat} {F G : List Nat} {S : St} {R : RS} (hd : DAt w b F S) (hr : RAt w r G R) (hs : Sim S R) (i : Int) (hi : R.reach i = 0) (hlen : R.L.length < 1000000000) :
    Calls Try.prog 25 #[.pointer (some ⟨b, 0, none⟩), .pointer (some ⟨r, 0, none⟩), .int .i64 i] w fun e w' => e = .returned (.bool true) ∧ Only [] w w' := by
  rcases R.reach_cases i with ⟨h0, e⟩ | ⟨h0, h1, e⟩ | ⟨h0, h1, h2, e⟩ | ⟨h0, h1, h2, e⟩
  · omega
  · omega
  · omega
  obtain ⟨k, rfl⟩ : ∃ k : Nat, i = k := ⟨i.toNat, by omega⟩
  have HD := Lib.hid hd
  have HR := Lib.hid hr
  have HS := Lib.hid hs
  have RD := Lib.hid (read_ok hd k (by rw [hs.reach]; exact hi))
  have oA : Only [] w (w.alloc (.cells ((S.now k).getD Z) 65)) := (Only.refl [] w).alloc _
  have RR := Lib.hid (rread_ok (hr.later oA) k h0 (by omega) hlen)
  have B1 := Lib.hid (heap_alloc_last w (.cells ((S.now k).getD Z) 65))
  have hsz : w.heap.size < (w.alloc (.cells ((S.now k).getD Z) 65)).heap.size := by simp
  clear hd hr hs hi e h0 h1 h2
  go_enter Try.func25, Try.ntmps25
  go_wp2_with fail
  refine RD.out.mono ?_
  rintro e w' ⟨rfl, rfl⟩
  clear RD
  generalize hg1 : w.heap.size = g1 at *
  generalize w.alloc (.cells ((S.now k).getD Z) 65) = W1 at *
  go_wp2_with fail
  refine RR.out.mono ?_
  rintro e w' ⟨rfl, c, hc, rfl⟩
  clear RR
  have OW := Lib.hid (oA.alloc (.cells (fullA c) 5)).drew
  have B1' := B1.out
  rw [HS.out.now k, hc] at B1'
  have B2 := Lib.hid (heap_alloc_last W1 (.cells (fullA c) 5))
  have B3 := Lib.hid ((Below.heap_alloc W1 (.cells (fullA c) 5) g1 hsz).trans B1')
  clear B1 B1' hc oA hsz hg1
  generalize W1.heap.size = g2 at *
  generalize W1.alloc (.cells (fullA c) 5) = W2 at *
  have B1 := B3
  clear B3
  go_wp2_with fail

  have dW : DAt W2.drew b F S := HD.out.later OW.out
  have C1 := fun (x : World) (hx : Lat W2.drew x) => on_any (dAt_lat dW hx)
  have C2 := fun (x : World) (hx : Lat W2.drew x) => steps_any (dAt_lat dW hx)
  have C3 := fun (x : World) (hx : Lat W2.drew x) => len_any (dAt_lat dW hx)
  have C4 := fun (x : World) (hx : Lat W2.drew x) => waiting_any (dAt_lat dW hx)
  simp only [HS.out.on] at C1
  have C1 := Lib.hid C1
  simp only [HS.out.steps] at C2
  have C2 := Lib.hid C2
  simp only [HS.out.n] at C3
  have C3 := Lib.hid C3
  simp only [HS.out.pend] at C4
  have C4 := Lib.hid C4
  obtain ⟨bv, lv, rW⟩ := HR.out.later OW.out
  obtain ⟨c0, c1, c2, c3, c4, c5, fz⟩ := rW.cells
  obtain ⟨bg, bcap, rfl, _⟩ := rW.b
  obtain ⟨la, lcap, rfl⟩ : ∃ a cap, lv = .slice a R.L.length cap := by
    rcases rW.l with ⟨h1, h2⟩ | ⟨g, cap, h1, _⟩
    · exact ⟨none, 0, by rw [h1, h2]; rfl⟩
    · exact ⟨_, _, h1⟩
  clear dW rW
  refine wp_region_flow Lat [0, 1, 0, 1, 0, 0, 0, 0, 0, 0, 0, 0, 1, 0, 0, 0, 1, 0, 0, 0, 0, 0, 1, 0, 0, 0, 1, 0, 0, 0, 0, 1, 0, 0, 0, 1, 0, 0, 0, 0, 0, 1, 0, 0, 0, 1, 0, 0, 0, 0] (by kernel_rfl) (by kernel_rfl) Lat.refl Lat.trans ?_
  refine fl0 (u := .slice (some ⟨g1, 0, none⟩) 64 64) (by kernel_rfl) (fun _ => by kernel_rfl) ?_
  simp only [Act.put, List.setIfInBounds_toArray, List.set_cons_succ, List.set_cons_zero]
  refine fl1 (u := .string (fullS c)) (by kernel_rfl) (fun x hx => run_str rfl rfl (hx.at B1.out)) ?_
  refine fl0 (u := .slice (some ⟨g2, 0, none⟩) 64 64) (by kernel_rfl) (fun _ => by kernel_rfl) ?_
  simp only [Act.put, List.setIfInBounds_toArray, List.set_cons_succ, List.set_cons_zero]
  refine fl1 (u := .string (fullS c)) (by kernel_rfl) (fun x hx => run_str rfl rfl (hx.at B2.out)) ?_
  simp only [Act.put, List.setIfInBounds_toArray, List.set_cons_succ, List.set_cons_zero]
  refine fl0 (u := .bool true) (by kernel_rfl) (run_eql_self rfl rfl rfl) ?_
  simp only [Act.put, List.setIfInBounds_toArray, List.set_cons_succ, List.set_cons_zero]
  refine fl0 (u := .bool true) (by kernel_rfl) (fun _ => by kernel_rfl) ?_
  simp only [Act.put, List.setIfInBounds_toArray, List.set_cons_succ, List.set_cons_zero]
  refine fl0 (u := .int .i64 0) (by kernel_rfl) (fun _ => by kernel_rfl) ?_
  refine fl0 (u := .int .i64 0) (by kernel_rfl) (fun _ => by kernel_rfl) ?_
  simp only [Act.put, List.setIfInBounds_toArray, List.set_cons_succ, List.set_cons_zero]
  refine fl0 (u := .bool true) (by kernel_rfl) (run_eql_i25 rfl rfl rfl) ?_
  simp only [Act.put, List.setIfInBounds_toArray, List.set_cons_succ, List.set_cons_zero]
  refine fl0 (u := .bool true) (by kernel_rfl) (fun _ => by kernel_rfl) ?_
  simp only [Act.put, List.setIfInBounds_toArray, List.set_cons_succ, List.set_cons_zero]
  refine fl0 (u := .bool true) (by kernel_rfl) (fun _ => by kernel_rfl) ?_
  simp only [Act.put, List.setIfInBounds_toArray, List.set_cons_succ, List.set_cons_zero]
  refine fl0 (u := .pointer (some ⟨b, 0, none⟩)) (by kernel_rfl) (fun _ => by kernel_rfl) ?_
  simp only [Act.put, List.setIfInBounds_toArray, List.set_cons_succ, List.set_cons_zero]
  refine fl1c (u := .bool (!R.off)) (by kernel_rfl) (fun x hx => does_call28 rfl rfl (C1.out x hx)) ?_
  refine fl0 (u := .pointer (some ⟨r, 0, none⟩)) (by kernel_rfl) (fun _ => by kernel_rfl) ?_
  simp only [Act.put, List.setIfInBounds_toArray, List.set_cons_succ, List.set_cons_zero]
  refine fl0 (u := .pointer (some ⟨r, 0, none⟩)) (by kernel_rfl) (fun _ => by kernel_rfl) ?_
  simp only [Act.put, List.setIfInBounds_toArray, List.set_cons_succ, List.set_cons_zero]
  refine fl0 (u := .pointer (some ⟨r, 2, none⟩)) (by kernel_rfl) (run_field62 (by omega) rfl rfl) ?_
  simp only [Act.put, List.setIfInBounds_toArray, List.set_cons_succ, List.set_cons_zero]
  refine fl1 (u := .bool R.off) (by kernel_rfl) (fun x hx => run_load1 rfl rfl (hx.cell c2) isAgg4) ?_
  simp only [Act.put, List.setIfInBounds_toArray, List.set_cons_succ, List.set_cons_zero]
  refine fl0 (u := .bool (!R.off)) (by kernel_rfl) (fun _ => by kernel_rfl) ?_
  simp only [Act.put, List.setIfInBounds_toArray, List.set_cons_succ, List.set_cons_zero]
  refine fl0 (u := .bool true) (by kernel_rfl) (run_eql_b4 rfl rfl rfl) ?_
  simp only [Act.put, List.setIfInBounds_toArray, List.set_cons_succ, List.set_cons_zero]
  refine fl0 (u := .bool true) (by kernel_rfl) (fun _ => by kernel_rfl) ?_
  simp only [Act.put, List.setIfInBounds_toArray, List.set_cons_succ, List.set_cons_zero]
  refine fl0 (u := .bool true) (by kernel_rfl) (fun _ => by kernel_rfl) ?_
  simp only [Act.put, List.setIfInBounds_toArray, List.set_cons_succ, List.set_cons_zero]
  refine fl0 (u := .pointer (some ⟨b, 0, none⟩)) (by kernel_rfl) (fun _ => by kernel_rfl) ?_
  simp only [Act.put, List.setIfInBounds_toArray, List.set_cons_succ, List.set_cons_zero]
  refine fl1c (u := .int .i64 R.N) (by kernel_rfl) (fun x hx => does_call27 rfl rfl (C2.out x hx)) ?_
  refine fl0 (u := .pointer (some ⟨r, 0, none⟩)) (by kernel_rfl) (fun _ => by kernel_rfl) ?_
  simp only [Act.put, List.setIfInBounds_toArray, List.set_cons_succ, List.set_cons_zero]
  refine fl0 (u := .pointer (some ⟨r, 0, none⟩)) (by kernel_rfl) (fun _ => by kernel_rfl) ?_
  simp only [Act.put, List.setIfInBounds_toArray, List.set_cons_succ, List.set_cons_zero]
  refine fl0 (u := .pointer (some ⟨r, 5, none⟩)) (by kernel_rfl) (run_field62 (by omega) rfl rfl) ?_
  simp only [Act.put, List.setIfInBounds_toArray, List.set_cons_succ, List.set_cons_zero]
  refine fl1 (u := .int .i64 R.N) (by kernel_rfl) (fun x hx => run_load1 rfl rfl (hx.cell c5) isAgg3) ?_
  simp only [Act.put, List.setIfInBounds_toArray, List.set_cons_succ, List.set_cons_zero]
  refine fl0 (u := .bool true) (by kernel_rfl) (run_eql_i3 rfl rfl rfl) ?_
  simp only [Act.put, List.setIfInBounds_toArray, List.set_cons_succ, List.set_cons_zero]
  refine fl0 (u := .bool true) (by kernel_rfl) (fun _ => by kernel_rfl) ?_
  simp only [Act.put, List.setIfInBounds_toArray, List.set_cons_succ, List.set_cons_zero]
  refine fl0 (u := .bool true) (by kernel_rfl) (fun _ => by kernel_rfl) ?_
  simp only [Act.put, List.setIfInBounds_toArray, List.set_cons_succ, List.set_cons_zero]
  refine fl0 (u := .pointer (some ⟨b, 0, none⟩)) (by kernel_rfl) (fun _ => by kernel_rfl) ?_
  simp only [Act.put, List.setIfInBounds_toArray, List.set_cons_succ, List.set_cons_zero]
  refine fl1c (u := .int .i64 R.n) (by kernel_rfl) (fun x hx => does_call40 rfl rfl (C3.out x hx)) ?_
  refine fl0 (u := .pointer (some ⟨r, 0, none⟩)) (by kernel_rfl) (fun _ => by kernel_rfl) ?_
  simp only [Act.put, List.setIfInBounds_toArray, List.set_cons_succ, List.set_cons_zero]
  refine fl0 (u := .pointer (some ⟨r, 0, none⟩)) (by kernel_rfl) (fun _ => by kernel_rfl) ?_
  simp only [Act.put, List.setIfInBounds_toArray, List.set_cons_succ, List.set_cons_zero]
  refine fl0 (u := .pointer (some ⟨r, 0, none⟩)) (by kernel_rfl) (run_field62 (by omega) rfl rfl) ?_
  simp only [Act.put, List.setIfInBounds_toArray, List.set_cons_succ, List.set_cons_zero]
  refine fl1 (u := .slice (some ⟨bg, 0, none⟩) R.n bcap) (by kernel_rfl) (fun x hx => run_load1 rfl rfl (hx.cell c0) isAgg59) ?_
  simp only [Act.put, List.setIfInBounds_toArray, List.set_cons_succ, List.set_cons_zero]
  refine fl0 (u := .int .i64 R.n) (by kernel_rfl) (fun _ => by kernel_rfl) ?_
  simp only [Act.put, List.setIfInBounds_toArray, List.set_cons_succ, List.set_cons_zero]
  refine fl0 (u := .bool true) (by kernel_rfl) (run_eql_i3 rfl rfl rfl) ?_
  simp only [Act.put, List.setIfInBounds_toArray, List.set_cons_succ, List.set_cons_zero]
  refine fl0 (u := .bool true) (by kernel_rfl) (fun _ => by kernel_rfl) ?_
  simp only [Act.put, List.setIfInBounds_toArray, List.set_cons_succ, List.set_cons_zero]
  refine fl0 (u := .bool true) (by kernel_rfl) (fun _ => by kernel_rfl) ?_
  simp only [Act.put, List.setIfInBounds_toArray, List.set_cons_succ, List.set_cons_zero]
  refine fl0 (u := .pointer (some ⟨b, 0, none⟩)) (by kernel_rfl) (fun _ => by kernel_rfl) ?_
  simp only [Act.put, List.setIfInBounds_toArray, List.set_cons_succ, List.set_cons_zero]
  refine fl1c (u := .int .i64 R.L.length) (by kernel_rfl) (fun x hx => does_call26 rfl rfl (C4.out x hx)) ?_
  refine fl0 (u := .pointer (some ⟨r, 0, none⟩)) (by kernel_rfl) (fun _ => by kernel_rfl) ?_
  simp only [Act.put, List.setIfInBounds_toArray, List.set_cons_succ, List.set_cons_zero]
  refine fl0 (u := .pointer (some ⟨r, 0, none⟩)) (by kernel_rfl) (fun _ => by kernel_rfl) ?_
  simp only [Act.put, List.setIfInBounds_toArray, List.set_cons_succ, List.set_cons_zero]
  refine fl0 (u := .pointer (some ⟨r, 1, none⟩)) (by kernel_rfl) (run_field62 (by omega) rfl rfl) ?_
  simp only [Act.put, List.setIfInBounds_toArray, List.set_cons_succ, List.set_cons_zero]
  refine fl1 (u := .slice la R.L.length lcap) (by kernel_rfl) (fun x hx => run_load1 rfl rfl (hx.cell c1) isAgg60) ?_
  simp only [Act.put, List.setIfInBounds_toArray, List.set_cons_succ, List.set_cons_zero]
  refine fl0 (u := .int .i64 R.L.length) (by kernel_rfl) (fun _ => by kernel_rfl) ?_
  simp only [Act.put, List.setIfInBounds_toArray, List.set_cons_succ, List.set_cons_zero]
  refine fl0 (u := .bool true) (by kernel_rfl) (run_eql_i3 rfl rfl rfl) ?_
  simp only [Act.put, List.setIfInBounds_toArray, List.set_cons_succ, List.set_cons_zero]
  refine fl0 (u := .bool true) (by kernel_rfl) (fun _ => by kernel_rfl) ?_
  simp only [Act.put, List.setIfInBounds_toArray, List.set_cons_succ, List.set_cons_zero]
  refine fl0 (u := .bool true) (by kernel_rfl) (fun _ => by kernel_rfl) ?_
  simp only [Act.put, List.setIfInBounds_toArray, List.set_cons_succ, List.set_cons_zero]
  refine flnil ?_
  clear C1 C2 C3 C4 c0 c1 c2 c3 c4 c5 fz
  go_wp2
  go_ret
  exact ⟨rfl, OW.out⟩
theorem alike_any {w : World} {b r : Nat} {F G : List Nat} {S : St} {R : RS} (hd : DAt w b F S) (hr : RAt w r G R) (hs : Sim S R) (i : Int) (hlen : R.L.length < 1000000000) :
    Calls Try.prog 25 #[.pointer (some ⟨b, 0, none⟩), .pointer (some ⟨r, 0, none⟩), .int .i64 i] w fun e w' => e = .returned (.bool true) ∧ Only [] w w' := by
  by_cases hi : R.reach i = 0
  · exact alike_ok hd hr hs i hi hlen
  · exact alike_no hd hr hs i hi

end Go.Proofs.Ytabddepidhfelaa
