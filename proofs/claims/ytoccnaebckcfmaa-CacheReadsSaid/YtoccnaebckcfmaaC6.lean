/- What survives and Boot do. -/
import Derived.Test.YtoccnaebckcfmaaC5
set_option linter.unusedSimpArgs false
set_option maxRecDepth 8000
namespace Go.Proofs.Ytoccnaebckcfmaa
open Go.RowKit
open Go.ChangeMaps (setBlock)

/-- A slice of ints in memory, outside the blocks F. -/
def KeepAt (w : World) (F : List Nat) (kv : Value) (keep : List Int) : Prop :=
  ∃ ad cap, kv = .slice ad keep.length cap ∧ keep.length ≤ 9223372036854775807 ∧ (keep ≠ [] → ∃ g o, ad = some ⟨g, o, none⟩ ∧ g < w.heap.size ∧ g ∉ F ∧ ∀ j z, keep[j]? = some z → w.cell? ⟨g, o + j, none⟩ = some (.int .i64 z))

theorem KeepAt.only {w w' : World} {F G : List Nat} {kv : Value} {keep : List Int} (h : KeepAt w F kv keep) (ho : Only G w w') (hG : ∀ x ∈ G, x ∈ F ∨ w.heap.size ≤ x) : KeepAt w' F kv keep := by
  obtain ⟨ad, cap, h1, h2, h3⟩ := h
  refine ⟨ad, cap, h1, h2, fun hne => ?_⟩
  obtain ⟨g, o, e1, e2, e3, e4⟩ := h3 hne
  refine ⟨g, o, e1, Nat.lt_of_lt_of_le e2 ho.size, e3, fun j z hz => ?_⟩
  rw [World.cell?_of_block (w := w) (ho.block g e2 (fun hx => by rcases hG g hx with h | h; exact e3 h; omega))]
  exact e4 j z hz

def surv (keep : List Int) (k : Nat) : Bool := !keep.isEmpty && ((keep.getD (k % keep.length) 0).tmod 2 != 0)

set_option maxHeartbeats 400000 in
theorem surv_nil (ad : Option Addr) (cap : Nat) (k : Int) (w : World) : Calls Try.prog 63 #[.slice ad 0 cap, .int .i64 k] w fun e w' => e = .returned (.bool false) ∧ w = w' := by
  go_enter Try.func63, Try.ntmps63
  go_wp2
  go_ret
  exact ⟨rfl, rfl⟩

set_option maxHeartbeats 400000 in
theorem surv_some (g o len cap k : Nat) (z : Int) (w : World) (hl : 0 < len) (hl2 : len ≤ 9223372036854775807) (hk : k ≤ 1000000000) (hc : w.cell? ⟨g, o + k % len, none⟩ = some (.int .i64 z)) :
    Calls Try.prog 63 #[.slice (some ⟨g, o, none⟩) len cap, .int .i64 k] w fun e w' => e = .returned (.bool (z.tmod 2 != 0)) ∧ w = w' := by
  have hlt : k % len < len := Nat.mod_lt _ hl
  go_enter Try.func63, Try.ntmps63
  go_wp2
  go_ret
  exact ⟨rfl, rfl⟩

theorem surv_any {w : World} {F : List Nat} {kv : Value} {keep : List Int} (h : KeepAt w F kv keep) (k : Nat) (hk : k ≤ 1000000000) :
    Calls Try.prog 63 #[kv, .int .i64 k] w fun e w' => e = .returned (.bool (surv keep k)) ∧ w = w' := by
  obtain ⟨ad, cap, rfl, h2, h3⟩ := h
  cases keep with
  | nil => exact surv_nil ad cap k w
  | cons z0 r =>
    obtain ⟨g, o, rfl, e2, e3, e4⟩ := h3 (by simp)
    have hlt : k % (z0 :: r).length < (z0 :: r).length := Nat.mod_lt _ (by simp)
    have hz := e4 (k % (z0 :: r).length) _ (List.getElem?_eq_getElem hlt)
    refine (surv_some g o (z0 :: r).length cap k _ w (by simp) h2 hk hz).mono ?_
    rintro e w' ⟨rfl, rfl⟩
    refine ⟨?_, rfl⟩
    simp only [surv, List.isEmpty_cons, Bool.not_false, Bool.true_and]
    rw [List.getD_eq_getElem?_getD, List.getElem?_eq_getElem hlt]
    rfl

def bootF (base : Int → Option (Array Value)) (keep : List Int) (pend : List (Int × Array Value)) : Nat → Int → Option (Array Value)
  | 0 => base
  | j + 1 => match pend[j]? with
    | some p => if surv keep j then updF (bootF base keep pend j) p.1 p.2 else bootF base keep pend j
    | none => bootF base keep pend j

def St.base (S : St) : Int → Option (Array Value) := fun k => (S.sure k).or (S.now k)
def St.booted (S : St) (keep : List Int) : St := { S with now := bootF S.base keep S.pend S.pend.length, sure := fun _ => none, pend := [], on := true, fuse := -1 }

theorem bootF_none {base : Int → Option (Array Value)} {keep : List Int} {pend : List (Int × Array Value)} {j : Nat} (h : pend[j]? = none) : bootF base keep pend (j + 1) = bootF base keep pend j := by
  rw [bootF, h]
theorem bootF_some {base : Int → Option (Array Value)} {keep : List Int} {pend : List (Int × Array Value)} {j : Nat} {p : Int × Array Value} (h : pend[j]? = some p) :
    bootF base keep pend (j + 1) = if surv keep j then updF (bootF base keep pend j) p.1 p.2 else bootF base keep pend j := by
  rw [bootF, h]

theorem bootF_ok {base : Int → Option (Array Value)} {keep : List Int} {pend : List (Int × Array Value)} (hb : ∀ i v, base i = some v → SecOk v) (hp : ∀ p ∈ pend, SecOk p.2) : ∀ (j : Nat) (i : Int) (v : Array Value), bootF base keep pend j i = some v → SecOk v
  | 0, i, v, h => hb i v h
  | j + 1, i, v, h => by
    have ih := bootF_ok (keep := keep) hb hp j
    cases hpj : pend[j]? with
    | none => rw [bootF_none hpj] at h; exact ih i v h
    | some p =>
      rw [bootF_some hpj] at h
      split at h
      · exact secOk_upd ih (hp p (List.mem_of_getElem? hpj)) i v h
      · exact ih i v h

theorem base_ok {S : St} (h : StOk S) : ∀ i v, S.base i = some v → SecOk v := by
  intro i v hv
  unfold St.base at hv
  cases hs : S.sure i with
  | none => rw [hs] at hv; exact h.now i v (by simpa using hv)
  | some u => rw [hs] at hv; simp at hv; subst hv; exact h.sure i u hs

theorem flat_get : ∀ (pend : List (Int × Array Value)) (k : Nat) (p : Int × Array Value) (j : Nat), (∀ q ∈ pend, SecOk q.2) → pend[k]? = some p → j < 65 → (pend.flatMap wcells)[k * 65 + j]? = (wcells p)[j]?
  | [], k, p, j, _, h, _ => by simp at h
  | q :: r, 0, p, j, hs, h, hj => by
    simp at h
    subst h
    have hl : (wcells q).length = 65 := by simp [wcells, (hs q (by simp)).1]
    rw [List.flatMap_cons, Nat.zero_mul, Nat.zero_add, List.getElem?_append_left (by rw [hl]; exact hj)]
  | q :: r, k + 1, p, j, hs, h, hj => by
    have hl : (wcells q).length = 65 := by simp [wcells, (hs q (by simp)).1]
    rw [List.flatMap_cons, List.getElem?_append_right (by rw [hl]; omega), hl, show (k + 1) * 65 + j - 65 = k * 65 + j by omega]
    exact flat_get r k p j (fun q hq => hs q (by simp [hq])) (by simpa using h) hj

/-- The k-th pending write lies in its row. -/
theorem DiskAt.pend_at {w : World} {b mn ms : Nat} {pv : Value} {S : St} (h : DiskAt w b mn ms pv S) {k : Nat} {p : Int × Array Value} (hp : S.pend[k]? = some p) :
    ∃ g cap, pv = .slice (some ⟨g, 0, none⟩) S.pend.length cap ∧ w.rangeAt g (k * 65) (wcells p) := by
  have hk : k < S.pend.length := (List.getElem?_eq_some_iff.1 hp).1
  rcases h.pend.2 with ⟨_, h2⟩ | ⟨g, cap, cur, hv, _, hh, h3, h4, h5, h6⟩
  · omega
  · refine ⟨g, cap, hv, fun j u hu => ?_⟩
    have hl : (wcells p).length = 65 := by simp [wcells, (h.ok.pend p (List.mem_of_getElem? hp)).1]
    have hj : j < 65 := by rw [← hl]; exact (List.getElem?_eq_some_iff.1 hu).1
    rw [cell_of_row w g _ cur _ _ hh, ← Array.getElem?_toList]
    have h7 := flat_get S.pend k p j h.ok.pend hp hj
    rw [← h6, List.getElem?_take_of_lt (by have : (k + 1) * 65 ≤ S.pend.length * 65 := Nat.mul_le_mul_right _ hk; omega)] at h7
    rw [h7]
    exact hu

section
variable {ops : Array Oper} {rest : List Oper} {o : Oper} {a : Act} {Q : Exit → Act → World → Prop} {w : World}

theorem wpL_alloc90 (hg : o.guard = none) (ho : o.op = .alloc 96) (h : wpList Try.prog ops Q rest (a.put o.dst (.pointer (some ⟨w.heap.size, 0, none⟩))) (w.alloc (.cells (#[.int .i64 0] ++ Z) 96))) : wpList Try.prog ops Q (o :: rest) a w := by
  refine wpL_value hg ?_ h
  unfold execOp
  rw [ho]
  simp only [Instr.alloc, Sem.run_bind, zero90, Result.andThen, newVar, newRow, Value.cells]
  rfl
theorem wpL_store90 {c c' : Array Value} {x y : Operand} (hg : o.guard = none) (ho : o.op = .store 96 x y) (hx : a.eval x = .pointer (some ⟨w.heap.size, 0, none⟩)) (hy : a.eval y = .agg c') (hc : c.size = 65) (hc' : c'.size = 65) (h1 : c'.all (·.oneCell') = true)
    (h : wpList Try.prog ops Q rest (a.put o.dst undef) (w.alloc (.cells c' 96))) : wpList Try.prog ops Q (o :: rest) a (w.alloc (.cells c 96)) := by
  refine wpL_skip hg ?_ h
  unfold execOp
  rw [ho]
  simp only [hx, hy, Sem.run_bind, run_storeAt_new (P := Try.prog) w 96 c c' (by rw [info90, hc']) (by rw [hc, hc']) h1, Result.andThen]
  rfl
theorem run_load90 {x : Operand} {g k : Nat} {p : Int × Array Value} (ho : o.op = .load 96 x) (hx : a.eval x = .pointer (some ⟨g, k, none⟩)) (hr : w.rangeAt g k (wcells p)) (hp : SecOk p.2) :
    (execOp a.eval o).run Try.prog w = .ok (.value (.agg (wcells p).toArray)) w := by
  have hl : (wcells p).length = 65 := by simp [wcells, hp.1]
  unfold execOp
  simp only [ho, hx, Instr.loadAt, Instr.sureAddr, Sem.run_bind, Sem.run_pure, Result.andThen_ok, run_loadVar_mid (P := Try.prog) w g k 96 (wcells p) _ hr Try.underlying96 rfl (by rw [info90, hl])]
theorem run_load88m {x : Operand} {g k : Nat} {v : Array Value} (ho : o.op = .load 93 x) (hx : a.eval x = .pointer (some ⟨g, k, none⟩)) (hr : w.rangeAt g k v.toList) (hv : v.size = 64) :
    (execOp a.eval o).run Try.prog w = .ok (.value (.agg v)) w := by
  unfold execOp
  simp only [ho, hx, Instr.loadAt, Instr.sureAddr, Sem.run_bind, Sem.run_pure, Result.andThen_ok, run_loadVar_mid (P := Try.prog) w g k 93 v.toList _ hr Try.underlying93 rfl (by rw [info88]; simp [hv]), Array.toArray_toList]
end

theorem DiskAt.nowSet {w w' : World} {b mn ms : Nat} {pv : Value} {S : St} (h : DiskAt w b mn ms pv S) {g : Int → Option (Array Value)} (hm : MapAt w' mn g) (ho : Only [mn] w w') (hg : ∀ i v, g i = some v → SecOk v) : DiskAt w' b mn ms pv { S with now := g } := by
  have lt := diskAt_lt h
  refine ⟨?_, hm, ?_, ?_, h.ne, ⟨h.ok.n0, h.ok.n1, h.ok.s0, h.ok.f1, hg, h.ok.sure, h.ok.pend⟩⟩
  · rw [ho.block b (lt b (by simp [foot])) (by simpa using h.ne_now)]; exact h.row
  · exact mapAt_congr h.sure (ho.block ms (lt ms (by simp [foot])) (by simpa using h.ne.symm))
  · exact ownsRow_congr h.pend (fun g hg => ho.block g (lt g (by simp [foot, hg])) (by simpa using (h.ne_pend hg).2.1))

def St.boots (S : St) (keep : List Int) (k : Nat) : St := { S with now := bootF S.base keep S.pend k }

set_option maxHeartbeats 1000000 in
theorem boot_any {w : World} {b : Nat} {F : List Nat} {S : St} {kv : Value} {keep : List Int} (h : DAt w b F S) (hk : KeepAt w F kv keep) (hp : S.pend.length < 1000000000) :
    Calls Try.prog 32 #[.pointer (some ⟨b, 0, none⟩), kv] w fun e w' => e = .returned (.tuple #[]) ∧ DPost w w' b F (S.booted keep) := by
  obtain ⟨mn, ms, pv, h, rfl⟩ := h
  obtain ⟨c0, c1, c2, c3, c4, c5, c6, fz⟩ := h.cells
  have CP := copy_any (mapAt_congr (w' := w.drew) h.now rfl) (mapAt_congr (w' := w.drew) h.sure rfl) h.ne h.ok.sure
  have CPH := Lib.hid CP
  clear CP
  go_enter Try.func32, Try.ntmps32
  go_wp2_with fail
  refine wp_region_still_tail 8 (by kernel_rfl) (by kernel_rfl) ?_
  change wpStill Try.prog _ (World.drew _) _ _ _
  simp only [List.take_succ_cons, List.take_zero, List.drop_succ_cons, List.drop_zero]
  repeat still_step
  refine wpStill_nil ?_
  go_wp2_with fail
  refine CPH.out.mono ?_
  rintro e w1 ⟨rfl, hnow1, o1⟩
  clear CPH c0 c1 c2 c3 c4 c5 c6 fz
  have o1 : Only [mn] w w1 := (Only.refl [mn] w).drew.trans o1 (fun x hx => .inl hx)
  have h1 : DiskAt w1 b mn ms pv (S.boots keep 0) := h.nowSet hnow1 o1 (base_ok h.ok)
  obtain ⟨pa, pcap, hpv⟩ : ∃ a cap, pv = .slice a S.pend.length cap := by
    rcases h.pend.2 with ⟨h1, h2⟩ | ⟨g, cap, cur, h1, _⟩
    · exact ⟨none, 0, by rw [h1, h2]⟩
    · exact ⟨_, _, h1⟩
  subst hpv
  have hk1 := hk.only o1 (fun x hx => by simp at hx; subst hx; exact .inl (by simp [foot]))
  have c6 := h1.cells.2.2.2.2.2.2.1
  have H := Lib.hid h
  clear h hnow1
  go_wp2_with fail
  go_loopw [20] (fun i wr => ∃ k : Nat, k ≤ S.pend.length ∧ i = .int .i64 k ∧ DiskAt wr b mn ms (.slice pa S.pend.length pcap) (S.boots keep k) ∧ Only [mn] w wr ∧ KeepAt wr (foot b mn ms (.slice pa S.pend.length pcap)) kv keep) (fun i _ => S.pend.length - (intOf i).toNat)
  case atStart => exact ⟨0, by omega, rfl, h1, o1, hk1⟩
  case round =>
    clear h1 o1 hk1 c6 hk
    obtain ⟨k, hkl, rfl, h1, o1, hk1⟩ := hrel
    by_cases hlt : k < S.pend.length
    · obtain ⟨p, hpk⟩ : ∃ p, S.pend[k]? = some p := ⟨S.pend[k], List.getElem?_eq_getElem hlt⟩
      obtain ⟨pg, cap', hpv, hrange⟩ := h1.pend_at (k := k) (p := p) hpk
      cases hpv
      have hpok : SecOk p.2 := h1.ok.pend p (List.mem_of_getElem? hpk)
      have hwc : (wcells p).length = 65 := by simp [wcells, hpok.1]
      have hone : (wcells p).toArray.all (·.oneCell') = true := by
        rw [Array.all_eq_true_iff_forall_mem]
        intro u hu
        simp only [wcells, List.mem_toArray, List.mem_cons] at hu
        rcases hu with rfl | hu
        · rfl
        · exact (Array.all_eq_true_iff_forall_mem.1 hpok.2) u (by simpa using hu)
      have HR := Lib.hid hrange
      have HPK := Lib.hid hpk
      have hka := hk1.only ((Only.refl [] wr).alloc (.cells (wcells p).toArray 96)) (by simp)
      have SV := Lib.hid (surv_any hka k (by omega))
      clear hrange hpk
      go_wp2_with (first | (refine wpL_value rfl (run_load90 rfl rfl HR.out hpok) ?_) | (refine wpL_alloc90 rfl rfl ?_) | (refine wpL_store90 rfl rfl rfl rfl rfl (by simpa using hwc) hone ?_))
      refine SV.out.mono ?_
      rintro e w' ⟨rfl, rfl⟩
      have oa : Only [] wr (wr.alloc (.cells (wcells p).toArray 96)) := (Only.refl [] wr).alloc _
      have ha : DiskAt (wr.alloc (.cells (wcells p).toArray 96)) b mn ms (.slice (some ⟨pg, 0, none⟩) S.pend.length pcap) (S.boots keep k) := diskAt_congr h1 (fun x hx => oa.block x (diskAt_lt h1 x hx) (by simp))
      have hblk := heap_alloc_last wr (.cells (wcells p).toArray 96)
      have owa : Only [mn] w (wr.alloc (.cells (wcells p).toArray 96)) := o1.alloc _
      have hszlt : w.heap.size ≤ wr.heap.size := o1.size
      generalize hg0 : wr.heap.size = g0 at *
      generalize wr.alloc (.cells (wcells p).toArray 96) = wa at *
      have HBLK := Lib.hid hblk
      clear hblk SV oa h1 hk1 o1 hg0
      cases hsv : surv keep k with
      | false =>
        have HSV := Lib.hid hsv
        clear hsv
        go_wp2
        go_roundw
        case rel =>
          refine ⟨k + 1, by omega, by go_num, ?_, owa, hka⟩
          have e : S.boots keep (k + 1) = S.boots keep k := by simp only [St.boots]; rw [bootF_some HPK.out, HSV.out]; rfl
          rw [e]
          exact ha
        case measure => simp [intOf]; omega
      | true =>
        have HSV := Lib.hid hsv
        clear hsv
        obtain ⟨c0, c1, c2, c3, c4, c5, c6, fz⟩ := ha.cells
        have hnow := ha.now
        have hr0 : wa.cell? ⟨g0, 0, none⟩ = some (.int .i64 p.1) := by rw [cell_of_row _ _ _ _ _ _ HBLK.out]; rfl
        have hr1 : wa.rangeAt g0 1 p.2.toList := fun j u hu => by
          rw [cell_of_row _ _ _ _ _ _ HBLK.out]
          simp only [wcells, List.getElem?_toArray, Nat.add_comm 1 j, List.getElem?_cons_succ]
          exact hu
        have HR1 := Lib.hid hr1
        clear hr1
        go_wp2_with fail
        refine wp_region_still_tail 8 (by kernel_rfl) (by kernel_rfl) ?_
        change wpStill Try.prog _ (World.drew _) _ _ _
        simp only [List.take_succ_cons, List.take_zero, List.drop_succ_cons, List.drop_zero]
        still_step
        still_step
        still_step
        still_step
        still_step
        still_step
        still_step
        refine wpSt_value rfl (run_load88m rfl rfl (v := p.2) (by rw [World.rangeAt_drew]; exact HR1.out) hpok.1) ?_
        refine wpStill_nil ?_
        refine wpL_update rfl rfl rfl rfl rfl (mapAt_congr (w' := wa.drew) hnow rfl) ?_
        intro ob hm
        simp only [Act.put, List.setIfInBounds_toArray, List.set_cons_succ, List.set_cons_zero]
        change wpList _ _ _ _ _ (setBlock wa.drew mn ob)
        obtain ⟨h2, o2⟩ := ha.nowUp (Only.refl [] wa).drew hm (secOk_upd ha.ok.now hpok)
        have k2 := hka.only o2 (by simp [foot])
        have o3 := owa.trans o2 (by simp)
        generalize setBlock wa.drew mn ob = wb at *
        clear hm hnow c0 c1 c2 c3 c4 c5 c6 fz hr0
        go_wp2
        go_roundw
        case rel =>
          refine ⟨k + 1, by omega, by go_num, ?_, o3, k2⟩
          have e : S.boots keep (k + 1) = { S.boots keep k with now := updF (S.boots keep k).now p.1 p.2 } := by simp only [St.boots]; rw [bootF_some HPK.out, HSV.out]; rfl
          rw [e]
          exact h2
        case measure => simp [intOf]; omega
    · have : k = S.pend.length := by omega
      subst this
      have S1 := Lib.hid (settle_any ⟨mn, ms, _, h1, rfl⟩)
      go_wp2_with fail
      refine S1.out.mono ?_
      rintro e w2 ⟨rfl, F2, d2, f2, o2⟩
      obtain ⟨mn2, ms2, pv2, h2, rfl⟩ := d2
      obtain ⟨c0, c1, c2, c3, c4, c5, c6, fz⟩ := h2.cells
      have H2 := Lib.hid h2
      clear h2 S1
      go_wp2
      go_end0
      have h2 := H2.out
      refine ⟨rfl, ?_⟩
      have o3 : Only [b] w2 ((w2.setCell ⟨b, 1, none⟩ (.bool true)).setCell ⟨b, 2, none⟩ (.int .i64 (-1))) := ((Only.refl [b] w2).setCell (by simp) _).setCell (by simp) _
      have h3 : DiskAt ((w2.setCell ⟨b, 1, none⟩ (.bool true)).setCell ⟨b, 2, none⟩ (.int .i64 (-1))) b mn2 ms2 pv2 (S.booted keep) := by
        refine h2.scalar ?_ o3 rfl rfl rfl (h2.ok.scalar rfl rfl rfl rfl h2.ok.s0 (by simp [St.booted]))
        rw [heap_setCell_row (heap_setCell_row h2.row _ _)]
        rfl
      have f1 : ∀ x ∈ [mn], x ∈ foot b mn ms (.slice pa S.pend.length pcap) := by simp [foot]
      have o12 := (o1.mono f1).trans o2 (fun x hx => .inl hx)
      refine ⟨foot b mn2 ms2 pv2, ⟨mn2, ms2, pv2, h3, rfl⟩, fun x hx => ?_, o12.trans o3 (by simp [foot])⟩
      rcases f2 x hx with h | h
      · exact .inl h
      · exact .inr (Nat.le_trans o1.size h)

end Go.Proofs.Ytoccnaebckcfmaa
