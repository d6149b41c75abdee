/- A cache, whatever blocks it has; Begin, Abort, Held, Pinned, Misses, New. fetch, Read, New. Read of a sector that is not cached; Write; New. Write. group: the transaction's writes, sorted. Commit, whatever the log does. The laws' own helpers; a cache beside other things. ground; ints. -/
import Derived.Test.YtoccnaebckcfmaaG4
section
set_option linter.unusedSimpArgs false
set_option linter.unusedVariables false
set_option maxRecDepth 8000
namespace Go.Proofs.Ytoccnaebckcfmaa
open Go.RowKit
open Go.ChangeMaps (setBlock)

/-! What the calls leave, as states. -/
theorem cutF_isSome {C : CaS} (ok : CaOk C) {K : List Int} (hK : K.Sublist C.ord) (k : Int) : (cutF C.held C.ord K k).isSome = true ↔ k ∈ K := by
  unfold cutF
  by_cases h : k ∈ C.ord ∧ k ∉ K
  · rw [if_pos h]
    simp [h.2]
  · rw [if_neg h, ok.hd]
    constructor
    · intro hk
      by_cases hkK : k ∈ K
      · exact hkK
      · exact absurd ⟨hk, hkK⟩ h
    · exact fun hk => hK.subset hk
theorem cutF_sec {C : CaS} (ok : CaOk C) {K : List Int} (k : Int) (v : Array Value) (h : cutF C.held C.ord K k = some v) : SecOk v := by
  unfold cutF at h
  split at h
  · cases h
  · exact ok.sec k v h

theorem CaOk.evict {C : CaS} (ok : CaOk C) : CaOk C.evict := by
  unfold CaS.evict
  split
  · exact ok
  · have hs := runD_sub true C.pin (excess C) C.ord
    exact ⟨ok.nd.sublist hs, cutF_isSome ok hs, cutF_sec ok, ok.pn, fun k hk => runD_pin (ok.ps k hk) hk, fun k hk => ok.rg k (hs.subset hk), ok.m0, ok.m1, ok.i0, ok.i1⟩
theorem useL_mem {l : List Int} {i x : Int} : x ∈ useL l i ↔ x ∈ l ∨ x = i := by
  unfold useL
  rw [List.mem_append, List.mem_filter]
  by_cases h : x = i
  · simp [h]
  · simp [h]
theorem useL_nodup {l : List Int} (h : l.Nodup) (i : Int) : (useL l i).Nodup := by
  unfold useL
  rw [List.nodup_append]
  refine ⟨h.sublist List.filter_sublist, by simp, fun a ha b hb e => ?_⟩
  simp at hb
  rw [List.mem_filter] at ha
  simp at ha
  exact ha.2 (e.trans hb)
/-- Behind a use of sector i with bytes v. -/
def CaS.use (C : CaS) (i : Int) (v : Array Value) : CaS := { C with ord := useL C.ord i, held := updF C.held i v }
theorem CaOk.use {C : CaS} (ok : CaOk C) {i : Int} {v : Array Value} (h0 : 0 ≤ i) (h1 : i < 8192) (hv : SecOk v) : CaOk (C.use i v) := by
  refine ⟨useL_nodup ok.nd i, fun k => ?_, fun k u hu => ?_, ok.pn, fun k hk => useL_mem.2 (.inl (ok.ps k hk)), fun k hk => ?_, ok.m0, ok.m1, ok.i0, ok.i1⟩
  · simp only [CaS.use, updF]
    rw [useL_mem]
    by_cases h : k = i
    · simp [h]
    · simp [h, ok.hd]
  · simp only [CaS.use, updF] at hu
    split at hu
    · cases hu; exact hv
    · exact ok.sec k u hu
  · rcases useL_mem.1 hk with h | h
    · exact ok.rg k h
    · omega
def CaS.abort (C : CaS) : CaS := { C with opn := false, pin := [], ord := C.ord.filter (fun x => !decide (x ∈ C.pin)), held := cutF C.held C.ord (C.ord.filter (fun x => !decide (x ∈ C.pin))) }
theorem CaOk.abort {C : CaS} (ok : CaOk C) : CaOk C.abort := by
  have hs : (C.ord.filter (fun x => !decide (x ∈ C.pin))).Sublist C.ord := List.filter_sublist
  exact ⟨ok.nd.sublist hs, cutF_isSome ok hs, cutF_sec ok, List.nodup_nil, by simp [CaS.abort], fun k hk => ok.rg k (hs.subset hk), ok.m0, ok.m1, ok.i0, ok.i1⟩
theorem CaOk.opened {C : CaS} (ok : CaOk C) (o : Bool) : CaOk { C with opn := o } := ⟨ok.nd, ok.hd, ok.sec, ok.pn, ok.ps, ok.rg, ok.m0, ok.m1, ok.i0, ok.i1⟩
theorem CaOk.ended {C : CaS} (ok : CaOk C) : CaOk { C with opn := false, pin := [] } := ⟨ok.nd, ok.hd, ok.sec, List.nodup_nil, by simp, ok.rg, ok.m0, ok.m1, ok.i0, ok.i1⟩
theorem CaOk.missed {C : CaS} (ok : CaOk C) (h : C.miss < 1000000000) : CaOk { C with miss := C.miss + 1 } := ⟨ok.nd, ok.hd, ok.sec, ok.pn, ok.ps, ok.rg, ok.m0, ok.m1, by have := ok.i0; simp only; omega, by simp only; omega⟩

/-! A cache, whatever blocks it has. -/
def CAt (w : World) (cb d wb : Nat) (F : List Nat) (C : CaS) : Prop := ∃ hm pm ov, CIs w cb d wb hm pm ov C ∧ CaOk C ∧ F = cfoot cb hm pm ov
theorem CAt.congr {w w' : World} {cb d wb : Nat} {F : List Nat} {C : CaS} (h : CAt w cb d wb F C) (he : ∀ x ∈ F, w'.heap[x]? = w.heap[x]?) : CAt w' cb d wb F C := by
  obtain ⟨hm, pm, ov, h1, ok, rfl⟩ := h
  exact ⟨hm, pm, ov, h1.congr he, ok, rfl⟩
theorem CAt.lt {w : World} {cb d wb : Nat} {F : List Nat} {C : CaS} (h : CAt w cb d wb F C) : ∀ x ∈ F, x < w.heap.size := by
  obtain ⟨hm, pm, ov, h1, ok, rfl⟩ := h
  exact h1.lt
def CPost (w w' : World) (cb d wb : Nat) (F : List Nat) (C' : CaS) : Prop := ∃ F', CAt w' cb d wb F' C' ∧ (∀ x ∈ F', x ∈ F ∨ w.heap.size ≤ x) ∧ Only F w w'
theorem CPost.mk {w w' : World} {cb d wb hm pm : Nat} {ov ov' : Value} {C' : CaS} (h : CIs w' cb d wb hm pm ov' C') (ok : CaOk C') (hg : ∀ g, ov'.ownBlock = some g → ov.ownBlock = some g ∨ w.heap.size ≤ g) (o : Only (cfoot cb hm pm ov) w w') : CPost w w' cb d wb (cfoot cb hm pm ov) C' := by
  refine ⟨_, ⟨hm, pm, ov', h, ok, rfl⟩, fun x hx => ?_, o⟩
  simp only [cfoot, List.mem_cons, Option.mem_toList] at hx ⊢
  rcases hx with h | h | h | h
  · exact .inl (.inl h)
  · exact .inl (.inr (.inl h))
  · exact .inl (.inr (.inr (.inl h)))
  · rcases hg x h with h | h
    · exact .inl (.inr (.inr (.inr h)))
    · exact .inr h
theorem CPost.trans {w w1 w2 : World} {cb d wb : Nat} {F F1 : List Nat} {C2 : CaS} (o : Only F w w1) (hF : ∀ x ∈ F1, x ∈ F ∨ w.heap.size ≤ x) (h : CPost w1 w2 cb d wb F1 C2) : CPost w w2 cb d wb F C2 := by
  obtain ⟨F2, h2, f2, o2⟩ := h
  refine ⟨F2, h2, fun x hx => ?_, o.trans o2 hF⟩
  rcases f2 x hx with h | h
  · exact hF x h
  · exact .inr (Nat.le_trans o.size h)
def CRes (cb d wb : Nat) (F : List Nat) (C : CaS) : Res := ⟨F, fun w => CAt w cb d wb F C, fun _ _ he h => h.congr he⟩
theorem Has.cache {w0 w w' : World} {cb d wb : Nat} {F : List Nat} {C C' : CaS} {Rs : List Res} (h : Has w0 w (CRes cb d wb F C :: Rs)) (hp : CPost w w' cb d wb F C') : ∃ F', Has w0 w' (CRes cb d wb F' C' :: Rs) := by
  obtain ⟨F', d, f, o⟩ := hp
  exact ⟨F', h.turn (r' := CRes cb _ wb F' C') o d (fun x hx => ⟨f x hx, d.lt x hx⟩)⟩
theorem Has.cat {w0 w : World} {cb d wb : Nat} {F : List Nat} {C : CaS} {Rs : List Res} (h : Has w0 w Rs) (hm : CRes cb d wb F C ∈ Rs) : CAt w cb d wb F C := (h.each _ hm).1

section
variable {w : World} {cb d wb : Nat} {F : List Nat} {C : CaS}

set_option maxHeartbeats 1000000 in
theorem begin_any (h : CAt w cb d wb F C) : Calls Try.prog 17 #[pp cb] w fun e w' => (C.opn = true ∧ e = .returned (.int .i64 30) ∧ w' = w) ∨ (C.opn = false ∧ e = .returned (.int .i64 0) ∧ CPost w w' cb d wb F { C with opn := true }) := by
  obtain ⟨hm, pm, ov, h1, ok, rfl⟩ := h
  obtain ⟨c0, c1, c2, c3, c4, c5, c6, c7, fz⟩ := h1.cells
  have f3 := fz 3
  have c0' : w.cell? ⟨cb, 0, none⟩ = some (.pointer (some ⟨d, 0, none⟩)) := c0
  obtain ⟨a1, a2, a3, a4⟩ := h1.apart
  have H1 := Lib.hid h1
  have OK := Lib.hid ok
  clear h1 fz c0 c1 c2 c4 c5 c6 c7 ok
  show Calls Try.prog 17 #[.pointer (some ⟨cb, 0, none⟩)] w _
  by_cases ho : C.opn = true
  · rw [ho] at c3
    go_enter Try.func17, Try.ntmps17
    go_wp2
    go_ret
    exact .inl ⟨ho, rfl, rfl⟩
  · have ho' : C.opn = false := by simpa using ho
    rw [ho'] at c3
    go_enter Try.func17, Try.ntmps17
    go_wp2
    go_ret
    have hH := H1.out
    refine .inr ⟨ho', rfl, CPost.mk (ov' := ov) ⟨?_, mapAt_congr hH.held (Below.heap_setCell _ _ _ _ (by simpa using Ne.symm a1)), mapAt_congr hH.pinned (Below.heap_setCell _ _ _ _ (by simpa using Ne.symm a2)), ownsRow_congr' hH.ord (fun g hg => Below.heap_setCell _ _ _ _ (by simpa using (a4 g hg).1)), hH.ne⟩ (OK.out.opened true) (fun g hg => .inl hg) ((Only.refl _ w).setCell (p := ⟨cb, 3, none⟩) (.inl (by simp [cfoot])) _)⟩
    rw [heap_setCell_row hH.row]
    simp [crow]

set_option maxHeartbeats 1000000 in
theorem misses_any (h : CAt w cb d wb F C) : Calls Try.prog 27 #[pp cb] w fun e w' => e = .returned (.int .i64 C.miss) ∧ w' = w := by
  obtain ⟨hm, pm, ov, h1, ok, rfl⟩ := h
  obtain ⟨c0, c1, c2, c3, c4, c5, c6, c7, fz⟩ := h1.cells
  clear h1 ok c0 c1 c2 c3 c5 c6 c7 fz
  show Calls Try.prog 27 #[.pointer (some ⟨cb, 0, none⟩)] w _
  go_enter Try.func27, Try.ntmps27
  go_wp2
  go_ret
  exact ⟨rfl, rfl⟩

set_option maxHeartbeats 1000000 in
theorem pinned_any (h : CAt w cb d wb F C) : Calls Try.prog 25 #[pp cb] w fun e w' => e = .returned (.int .i64 C.pin.length) ∧ w' = w := by
  obtain ⟨hm, pm, ov, h1, ok, rfl⟩ := h
  obtain ⟨c0, c1, c2, c3, c4, c5, c6, c7, fz⟩ := h1.cells
  have HM := Lib.hid h1.pinned
  have HN := Lib.hid ok.pn
  clear h1 ok c0 c1 c2 c3 c4 c5 c6 fz
  show Calls Try.prog 25 #[.pointer (some ⟨cb, 0, none⟩)] w _
  go_enter Try.func25, Try.ntmps25
  go_wp2_with (refine wpL_value rfl (run_len72 HM.out HN.out rfl rfl) ?_)
  go_ret
  exact ⟨rfl, rfl⟩

def HeldPost (l : List Int) (w : World) (e : Ending) (w' : World) : Prop := ∃ v, e = .returned v ∧ w'.ownsRow w.heap.size 3 1 v l.length (l.map (Value.int .i64)) ∧ Only [] w w'
set_option maxHeartbeats 1000000 in
theorem held_any (h : CAt w cb d wb F C) : Calls Try.prog 24 #[pp cb] w fun e w' => HeldPost C.ord w e w' := by
  obtain ⟨hm, pm, ov, h1, ok, rfl⟩ := h
  have hlen := ok.len
  have CL : Calls Try.prog 53 #[ov] w fun e w' => HeldPost C.ord w e w' := by
    rcases h1.ord.2 with ⟨e, hn⟩ | ⟨g, cap, cur, e, _, hh, q1, q2, q3, q4⟩
    · have hnil : C.ord = [] := List.eq_nil_of_length_eq_zero hn
      rw [e, hnil]
      refine (Try.slices_Clone_int_nil 0 0 w).mono ?_
      rintro e w' ⟨rfl, rfl⟩
      exact ⟨_, rfl, World.ownsRow_nil _ _ _ _, Only.refl _ _⟩
    · subst e
      refine (Try.slices_Clone_int g 0 C.ord.length cap C.ord w (Nat.le_refl _) (by omega) (h1.ordCell rfl)).mono ?_
      rintro e w' ⟨v', rfl, hr, _, hb⟩
      rw [List.take_length] at hr
      exact ⟨v', rfl, hr, ⟨hb.os, hb.tape, hb.output, hb.size, fun k hk _ => hb.block k hk⟩⟩
  obtain ⟨c0, c1, c2, c3, c4, c5, c6, c7, fz⟩ := h1.cells
  obtain ⟨oa, ocap, rfl, oc1, oc2⟩ := h1.slice
  have HC := Lib.hid CL
  clear h1 ok c0 c1 c2 c3 c4 c5 c7 fz CL
  show Calls Try.prog 24 #[.pointer (some ⟨cb, 0, none⟩)] w _
  go_enter Try.func24, Try.ntmps24
  go_wp2_with fail
  refine HC.out.mono ?_
  rintro e w' ⟨v, rfl, hr, o⟩
  have FIN : Hid (HeldPost C.ord w (.returned v) w') := (⟨v, rfl, hr, o⟩ : HeldPost C.ord w (.returned v) w')
  clear hr o HC
  go_wp2
  go_ret
  exact FIN.out

set_option maxHeartbeats 1000000 in
theorem abort_any (h : CAt w cb d wb F C) : Calls Try.prog 21 #[pp cb] w fun e w' => (C.opn = false ∧ e = .returned (.int .i64 30) ∧ w' = w) ∨ (C.opn = true ∧ e = .returned (.int .i64 0) ∧ CPost w w' cb d wb F C.abort) := by
  obtain ⟨hm, pm, ov, h1, ok, rfl⟩ := h
  obtain ⟨c0, c1, c2, c3, c4, c5, c6, c7, fz⟩ := h1.cells
  have hlen := ok.len
  have H1 := Lib.hid h1
  have OK := Lib.hid ok
  clear h1 fz c0 c1 c2 c4 c5 c6 c7 ok
  show Calls Try.prog 21 #[.pointer (some ⟨cb, 0, none⟩)] w _
  by_cases ho : C.opn = true
  · rw [ho] at c3
    have DR := Lib.hid (drop_pin H1.out OK.out.nd hlen)
    go_enter Try.func21, Try.ntmps21
    go_wp2_with fail
    refine DR.out.mono ?_
    rintro e w1 ⟨rfl, ov1, hov, h1, o1⟩
    have EN := Lib.hid (end_any h1)
    have O1 := Lib.hid o1
    clear DR h1 o1
    go_wp2_with fail
    refine EN.out.mono ?_
    rintro e w2 ⟨rfl, h2, o2⟩
    rw [runD_drop] at h2
    have FIN : Hid (CPost w w2 cb d wb (cfoot cb hm pm ov) C.abort) := CPost.mk (ov := ov) (C' := C.abort) h2 OK.out.abort (fun g hg => .inl (hov ▸ hg)) ((O1.out).trans o2 (fun x hx => .inl (by simpa [cfoot, hov] using hx)))
    clear EN h2 o2
    go_wp2
    go_ret
    exact .inr ⟨ho, rfl, FIN.out⟩
  · have ho' : C.opn = false := by simpa using ho
    rw [ho'] at c3
    go_enter Try.func21, Try.ntmps21
    go_wp2
    go_ret
    exact .inl ⟨ho', rfl, rfl⟩
end
end Go.Proofs.Ytoccnaebckcfmaa
end

section
set_option linter.unusedSimpArgs false
set_option linter.unusedVariables false
set_option maxRecDepth 8000
namespace Go.Proofs.Ytoccnaebckcfmaa
open Go.RowKit
open Go.ChangeMaps (setBlock)

section
variable {ops : Array Oper} {rest : List Oper} {o : Oper} {a : Act} {Q : Exit → Act → World → Prop} {w : World}
/-- 'copy(s[:], b)' into a sector of one's own. -/
theorem wpL_copyG {c v : Array Value} {t : TypeId} {g : Nat} {x y : Operand} {ad : Addr} {cap : Nat} (hg : o.guard = none) (ho : o.op = .call { callee := .builtin .copy, args := #[x, y], argTypes := #[34, 34] })
    (hx : a.eval x = .slice (some ⟨g, 0, none⟩) 64 64) (hy : a.eval y = .slice (some ad) 64 cap) (hb : w.heap[g]? = some (.cells c t (0, 0))) (hc : c.size = 64) (hv : SecOk v) (hsrc : ∀ j u, v.toList[j]? = some u → w.cell? (ad.add j) = some u)
    (h : wpList Try.prog ops Q rest (a.put o.dst (.int .i64 64)) (w.setRow g v)) : wpList Try.prog ops Q (o :: rest) a w := by
  have hl : v.toList.length = 64 := by simpa using hv.1
  have hr := run_copy_row (P := Try.prog) w 34 34 o.type 5 g 0 64 64 ad 64 cap c t v.toList Try.underlying34 (by kernel_rfl) hb (by rw [hl]; rfl) hsrc (by rw [hl, hc]; omega) (fun u hu => (Array.all_eq_true_iff_forall_mem.1 hv.2) u (by simpa using hu))
  rw [hl] at hr
  have e : (c.toList.take 0 ++ v.toList ++ c.toList.drop (0 + 64)).toArray = v := by
    rw [List.take_zero, List.nil_append, List.drop_of_length_le (by simp [hc]), List.append_nil, Array.toArray_toList]
  rw [e] at hr
  refine wpL_value hg ?_ h
  unfold execOp
  simp only [ho, resolve, invoke, builtin, Sem.run_bind, Sem.run_pure, Result.andThen_ok, List.map_toArray, List.map_cons, List.map_nil, hx, hy, hr]
  rfl
end

set_option maxHeartbeats 1000000 in
theorem fetch_ok {w : World} {cb b : Nat} {F : List Nat} {S : St} (hc : w.cell? ⟨cb, 0, none⟩ = some (pp b)) (hd : DAt w b F S) (i : Int) (hr : S.reach i = 0) :
    Calls Try.prog 38 #[pp cb, .int .i64 i] w fun e w' => e = .returned (.tuple #[.slice (some ⟨w.heap.size, 0, none⟩) 64 64, .int .i64 0]) ∧ w' = w.alloc (.cells ((S.now i).getD Z) 93) := by
  have RD := Lib.hid (read_ok hd i hr)
  have hc' : w.cell? ⟨cb, 0, none⟩ = some (.pointer (some ⟨b, 0, none⟩)) := hc
  clear hd hc
  show Calls Try.prog 38 #[.pointer (some ⟨cb, 0, none⟩), .int .i64 i] w _
  go_enter Try.func38, Try.ntmps38
  go_wp2_with (go_at_call 33; refine RD.out.mono ?_; rintro e w' ⟨rfl, rfl⟩)
  go_ret2
  exact ⟨rfl, rfl⟩
set_option maxHeartbeats 1000000 in
theorem fetch_no {w : World} {cb b : Nat} {F : List Nat} {S : St} (hc : w.cell? ⟨cb, 0, none⟩ = some (pp b)) (hd : DAt w b F S) (i : Int) (hr : S.reach i ≠ 0) :
    Calls Try.prog 38 #[pp cb, .int .i64 i] w fun e w' => e = .returned (.tuple #[.slice none 0 0, .int .i64 (S.reach i)]) ∧ w' = w := by
  have RD := Lib.hid (read_no hd i hr)
  have hc' : w.cell? ⟨cb, 0, none⟩ = some (.pointer (some ⟨b, 0, none⟩)) := hc
  clear hd hc
  show Calls Try.prog 38 #[.pointer (some ⟨cb, 0, none⟩), .int .i64 i] w _
  go_enter Try.func38, Try.ntmps38
  go_wp2_with (go_at_call 33; refine RD.out.mono ?_; rintro e w' ⟨rfl, rfl⟩)
  go_ret2
  exact ⟨rfl, rfl⟩

/-- Behind a Read: the bytes lie in a block of the caller's. -/
def ReadPost (w : World) (cb d wb : Nat) (F : List Nat) (C' : CaS) (v : Array Value) (e : Ending) (w' : World) : Prop :=
  e = .returned (.tuple #[.slice (some ⟨w.heap.size, 0, none⟩) 64 64, .int .i64 0]) ∧ w'.heap[w.heap.size]? = some (.cells v 69 (0, 0)) ∧ ∃ F', CAt w' cb d wb F' C' ∧ (∀ x ∈ F', x ∈ F ∨ w.heap.size < x) ∧ Only F w w'

/-- The end of a Read: hold, evict. -/
theorem read_tail {w w1 w2 w3 : World} {cb d wb hm pm : Nat} {ov : Value} {C : CaS} {i : Int} {v : Array Value} {e2 e3 : Ending} (hs : w1.heap.size = w.heap.size + 1 ∨ w1.heap.size = w.heap.size + 2) (lt : ∀ x ∈ cfoot cb hm pm ov, x < w.heap.size) (o1 : Only (cfoot cb hm pm ov) w w1) (hb : w1.heap[w.heap.size]? = some (.cells v 69 (0, 0)))
    (ok : CaOk C) (h0 : 0 ≤ i) (h1 : i < 8192) (hv : SecOk v) {ov2 : Value} (hg2 : ∀ g, ov2.ownBlock = some g → ov.ownBlock = some g ∨ w1.heap.size ≤ g) (o2 : Only (cfoot cb hm pm ov) w1 w2) {ov3 : Value} (hov : ov3.ownBlock = ov2.ownBlock) (h3 : CIs w3 cb d wb hm pm ov3 (C.use i v).evict) (o3 : Only (cfoot cb hm pm ov2) w2 w3) :
    ReadPost w cb d wb (cfoot cb hm pm ov) (C.use i v).evict v (.returned (.tuple #[.slice (some ⟨w.heap.size, 0, none⟩) 64 64, .int .i64 0])) w3 := by
  have n2 : w.heap.size ∉ cfoot cb hm pm ov := fun hx => by have := lt _ hx; omega
  have n3 : w.heap.size ∉ cfoot cb hm pm ov2 := fun hx => by
    simp only [cfoot, List.mem_cons, Option.mem_toList] at hx
    rcases hx with hx | hx | hx | hx
    · have := lt cb (by simp [cfoot]); omega
    · have := lt hm (by simp [cfoot]); omega
    · have := lt pm (by simp [cfoot]); omega
    · rcases hg2 _ hx with hx | hx
      · have := lt w.heap.size (by simp [cfoot, hx]); omega
      · omega
  have s2 := o2.size
  have b2 := (o2.block w.heap.size (by omega) n2).trans hb
  have b3 := (o3.block w.heap.size (by omega) n3).trans b2
  have o12 := o1.trans o2 (fun x hx => .inl hx)
  refine ⟨rfl, b3, _, ⟨hm, pm, ov3, h3, (ok.use h0 h1 hv).evict, rfl⟩, fun x hx => ?_, o12.trans o3 (fun x hx => ?_)⟩
  · simp only [cfoot, List.mem_cons, Option.mem_toList] at hx ⊢
    rcases hx with h | h | h | h
    · exact .inl (.inl h)
    · exact .inl (.inr (.inl h))
    · exact .inl (.inr (.inr (.inl h)))
    · rcases hg2 x (hov ▸ h) with h | h
      · exact .inl (.inr (.inr (.inr h)))
      · exact .inr (by omega)
  · simp only [cfoot, List.mem_cons, Option.mem_toList] at hx ⊢
    rcases hx with h | h | h | h
    · exact .inl (.inl h)
    · exact .inl (.inr (.inl h))
    · exact .inl (.inr (.inr (.inl h)))
    · rcases hg2 x h with h | h
      · exact .inl (.inr (.inr (.inr h)))
      · exact .inr (by omega)

set_option maxHeartbeats 4000000 in
theorem read_hit {w : World} {cb d wb : Nat} {F : List Nat} {C : CaS} (h : CAt w cb d wb F C) {i : Int} {v : Array Value} (hi : C.held i = some v) :
    Calls Try.prog 12 #[pp cb, .int .i64 i] w fun e w' => ReadPost w cb d wb F (C.use i v).evict v e w' := by
  obtain ⟨hm, pm, ov, h1, ok, rfl⟩ := h
  have hv := ok.sec i v hi
  have hin : i ∈ C.ord := (ok.hd i).1 (by rw [hi]; rfl)
  have hrg := ok.rg i hin
  have hlen := ok.len
  obtain ⟨c0, c1, c2, c3, c4, c5, c6, c7, fz⟩ := h1.cells
  have HM := Lib.hid h1.held
  have lt := h1.lt
  have o1 : Only [] w (w.alloc (.cells v 69)) := (Only.refl [] w).alloc _
  have hb := heap_alloc_last w (.cells v 69)
  have HO := Lib.hid (hold_any (h1.only o1 (by simp)) ok.nd hlen i v hv)
  have OK := Lib.hid ok
  have LT := Lib.hid lt
  have e1 : (C.held i).getD Z = v := by rw [hi]; rfl
  have e2 : (C.held i).isSome = true := by rw [hi]; rfl
  have HI := Lib.hid hi
  have hhs : (w.alloc (.cells v 69)).heap.size = w.heap.size + 1 := by simp
  have HHS := Lib.hid hhs
  clear h1 c0 c1 c2 c3 c4 c6 c7 fz ok lt hi hhs
  show Calls Try.prog 12 #[.pointer (some ⟨cb, 0, none⟩), .int .i64 i] w _
  go_enter Try.func12, Try.ntmps12
  go_wp2_with (first | (refine wpL_lookG Try.underlying71 zero69 rfl rfl rfl rfl HM.out ?_; simp only [if_true, e1, e2]) | (refine wpL_alloc0 zero69 rfl rfl ?_) | (refine wpL_store0 info69 (by rfl) hv.1 hv.2 rfl rfl rfl rfl ?_) | (refine wpL_value rfl (run_load69 rfl rfl hb hv.1) ?_))
  generalize w.alloc (.cells v 69) = w1 at *
  refine HO.out.mono ?_
  rintro e w2 ⟨rfl, ov2, hg2, h2, o2⟩
  have h2' : CIs w2 cb d wb hm pm ov2 (C.use i v) := h2
  have EV := Lib.hid (evict_any h2' (OK.out.use hrg.1 hrg.2 hv))
  have O2 := Lib.hid o2
  clear h2 h2' o2 HO
  go_wp2_with fail
  refine EV.out.mono ?_
  rintro e w3 ⟨rfl, ov3, hov, h3, o3⟩
  have FIN := Lib.hid (read_tail (e2 := .returned (.tuple #[])) (e3 := .returned (.tuple #[])) (.inl HHS.out) LT.out (o1.mono (by simp)) hb OK.out hrg.1 hrg.2 hv hg2 O2.out hov h3 o3)
  clear h3 o3 EV hb
  go_wp2
  go_ret2
  exact FIN.out
end Go.Proofs.Ytoccnaebckcfmaa
end

section
set_option linter.unusedSimpArgs false
set_option linter.unusedVariables false
set_option maxRecDepth 8000
namespace Go.Proofs.Ytoccnaebckcfmaa
open Go.RowKit
open Go.ChangeMaps (setBlock)

theorem CIs.setMiss {w : World} {cb d wb hm pm : Nat} {ov : Value} {C : CaS} (h : CIs w cb d wb hm pm ov C) (m : Int) : CIs (w.setCell ⟨cb, 4, none⟩ (.int .i64 m)) cb d wb hm pm ov { C with miss := m } := by
  obtain ⟨a1, a2, a3, a4⟩ := h.apart
  refine ⟨?_, mapAt_congr h.held (Below.heap_setCell _ _ _ _ (by simpa using Ne.symm a1)), mapAt_congr h.pinned (Below.heap_setCell _ _ _ _ (by simpa using Ne.symm a2)), ownsRow_congr' h.ord (fun g hg => Below.heap_setCell _ _ _ _ (by simpa using (a4 g hg).1)), h.ne⟩
  rw [heap_setCell_row h.row]
  simp [crow]

set_option maxHeartbeats 4000000 in
theorem read_miss {w : World} {cb d wb : Nat} {F FD : List Nat} {C : CaS} {S : St} (h : CAt w cb d wb F C) (hd : DAt w d FD S) {i : Int} (hi : C.held i = none) (hr : S.reach i = 0) (hm1 : C.miss < 1000000000) (hsn : S.n ≤ 8192) :
    Calls Try.prog 12 #[pp cb, .int .i64 i] w fun e w' => ReadPost w cb d wb F (({ C with miss := C.miss + 1 } : CaS).use i ((S.now i).getD Z)).evict ((S.now i).getD Z) e w' := by
  obtain ⟨hm, pm, ov, h1, ok, rfl⟩ := h
  have hv : SecOk ((S.now i).getD Z) := by
    obtain ⟨_, _, _, q, _⟩ := hd
    exact secOk_getD q.ok.now i
  have hrg : 0 ≤ i ∧ i < 8192 := by
    unfold St.reach at hr
    split at hr
    · omega
    · split at hr
      · omega
      · omega
  have hlen := ok.len
  have lt := h1.lt
  have oz : Only [] w (w.alloc (.cells Z 69)) := (Only.refl [] w).alloc _
  have hdz : DAt (w.alloc (.cells Z 69)) d FD S := dAt_congr hd (fun x hx => oz.block x (dAt_lt hd x hx) (by simp))
  have hz1 := h1.only oz (by simp)
  have FE0 := fetch_ok hz1.cells.1 hdz i hr
  simp only [World.size_alloc] at FE0
  generalize (S.now i).getD Z = v at *
  have FE := Lib.hid FE0
  have HM := Lib.hid h1.held
  obtain ⟨c0, c1, c2, c3, c4, c5, c6, c7, fz⟩ := h1.cells
  -- behind fetch
  have o2 : Only [] w ((w.alloc (.cells Z 69)).alloc (.cells v 93)) := oz.alloc _
  have hb2 : ((w.alloc (.cells Z 69)).alloc (.cells v 93)).heap[w.heap.size]? = some (.cells Z 69 (0, 0)) := by rw [Below.heap_alloc _ _ _ (by simp)]; exact heap_alloc_last w _
  have hsrc : ∀ j u, v.toList[j]? = some u → ((w.alloc (.cells Z 69)).alloc (.cells v 93)).cell? ((⟨w.heap.size + 1, 0, none⟩ : Addr).add j) = some u := fun j u hu => by
    have hq := heap_alloc_last (w.alloc (.cells Z 69)) (.cells v 93)
    rw [World.size_alloc] at hq
    rw [Addr.add_mid, Nat.zero_add, cell_of_row _ _ _ _ _ _ hq, ← Array.getElem?_toList]
    exact hu
  -- behind copy
  have o3 : Only [] w (((w.alloc (.cells Z 69)).alloc (.cells v 93)).setRow w.heap.size v) := o2.setRow (.inr (Nat.le_refl _)) _
  have h3 := h1.only o3 (by simp)
  have hb3 : (((w.alloc (.cells Z 69)).alloc (.cells v 93)).setRow w.heap.size v).heap[w.heap.size]? = some (.cells v 69 (0, 0)) := heap_setRow_same hb2
  have hs3 : (((w.alloc (.cells Z 69)).alloc (.cells v 93)).setRow w.heap.size v).heap.size = w.heap.size + 2 := by rw [size_setRow]; simp
  obtain ⟨q0, q1, q2, q3, q4, q5, q6, q7, qz⟩ := h3.cells
  have qz4 := qz 4
  have HB2 := Lib.hid hb2
  have HSRC := Lib.hid hsrc
  have i0 := ok.i0
  have e1 : (C.held i).getD Z = Z := by rw [hi]; rfl
  have e2 : (C.held i).isSome = false := by rw [hi]; rfl
  have OK := Lib.hid ok
  have LT := Lib.hid lt
  have H3 := Lib.hid h3
  have O3 := Lib.hid o3
  have HB3 := Lib.hid hb3
  have HS3 := Lib.hid hs3
  clear h1 c0 c1 c2 c3 c4 c6 c7 fz ok lt hi hd hdz hz1 FE0 o2 o3 oz h3 hb2 hb3 hs3 hsrc q0 q1 q2 q3 q5 q6 q7 qz
  show Calls Try.prog 12 #[.pointer (some ⟨cb, 0, none⟩), .int .i64 i] w _
  go_enter Try.func12, Try.ntmps12
  go_wp2_with (first | (refine wpL_lookG Try.underlying71 zero69 rfl rfl rfl rfl HM.out ?_; simp only [if_true, e1, e2]) | (refine wpL_alloc0 zero69 rfl rfl ?_) | (refine wpL_store0 info69 (by rfl) (by rfl) Z_ok.2 rfl rfl rfl rfl ?_))
  refine FE.out.mono ?_
  rintro e w2 ⟨rfl, rfl⟩
  clear FE
  generalize hW3 : ((w.alloc (.cells Z 69)).alloc (.cells v 93)).setRow w.heap.size v = w3 at *
  have h4 := H3.out.setMiss (C.miss + 1)
  have hb4 : (w3.setCell ⟨cb, 4, none⟩ (.int .i64 (C.miss + 1))).heap[w.heap.size]? = some (.cells v 69 (0, 0)) := by
    rw [Below.heap_setCell _ _ _ _ (fun e => by have := LT.out cb (by simp [cfoot]); simp only at e; omega)]
    exact HB3.out
  have hs4 : (w3.setCell ⟨cb, 4, none⟩ (.int .i64 (C.miss + 1))).heap.size = w.heap.size + 2 := by rw [World.size_setCell]; exact HS3.out
  have o4 : Only (cfoot cb hm pm ov) w (w3.setCell ⟨cb, 4, none⟩ (.int .i64 (C.miss + 1))) := (O3.out.mono (by simp)).setCell (p := ⟨cb, 4, none⟩) (.inl (by simp [cfoot])) _
  have okm := OK.out.missed hm1
  have HO := Lib.hid (hold_any h4 OK.out.nd hlen i v hv)
  have HB4 := Lib.hid hb4
  have HS4 := Lib.hid hs4
  have O4 := Lib.hid o4
  have OKM := Lib.hid okm
  clear h4 hb4 hs4 o4 okm
  go_wp2_with (first | (refine wpL_copyG rfl rfl rfl rfl HB2.out (by rfl) hv HSRC.out ?_; rw [hW3]) | (refine wpL_value rfl (run_load69 rfl rfl HB4.out hv.1) ?_))
  clear hW3
  generalize w3.setCell ⟨cb, 4, none⟩ (.int .i64 (C.miss + 1)) = w4 at *
  refine HO.out.mono ?_
  rintro e w5 ⟨rfl, ov5, hg5, h5, o5⟩
  have h5' : CIs w5 cb d wb hm pm ov5 (({ C with miss := C.miss + 1 } : CaS).use i v) := h5
  have EV := Lib.hid (evict_any h5' (OKM.out.use hrg.1 hrg.2 hv))
  have O5 := Lib.hid o5
  clear h5 h5' o5 HO
  go_wp2_with fail
  refine EV.out.mono ?_
  rintro e w6 ⟨rfl, ov6, hov, h6, o6⟩
  have FIN := Lib.hid (read_tail (e2 := .returned (.tuple #[])) (e3 := .returned (.tuple #[])) (.inr HS4.out) LT.out O4.out HB4.out OKM.out hrg.1 hrg.2 hv hg5 O5.out hov h6 o6)
  clear h6 o6 EV
  go_wp2
  go_ret2
  exact FIN.out

set_option maxHeartbeats 2000000 in
theorem read_none {w : World} {cb d wb : Nat} {F FD : List Nat} {C : CaS} {S : St} (h : CAt w cb d wb F C) (hd : DAt w d FD S) {i : Int} (hi : C.held i = none) (hr : S.reach i ≠ 0) :
    Calls Try.prog 12 #[pp cb, .int .i64 i] w fun e w' => e = .returned (.tuple #[.slice none 0 0, .int .i64 (S.reach i)]) ∧ Only [] w w' := by
  obtain ⟨hm, pm, ov, h1, ok, rfl⟩ := h
  have oz : Only [] w (w.alloc (.cells Z 69)) := (Only.refl [] w).alloc _
  have hdz : DAt (w.alloc (.cells Z 69)) d FD S := dAt_congr hd (fun x hx => oz.block x (dAt_lt hd x hx) (by simp))
  have hz1 := h1.only oz (by simp)
  have FE := Lib.hid (fetch_no hz1.cells.1 hdz i hr)
  have HM := Lib.hid h1.held
  obtain ⟨c0, c1, c2, c3, c4, c5, c6, c7, fz⟩ := h1.cells
  have e1 : (C.held i).getD Z = Z := by rw [hi]; rfl
  have e2 : (C.held i).isSome = false := by rw [hi]; rfl
  have hrb : (S.reach i != 0) = true := by simpa using hr
  clear h1 c0 c1 c2 c3 c4 c6 c7 fz ok hi hd hdz hz1 oz
  show Calls Try.prog 12 #[.pointer (some ⟨cb, 0, none⟩), .int .i64 i] w _
  go_enter Try.func12, Try.ntmps12
  go_wp2_with (first | (refine wpL_lookG Try.underlying71 zero69 rfl rfl rfl rfl HM.out ?_; simp only [if_true, e1, e2]) | (refine wpL_alloc0 zero69 rfl rfl ?_) | (refine wpL_store0 info69 (by rfl) (by rfl) Z_ok.2 rfl rfl rfl rfl ?_))
  refine FE.out.mono ?_
  rintro e w2 ⟨rfl, rfl⟩
  clear FE
  go_wp2
  go_ret2
  exact ⟨rfl, (Only.refl [] w).alloc _⟩

/-- A new cache. -/
def CaS.new (most : Int) : CaS := ⟨most, false, 0, fun _ => none, [], []⟩
theorem CaOk.new {most : Int} (h1 : 1 ≤ most) (h2 : most ≤ 9223372036854775807) : CaOk (CaS.new most) := ⟨List.nodup_nil, by simp [CaS.new], by simp [CaS.new], List.nodup_nil, by simp [CaS.new], by simp [CaS.new], h1, h2, by simp [CaS.new], by simp [CaS.new]⟩

set_option maxHeartbeats 2000000 in
theorem cnew_any (w : World) (d wb : Nat) {most : Int} (h1 : 1 ≤ most) (h2 : most ≤ 9223372036854775807) :
    Calls Try.prog 30 #[pp d, pp wb, .int .i64 most] w fun e w' => ∃ cb F, e = .returned (.tuple #[pp cb, .int .i64 0]) ∧ CAt w' cb d wb F (CaS.new most) ∧ (∀ x ∈ F, w.heap.size ≤ x) ∧ Only [] w w' := by
  show Calls Try.prog 30 #[.pointer (some ⟨d, 0, none⟩), .pointer (some ⟨wb, 0, none⟩), .int .i64 most] w _
  have mk1 : ∀ w, (Instr.makeMap 71 none).run Try.prog w = .ok (.map (some w.heap.size)) (w.alloc (.map #[] 0)) := fun w => by kernel_rfl
  have mk2 : ∀ w, (Instr.makeMap 72 none).run Try.prog w = .ok (.map (some w.heap.size)) (w.alloc (.map #[] 0)) := fun w => by kernel_rfl
  go_enter Try.func30, Try.ntmps30
  go_wp2
  go_ret2
  have o3 : Only [] w (((w.alloc (.map #[] 0)).alloc (.map #[] 0)).alloc (.cells #[.pointer (some ⟨d, 0, none⟩), .pointer (some ⟨wb, 0, none⟩), .int .i64 most, .bool false, .int .i64 0, .map (some w.heap.size), .slice none 0 0, .map (some (w.heap.size + 1))] 74)) := (((Only.refl [] w).alloc _).alloc _).alloc _
  have m1 : MapAt (((w.alloc (.map #[] 0)).alloc (.map #[] 0)).alloc (.cells #[.pointer (some ⟨d, 0, none⟩), .pointer (some ⟨wb, 0, none⟩), .int .i64 most, .bool false, .int .i64 0, .map (some w.heap.size), .slice none 0 0, .map (some (w.heap.size + 1))] 74)) w.heap.size (fun _ => none) := mapAt_congr (mapAt_made w) (by rw [Below.heap_alloc _ _ _ (by simp; omega), Below.heap_alloc _ _ _ (by simp)])
  have m2 : MapAt (((w.alloc (.map #[] 0)).alloc (.map #[] 0)).alloc (.cells #[.pointer (some ⟨d, 0, none⟩), .pointer (some ⟨wb, 0, none⟩), .int .i64 most, .bool false, .int .i64 0, .map (some w.heap.size), .slice none 0 0, .map (some (w.heap.size + 1))] 74)) (w.heap.size + 1) (fun _ => none) := by
    have := mapAt_made (w.alloc (.map #[] 0))
    rw [World.size_alloc] at this
    exact mapAt_congr this (by rw [Below.heap_alloc _ _ _ (by simp)])
  have b3 := heap_alloc_last ((w.alloc (.map #[] 0)).alloc (.map #[] 0)) (.cells #[.pointer (some ⟨d, 0, none⟩), .pointer (some ⟨wb, 0, none⟩), .int .i64 most, .bool false, .int .i64 0, .map (some w.heap.size), .slice none 0 0, .map (some (w.heap.size + 1))] 74)
  simp only [World.size_alloc] at b3
  refine ⟨w.heap.size + 1 + 1, cfoot (w.heap.size + 1 + 1) w.heap.size (w.heap.size + 1) (.slice none 0 0), rfl, ⟨w.heap.size, w.heap.size + 1, .slice none 0 0, ⟨b3, m1, by simp only [CaS.new, setF_nil]; exact m2, World.ownsRow_nil _ _ _ _, by omega⟩, CaOk.new h1 h2, rfl⟩, fun x hx => ?_, o3⟩
  simp [cfoot, Value.ownBlock] at hx
  omega
end Go.Proofs.Ytoccnaebckcfmaa
end

section
set_option linter.unusedSimpArgs false
set_option linter.unusedVariables false
set_option maxRecDepth 8000
namespace Go.Proofs.Ytoccnaebckcfmaa
open Go.RowKit
open Go.ChangeMaps (setBlock)

def pinL (l : List Int) (i : Int) : List Int := if i ∈ l then l else l ++ [i]
theorem pinL_mem {l : List Int} {i x : Int} : x ∈ pinL l i ↔ x ∈ l ∨ x = i := by
  unfold pinL
  split
  · rename_i h
    constructor
    · exact .inl
    · rintro (h1 | h1)
      · exact h1
      · rw [h1]; exact h
  · simp
theorem pinL_nodup {l : List Int} (h : l.Nodup) (i : Int) : (pinL l i).Nodup := by
  unfold pinL
  split
  · exact h
  · rename_i hi
    rw [List.nodup_append]
    exact ⟨h, by simp, fun a ha b hb e => by simp at hb; exact hi (hb ▸ e ▸ ha)⟩
theorem setF_pinL (l : List Int) (i : Int) : updF (setF l) i #[] = setF (pinL l i) := by
  rw [setF_add]
  funext x
  unfold setF
  simp only [pinL_mem, List.mem_append, List.mem_singleton]
def CaS.write (C : CaS) (i : Int) (v : Array Value) : CaS := { C.use i v with pin := pinL C.pin i }
theorem CaOk.write {C : CaS} (ok : CaOk C) {i : Int} {v : Array Value} (h0 : 0 ≤ i) (h1 : i < 8192) (hv : SecOk v) : CaOk (C.write i v) := by
  have ok' := ok.use h0 h1 hv
  refine ⟨ok'.nd, ok'.hd, ok'.sec, pinL_nodup ok.pn i, fun k hk => ?_, ok'.rg, ok'.m0, ok'.m1, ok'.i0, ok'.i1⟩
  rcases pinL_mem.1 hk with h | h
  · exact ok'.ps k h
  · exact useL_mem.2 (.inr h)

section
variable {w : World} {cb d wb : Nat} {F FD : List Nat} {C : CaS} {S : St}

set_option maxHeartbeats 2000000 in
theorem cwrite_closed (h : CAt w cb d wb F C) (ho : C.opn = false) (i : Int) (bv : Value) : Calls Try.prog 16 #[pp cb, .int .i64 i, bv] w fun e w' => e = .returned (.int .i64 30) ∧ w' = w := by
  obtain ⟨hm, pm, ov, h1, ok, rfl⟩ := h
  obtain ⟨c0, c1, c2, c3, c4, c5, c6, c7, fz⟩ := h1.cells
  rw [ho] at c3
  clear h1 ok c0 c1 c2 c4 c5 c6 c7 fz
  show Calls Try.prog 16 #[.pointer (some ⟨cb, 0, none⟩), .int .i64 i, bv] w _
  go_enter Try.func16, Try.ntmps16
  go_wp2
  go_ret
  exact ⟨rfl, rfl⟩

set_option maxHeartbeats 2000000 in
theorem cwrite_place (h : CAt w cb d wb F C) (hd : DAt w d FD S) (ho : C.opn = true) {i : Int} (hi : i < 0 ∨ S.n ≤ i) (bv : Value) : Calls Try.prog 16 #[pp cb, .int .i64 i, bv] w fun e w' => e = .returned (.int .i64 10) ∧ w' = w := by
  obtain ⟨hm, pm, ov, h1, ok, rfl⟩ := h
  obtain ⟨c0, c1, c2, c3, c4, c5, c6, c7, fz⟩ := h1.cells
  rw [ho] at c3
  have c0' : w.cell? ⟨cb, 0, none⟩ = some (.pointer (some ⟨d, 0, none⟩)) := c0
  have LE := Lib.hid (len_any hd)
  clear h1 ok c0 c1 c2 c4 c5 c6 c7 fz hd
  show Calls Try.prog 16 #[.pointer (some ⟨cb, 0, none⟩), .int .i64 i, bv] w _
  by_cases hneg : i < 0
  · clear hi
    go_enter Try.func16, Try.ntmps16
    go_wp2
    go_ret
    exact ⟨rfl, rfl⟩
  · have hge : S.n ≤ i := by omega
    clear hi
    go_enter Try.func16, Try.ntmps16
    go_wp2_with (go_at_call 45; refine LE.out.mono ?_; rintro e w' ⟨rfl, rfl⟩)
    go_ret
    exact ⟨rfl, rfl⟩

set_option maxHeartbeats 2000000 in
theorem cwrite_bytes (h : CAt w cb d wb F C) (hd : DAt w d FD S) (ho : C.opn = true) {i : Int} (h0 : 0 ≤ i) (h1 : i < S.n) {ba : Option Addr} {n cap : Nat} (hn : n ≠ 64) : Calls Try.prog 16 #[pp cb, .int .i64 i, .slice ba n cap] w fun e w' => e = .returned (.int .i64 11) ∧ w' = w := by
  obtain ⟨hm, pm, ov, h1', ok, rfl⟩ := h
  obtain ⟨c0, c1, c2, c3, c4, c5, c6, c7, fz⟩ := h1'.cells
  rw [ho] at c3
  have c0' : w.cell? ⟨cb, 0, none⟩ = some (.pointer (some ⟨d, 0, none⟩)) := c0
  have LE := Lib.hid (len_any hd)
  have hnb : ((n : Int) != 64) = true := by simp; omega
  clear h1' ok c0 c1 c2 c4 c5 c6 c7 fz hd
  show Calls Try.prog 16 #[.pointer (some ⟨cb, 0, none⟩), .int .i64 i, .slice ba n cap] w _
  go_enter Try.func16, Try.ntmps16
  go_wp2_with (go_at_call 45; refine LE.out.mono ?_; rintro e w' ⟨rfl, rfl⟩)
  go_ret
  exact ⟨rfl, rfl⟩

theorem build82 (w : World) : (Instr.build 82 #[]).run Try.prog w = .ok (.agg #[]) w := by kernel_rfl

set_option maxHeartbeats 4000000 in
theorem cwrite_ok (h : CAt w cb d wb F C) (hd : DAt w d FD S) (ho : C.opn = true) {i : Int} (h0 : 0 ≤ i) (h1 : i < S.n) (hsn : S.n ≤ 8192) {bv : Value} {v : Array Value} (hb : Bytes64 w [] bv v) : Calls Try.prog 16 #[pp cb, .int .i64 i, bv] w fun e w' => e = .returned (.int .i64 0) ∧ CPost w w' cb d wb F (C.write i v) := by
  obtain ⟨hm, pm, ov, h1', ok, rfl⟩ := h
  obtain ⟨hv, g, o, cap, rfl, hg, _, hsrc0⟩ := hb
  obtain ⟨c0, c1, c2, c3, c4, c5, c6, c7, fz⟩ := h1'.cells
  rw [ho] at c3
  have c0' : w.cell? ⟨cb, 0, none⟩ = some (.pointer (some ⟨d, 0, none⟩)) := c0
  have LE := Lib.hid (len_any hd)
  have hlen := ok.len
  have oz : Only [] w (w.alloc (.cells Z 69)) := (Only.refl [] w).alloc _
  have hbz := heap_alloc_last w (.cells Z 69)
  have hsrc : ∀ j u, v.toList[j]? = some u → (w.alloc (.cells Z 69)).cell? ((⟨g, o, none⟩ : Addr).add j) = some u := fun j u hu => by
    rw [Addr.add_mid, World.cell?_alloc_lt _ _ _ hg]
    exact hsrc0 j u hu
  have o2 : Only [] w ((w.alloc (.cells Z 69)).setRow w.heap.size v) := oz.setRow (.inr (Nat.le_refl _)) _
  have hb2 : ((w.alloc (.cells Z 69)).setRow w.heap.size v).heap[w.heap.size]? = some (.cells v 69 (0, 0)) := heap_setRow_same hbz
  have h2 := h1'.only o2 (by simp)
  have HO := Lib.hid (hold_any h2 ok.nd hlen i v hv)
  have HBZ := Lib.hid hbz
  have HSRC := Lib.hid hsrc
  have O2 := Lib.hid o2
  have HB2 := Lib.hid hb2
  have OK := Lib.hid ok
  have hbu := build82
  clear h1' ok c0 c1 c2 c4 c5 c6 c7 fz hd hsrc0 hsrc hbz hb2 h2 o2 oz
  show Calls Try.prog 16 #[.pointer (some ⟨cb, 0, none⟩), .int .i64 i, .slice (some ⟨g, o, none⟩) 64 cap] w _
  generalize hW2 : (w.alloc (.cells Z 69)).setRow w.heap.size v = w2 at *
  go_enter Try.func16, Try.ntmps16
  go_wp2_with (first | (go_at_call 45; refine LE.out.mono ?_; rintro e w' ⟨rfl, rfl⟩) | (refine wpL_alloc0 zero69 rfl rfl ?_) | (refine wpL_copyG rfl rfl rfl rfl HBZ.out (by rfl) hv HSRC.out ?_; rw [hW2]) | (refine wpL_value rfl (run_load69 rfl rfl HB2.out hv.1) ?_))
  refine HO.out.mono ?_
  rintro e w3 ⟨rfl, ov3, hg3, h3, o3⟩
  obtain ⟨-, -, -, -, -, -, -, d7, -⟩ := h3.cells
  have M3 := Lib.hid h3.pinned
  have H3 := Lib.hid h3
  have O3 := Lib.hid o3
  clear HO h3 o3 hW2
  go_wp2_with (refine wpL_update92 rfl rfl rfl rfl rfl M3.out ?_; intro ob hob)
  go_ret
  have hH := H3.out
  obtain ⟨a1, a2, a3, a4⟩ := hH.apart
  have hn : ∀ x, x ≠ pm → (setBlock w3 pm ob).heap[x]? = w3.heap[x]? := fun x hx => heap_setBlock_ne w3 pm ob hx
  rw [setF_pinL] at hob
  refine ⟨rfl, CPost.mk (ov := ov) (C' := C.write i v) (ov' := ov3) ⟨(hn cb a2).trans hH.row, mapAt_congr hH.held (hn hm a3), hob, ownsRow_congr' hH.ord (fun g hg => hn g (a4 g hg).2.2), hH.ne⟩ (OK.out.write h0 (by omega) hv) (fun g hg => ?_) (((O2.out.mono (F' := cfoot cb hm pm ov) (by simp)).trans O3.out (fun x hx => .inl hx)).setBlock (.inl (by simp [cfoot])) _)⟩
  rcases hg3 g hg with h | h
  · exact .inl h
  · exact .inr (Nat.le_trans O2.out.size h)
end
end Go.Proofs.Ytoccnaebckcfmaa
end

section
set_option linter.unusedSimpArgs false
set_option linter.unusedVariables false
set_option maxRecDepth 8000
namespace Go.Proofs.Ytoccnaebckcfmaa
open Go.RowKit
open Go.ChangeMaps (setBlock)

theorem sorted_perm (l : List Int) : (sorted l).Perm l := List.mergeSort_perm l _
theorem sorted_len (l : List Int) : (sorted l).length = l.length := (sorted_perm l).length_eq
theorem sorted_mem {l : List Int} {x : Int} : x ∈ sorted l ↔ x ∈ l := (sorted_perm l).mem_iff

/-- The writes of a transaction. -/
def putsC (C : CaS) : List (Int × Array Value) := (sorted C.pin).map (fun k => (k, (C.held k).getD Z))
theorem putsC_len (C : CaS) : (putsC C).length = C.pin.length := by simp [putsC, sorted_len]

def CGPost (FD : List Nat) (ps : List (Int × Array Value)) (w : World) (e : Ending) (w' : World) : Prop := ∃ lv, e = .returned lv ∧ PutsAt w' FD lv ps ∧ Only [] w w'

set_option maxHeartbeats 4000000 in
theorem cgroup_any {w : World} {cb d wb hm pm : Nat} {ov : Value} {C : CaS} (h : CIs w cb d wb hm pm ov C) (ok : CaOk C) {FD : List Nat} (hFD : ∀ x ∈ FD, x < w.heap.size) :
    Calls Try.prog 47 #[pp cb] w fun e w' => CGPost FD (putsC C) w e w' := by
  have hpl : C.pin.length ≤ 8192 := Nat.le_trans ok.plen ok.len
  have KE := Lib.hid (keys_any (some pm) w)
  have o1 : Only [] w (w.alloc (.cells #[.map (some pm)] 72)) := (Only.refl [] w).alloc _
  have hB : (w.alloc (.cells #[.map (some pm)] 72)).cell? ⟨w.heap.size, 0, none⟩ = some (.map (some pm)) := by rw [cell_of_row _ _ _ _ _ _ (heap_alloc_last w (.cells #[.map (some pm)] 72))]; rfl
  have SO := Lib.hid (sorted_any (Bm := w.heap.size) (mapAt_congr h.pinned (o1.block pm (mapAt_lt h.pinned) (by simp))) ok.pn (fun x hx => ok.rg x (ok.ps x hx)) hpl hB (by simp))
  obtain ⟨c0, c1, c2, c3, c4, c5, c6, c7, fz⟩ := h.cells
  have H := Lib.hid h
  have OK := Lib.hid ok
  have ltcb := h.lt cb (by simp [cfoot])
  have lthm := mapAt_lt h.held
  clear h ok c0 c1 c2 c3 c4 c5 c6 fz hB
  show Calls Try.prog 47 #[.pointer (some ⟨cb, 0, none⟩)] w _
  go_enter Try.func47, Try.ntmps47
  go_wp2_with (go_at_call 75; refine KE.out.mono ?_; rintro e w' ⟨rfl, rfl⟩)
  generalize w.alloc (.cells #[.map (some pm)] 72) = w1 at *
  refine SO.out.mono ?_
  rintro e w2 ⟨v, rfl, hr, o2⟩
  have o12 := o1.trans o2 (by simp)
  clear KE SO o1 o2
  have hpl' := putsC_len C
  rcases hr.2 with ⟨rfl, hn⟩ | ⟨g, cap, cur, rfl, _, hh, h1, h2, h3, h4⟩
  · have hnil : putsC C = [] := List.eq_nil_of_length_eq_zero (by omega)
    have O := Lib.hid o12
    clear hr o12
    go_wp2
    go_loopw [14, 3] (fun j c wr => j = .int .i64 0 ∧ c = .slice none 0 0 ∧ wr = w2) (fun _ _ _ => 0)
    case atStart => exact ⟨rfl, rfl, rfl⟩
    case round =>
      obtain ⟨rfl, rfl, rfl⟩ := hrel
      go_wp2
      go_ret
      rw [hnil]
      exact ⟨_, rfl, ⟨none, 0, rfl, by simp, by simp⟩, O.out⟩
  · have hc5 : w2.cell? ⟨cb, 5, none⟩ = some (.map (some hm)) := (World.cell?_of_block (o12.block cb ltcb (by simp))).trans H.out.cells.2.2.2.2.2.1
    have hMh := mapAt_congr H.out.held (o12.block hm lthm (by simp))
    have hcell : ∀ k x, (sorted C.pin)[k]? = some x → w2.cell? ⟨g, k, none⟩ = some (.int .i64 x) := fun k x hx => by
      have hk := (List.getElem?_eq_some_iff.1 hx).1
      rw [sorted_len] at hk
      have := congrArg (·[k]?) h4
      simp only [Nat.mul_one, List.getElem?_take_of_lt hk, List.getElem?_map, hx, Option.map_some] at this
      rw [cell_of_row _ _ _ _ _ _ hh, ← Array.getElem?_toList, this]
    have hglt := (Array.getElem?_eq_some_iff.1 hh).1
    have hcb2 := o12.size
    have HCELL := Lib.hid hcell
    have HMH := Lib.hid hMh
    have O12 := Lib.hid o12
    clear hr o12 hcell hMh hh h3 h4
    go_wp2
    go_loopw [14, 3] (fun j c wr => ∃ k : Nat, k ≤ C.pin.length ∧ j = .int .i64 k ∧ Built w2 wr FD c ((putsC C).take k) ∧ Only [] w2 wr) (fun j _ _ => C.pin.length - (RowKit.intOf j).toNat)
    case atStart => exact ⟨0, by omega, rfl, Built.nil _ _ _, Only.refl _ _⟩
    case round =>
      obtain ⟨k, hk, rfl, hbu, ow⟩ := hrel
      obtain ⟨la, lc, hc⟩ := hbu.slice
      rw [List.length_take, putsC_len, Nat.min_eq_left hk] at hc
      subst hc
      by_cases hkn : k < C.pin.length
      · obtain ⟨x, hx⟩ : ∃ x, (sorted C.pin)[k]? = some x := ⟨_, List.getElem?_eq_getElem (by rw [sorted_len]; exact hkn)⟩
        have hxp : x ∈ C.pin := sorted_mem.1 (List.mem_of_getElem? hx)
        have cx : wr.cell? ⟨g, k, none⟩ = some (.int .i64 x) := (World.cell?_of_block (ow.block g hglt (by simp))).trans (HCELL.out k x hx)
        have c5 : wr.cell? ⟨cb, 5, none⟩ = some (.map (some hm)) := (World.cell?_of_block (ow.block cb (by omega) (by simp))).trans hc5
        have hm1 := mapAt_congr HMH.out (ow.block hm (by omega) (by simp))
        have hv : SecOk ((C.held x).getD Z) := by
          cases hq : C.held x with
          | none => exact Z_ok
          | some u => exact OK.out.sec x u hq
        have htk : (putsC C).take (k + 1) = (putsC C).take k ++ [(x, (C.held x).getD Z)] := by
          rw [List.take_add_one]
          congr 1
          simp [putsC, hx]
        have hq1 := heap_alloc_last wr (.cells ((C.held x).getD Z) 69)
        have ow1 : Only [] w2 (wr.alloc (.cells ((C.held x).getD Z) 69)) := ow.alloc _
        have hs1 := ow.size
        have src : Src2 w2 (wr.alloc (.cells ((C.held x).getD Z) 69)) FD (.slice (some ⟨wr.heap.size, 0, none⟩) 64 64) ((C.held x).getD Z) :=
          ⟨hv, wr.heap.size, 0, 64, rfl, by simp, fun hx => by have := hFD _ hx; omega, fun j u hu => by rw [Nat.zero_add, cell_of_row _ _ _ _ _ _ hq1, ← Array.getElem?_toList]; exact hu, .inr ⟨_, 69, hq1, by decide⟩⟩
        obtain ⟨v4, w4, hrun, hb4, ow4, _, _⟩ := (hbu.keep ((Only.refl [] wr).alloc (.cells ((C.held x).getD Z) 69))).append ow1 (i := x) src (by rw [List.length_take]; omega) 79
        simp only [World.size_alloc] at hrun
        rw [← htk] at hb4
        have RUN := Lib.hid hrun
        have HB4 := Lib.hid hb4
        have OW4 := Lib.hid ow4
        have M1 := Lib.hid hm1
        generalize hvx : (C.held x).getD Z = vx at *
        clear hbu ow hrun hb4 ow4 src hq1 ow1 htk hm1 hc5 hs1
        go_wp2_with (first | (refine wpL_lookG Try.underlying71 zero69 rfl rfl rfl rfl M1.out ?_; simp only [Bool.false_eq_true, if_false, hvx]) | (refine wpL_alloc0 zero69 rfl rfl ?_) | (refine wpL_store0 info69 (by rfl) hv.1 hv.2 rfl rfl rfl rfl ?_) | (refine wpL_value rfl (run_builtin_append rfl rfl rfl RUN.out) ?_))
        go_roundw
        case rel => exact ⟨k + 1, by omega, by go_num, HB4.out, OW4.out⟩
        case measure => simp [RowKit.intOf]; omega
      · have hkl : k = C.pin.length := by omega
        have PU := hbu.puts (fun y hy => by have := hFD y hy; omega) (by rw [List.length_take]; omega)
        rw [List.take_of_length_le (by omega)] at PU
        have FIN : Hid (CGPost FD (putsC C) w (.returned (.slice la k lc)) wr) := (⟨_, rfl, PU, O12.out.trans ow (by simp)⟩ : CGPost FD (putsC C) w (.returned (.slice la k lc)) wr)
        clear hbu PU ow
        subst hkl
        go_wp2
        go_ret
        exact FIN.out
end Go.Proofs.Ytoccnaebckcfmaa
end

section
set_option linter.unusedSimpArgs false
set_option linter.unusedVariables false
set_option maxRecDepth 8000
namespace Go.Proofs.Ytoccnaebckcfmaa
open Go.RowKit
open Go.ChangeMaps (setBlock)

theorem isAgg55 (w : World) : (isAgg 55).run Try.prog w = .ok false w := by kernel_rfl
def CaS.committed (C : CaS) : CaS := ({ C with opn := false, pin := [] } : CaS).evict

def ComQ (w0 : World) (cb d wb : Nat) (C : CaS) (Q : Int → List Res → Prop) (e : Ending) (w' : World) : Prop :=
  ∃ (z : Int) (Rs' : List Res) (F' : List Nat), e = .returned (.int .i64 z) ∧ Q z Rs' ∧ Has w0 w' (CRes cb d wb F' (if z = 0 then C.committed else C) :: Rs')

set_option maxHeartbeats 4000000 in
theorem ccommit_any {w0 w : World} {cb d wb : Nat} {F FD : List Nat} {C : CaS} {Rs : List Res} {Q : Int → List Res → Prop} (h : Has w0 w (CRes cb d wb F C :: Rs)) (ho : C.opn = true) (hFD : ∀ x ∈ FD, x < w.heap.size)
    (hW : ∀ w1 lv, Has w0 w1 (CRes cb d wb F C :: Rs) → PutsAt w1 FD lv (putsC C) → Calls Try.prog 46 #[pp wb, lv] w1 fun e w2 => ∃ (z : Int) (Rs' : List Res), e = .returned (.int .i64 z) ∧ Q z Rs' ∧ Has w0 w2 (CRes cb d wb F C :: Rs')) :
    Calls Try.prog 19 #[pp cb] w fun e w' => ComQ w0 cb d wb C Q e w' := by
  obtain ⟨hm, pm, ov, h1, ok, hF⟩ := h.cat (cb := cb) (d := d) (wb := wb) (F := F) (C := C) (by simp)
  obtain ⟨c0, c1, c2, c3, c4, c5, c6, c7, fz⟩ := h1.cells
  rw [ho] at c3
  have GR := Lib.hid (cgroup_any (w := w.drew) (h1.congr (fun _ _ => rfl)) ok (FD := FD) hFD)
  have HW := Lib.hid h.drew
  have c1' : w.drew.cell? ⟨cb, 1, none⟩ = some (pp wb) := c1
  have OK := Lib.hid ok
  clear h1 c0 c2 c4 c5 c6 c7 fz h ok c1
  have c1 := c1'
  clear c1'
  show Calls Try.prog 19 #[.pointer (some ⟨cb, 0, none⟩)] w _
  go_enter Try.func19, Try.ntmps19
  go_wp2_with fail
  refine wp_region_flowR Lat [0, 0, 0, 1, 0, 2, 3, 0] (by kernel_rfl) (by kernel_rfl) Lat.refl Lat.trans ?_
  refine fr0 (u := .pointer (some ⟨cb, 0, none⟩)) rfl (fun _ => rfl) ?_
  simp only [Act.put, List.setIfInBounds_toArray, List.set_cons_succ, List.set_cons_zero]
  refine fr0 rfl (fun _ => rfl) ?_
  simp only [Act.put, List.setIfInBounds_toArray, List.set_cons_succ, List.set_cons_zero]
  refine fr0 rfl (run_field74 (k := 1) (by omega) rfl rfl) ?_
  simp only [Act.put, List.setIfInBounds_toArray, List.set_cons_succ, List.set_cons_zero]
  refine fr1 (u := pp wb) rfl (fun x hx => run_load1 rfl rfl (hx.cell c1) isAgg55) ?_
  simp only [Act.put, List.setIfInBounds_toArray, List.set_cons_succ, List.set_cons_zero]
  refine fr0 (u := .pointer (some ⟨cb, 0, none⟩)) rfl (fun _ => rfl) ?_
  simp only [Act.put, List.setIfInBounds_toArray, List.set_cons_succ, List.set_cons_zero]
  refine fr2c rfl (run_enter1 Try.call47 rfl rfl) GR.out ?_
  rintro e w1 ⟨lv, rfl, hpu, o1⟩
  refine ⟨_, rfl, o1.lat, ?_⟩
  simp only [Act.put, List.setIfInBounds_toArray, List.set_cons_succ, List.set_cons_zero]
  refine fr3c rfl (run_enter2 Try.call46 rfl rfl rfl) (hW w1 lv (HW.out.later o1) hpu) ?_
  rintro e w2 ⟨z, Rs2, rfl, hQ, h2⟩
  refine ⟨_, rfl, ?_⟩
  simp only [Act.put, List.setIfInBounds_toArray, List.set_cons_succ, List.set_cons_zero]
  refine fr0 (u := .int .i64 z) rfl (fun _ => rfl) ?_
  simp only [Act.put, List.setIfInBounds_toArray, List.set_cons_succ, List.set_cons_zero]
  refine frnil ?_
  show Exit.then _ _ _ _ _
  clear GR HW c1
  obtain ⟨hm2, pm2, ov2, g2, ok2, hF2⟩ := h2.cat (cb := cb) (d := d) (wb := wb) (F := F) (C := C) (by simp)
  by_cases hz : z = 0
  · subst hz
    have EN := Lib.hid (end_any g2)
    have H2 := Lib.hid h2
    clear h2 g2 hW hpu o1
    go_wp2_with fail
    refine EN.out.mono ?_
    rintro e w3 ⟨rfl, g3, o3⟩
    have EV := Lib.hid (evict_any g3 ok2.ended)
    have O3 := Lib.hid o3
    clear EN g3 o3
    go_wp2_with fail
    refine EV.out.mono ?_
    rintro e w4 ⟨rfl, ov4, hov, g4, o4⟩
    have hp : CPost w2 w4 cb d wb F C.committed := by
      rw [hF2]
      exact CPost.mk (ov := ov2) (C' := C.committed) g4 ok2.ended.evict (fun g hg => .inl (hov ▸ hg)) (O3.out.trans o4 (fun x hx => .inl hx))
    obtain ⟨F4, h4⟩ := H2.out.cache hp
    have FIN : Hid (ComQ w0 cb d wb C Q (.returned (.int .i64 0)) w4) := (⟨0, Rs2, F4, rfl, hQ, by rw [if_pos rfl]; exact h4⟩ : ComQ w0 cb d wb C Q (.returned (.int .i64 0)) w4)
    clear EV g4 o4 hp h4 H2 hQ
    go_wp2
    go_ret
    exact FIN.out
  · have hzb : (z != 0) = true := by simp [hz]
    have FIN : Hid (ComQ w0 cb d wb C Q (.returned (.int .i64 z)) w2) := (⟨z, Rs2, F, rfl, hQ, by rw [if_neg hz]; exact h2⟩ : ComQ w0 cb d wb C Q (.returned (.int .i64 z)) w2)
    clear h2 g2 hW hpu o1 hQ
    go_wp2
    go_ret
    exact FIN.out

set_option maxHeartbeats 1000000 in
theorem ccommit_closed {w : World} {cb d wb : Nat} {F : List Nat} {C : CaS} (h : CAt w cb d wb F C) (ho : C.opn = false) : Calls Try.prog 19 #[pp cb] w fun e w' => e = .returned (.int .i64 30) ∧ w' = w := by
  obtain ⟨hm, pm, ov, h1, ok, rfl⟩ := h
  obtain ⟨c0, c1, c2, c3, c4, c5, c6, c7, fz⟩ := h1.cells
  rw [ho] at c3
  clear h1 ok c0 c1 c2 c4 c5 c6 c7 fz
  show Calls Try.prog 19 #[.pointer (some ⟨cb, 0, none⟩)] w _
  go_enter Try.func19, Try.ntmps19
  go_wp2
  go_ret
  exact ⟨rfl, rfl⟩
end Go.Proofs.Ytoccnaebckcfmaa
end

section
set_option linter.unusedSimpArgs false
set_option linter.unusedVariables false
set_option maxRecDepth 8000
namespace Go.Proofs.Ytoccnaebckcfmaa
open Go.RowKit
open Go.ChangeMaps (setBlock)

theorem Has.pull {w0 w : World} {L1 L2 : List Res} {r : Res} (h : Has w0 w (L1 ++ r :: L2)) : Has w0 w (r :: (L1 ++ L2)) :=
  ⟨h.only, fun q hq => h.each q ((List.perm_middle (l₁ := L1) (l₂ := L2) (a := r)).mem_iff.2 hq), (List.perm_middle (l₁ := L1) (l₂ := L2) (a := r)).pairwise h.apart (fun hab x hx hy => hab x hy hx)⟩
theorem Has.firsts {w0 w : World} {L L2 : List Res} (h : Has w0 w (L ++ L2)) : Has w0 w L :=
  ⟨h.only, fun q hq => h.each q (List.mem_append_left _ hq), (List.pairwise_append.1 h.apart).1⟩
theorem Has.setb {w0 w : World} {g : Nat} {A : Array Value} {t : TypeId} {Rs : List Res} (h : Has w0 w (BRes g (.cells A t) :: Rs)) (j : Nat) (v : Value) : Has w0 (w.setCell ⟨g, j, none⟩ v) (BRes g (.cells (A.setIfInBounds j v) t) :: Rs) := by
  have hb : w.heap[g]? = some (.cells A t (0, 0)) := h.blk (by simp)
  refine h.turn (r' := BRes g (.cells (A.setIfInBounds j v) t)) ((Only.refl [g] w).setCell (by simp) _) (heap_setCell_row hb _ _) (fun x hx => ⟨.inl hx, ?_⟩)
  simp [BRes] at hx
  subst hx
  simpa using (Array.getElem?_eq_some_iff.1 hb).1
theorem Has.apartD {w0 w : World} {r s : Res} {Rs : List Res} (h : Has w0 w (r :: Rs)) (hs : s ∈ Rs) : ∀ x ∈ r.G, x ∉ s.G := (List.pairwise_cons.1 h.apart).1 s hs

set_option maxHeartbeats 400000 in
theorem kind_any (c n : Int) (w : World) (h0 : -9223372036854775808 ≤ c) (h1 : c ≤ 9223372036854775807) (hn : 0 < n) (hn1 : n ≤ 100) :
    Calls Try.prog 9 #[.int .i64 c, .int .i64 n] w fun e w' => e = .returned (.int .i64 (amongF c n)) ∧ w = w' := by
  by_cases hc : c < 0
  · have HK : Hid (-(c + 1).tmod n = amongF c n) := by
      show -(c + 1).tmod n = amongF c n
      rw [amongF, if_pos hc, ← Int.neg_tmod, Int.tmod_eq_emod_of_nonneg (by omega)]
    go_enter Try.func9, Try.ntmps9
    go_wp2
    go_ret
    exact ⟨ret_int HK.out, rfl⟩
  · have HK : Hid (c % n = amongF c n) := by
      show c % n = amongF c n
      rw [amongF, if_neg hc]
    go_enter Try.func9, Try.ntmps9
    go_wp2
    go_ret
    exact ⟨ret_int HK.out, rfl⟩

set_option maxHeartbeats 400000 in
theorem full1_any (c : Int) (w : World) : Calls Try.prog 14 #[.int .u8 c] w fun e w' => e = .returned (.slice (some ⟨w.heap.size, 0, none⟩) 64 64) ∧ w' = w.alloc (.cells (fullA c) 5) := by
  have hmk := make64
  go_enter Try.func14, Try.ntmps14
  go_wp2
  go_loopw [4] (fun i wr => ∃ k : Nat, k ≤ 64 ∧ i = .int .i64 k ∧ wr = w.alloc (.cells (filling c k) 5)) (fun i _ => 64 - (RowKit.intOf i).toNat)
  case atStart => exact ⟨0, by omega, rfl, rfl⟩
  case round =>
    obtain ⟨k, hk, rfl, rfl⟩ := hrel
    by_cases hlt : k < 64
    · have hcell := filling_at c k hlt
      have HS := Lib.hid (filling_step c k hlt)
      go_wp2
      go_roundw
      case rel => exact ⟨k + 1, by omega, by go_num, by rw [← HS.out]⟩
      case measure => simp [RowKit.intOf]; omega
    · have : k = 64 := by omega
      subst this
      go_wp2
      go_ret
      exact ⟨rfl, by rw [filling_end]⟩

/-! The cache's calls, beside other things. -/
section
variable {w0 w : World} {cb d wb : Nat} {F FD : List Nat} {C : CaS} {S : St} {Rs : List Res}

theorem has_cnew (h : Has w0 w Rs) (d wb : Nat) {most : Int} (h1 : 1 ≤ most) (h2 : most ≤ 9223372036854775807) :
    Calls Try.prog 30 #[pp d, pp wb, .int .i64 most] w fun e w' => ∃ cb F, e = .returned (.tuple #[pp cb, .int .i64 0]) ∧ Has w0 w' (CRes cb d wb F (CaS.new most) :: Rs) := by
  refine (cnew_any w d wb h1 h2).mono ?_
  rintro e w' ⟨cb, F, rfl, hc, hF, o⟩
  exact ⟨cb, F, rfl, h.more o (CRes cb d wb F (CaS.new most)) hc (fun x hx => ⟨hF x hx, hc.lt x hx⟩)⟩

/-- Behind a Read that was answered: the bytes lie in a block beside all. -/
theorem Has.readOk {w' : World} {C' : CaS} {v : Array Value} {e : Ending} (h : Has w0 w (CRes cb d wb F C :: Rs)) (hp : ReadPost w cb d wb F C' v e w') : ∃ F', Has w0 w' (BRes w.heap.size (.cells v 69) :: CRes cb d wb F' C' :: Rs) := by
  obtain ⟨_, hb, F', hc, hF, o⟩ := hp
  have h2 : Has w0 w' (CRes cb d wb F' C' :: Rs) := h.turn (r' := CRes cb d wb F' C') o hc (fun x hx => ⟨by rcases hF x hx with h | h; exact .inl h; exact .inr (by omega), hc.lt x hx⟩)
  have hlt := (Array.getElem?_eq_some_iff.1 hb).1
  refine ⟨F', h2.only, fun r hr => ?_, List.pairwise_cons.2 ⟨fun r hr x hx hxr => ?_, h2.apart⟩⟩
  · rcases List.mem_cons.1 hr with rfl | hr
    · exact ⟨hb, fun x hx => by simp [BRes] at hx; subst hx; exact ⟨h.only.size, hlt⟩⟩
    · exact h2.each r hr
  · simp [BRes] at hx
    subst hx
    rcases List.mem_cons.1 hr with rfl | hr
    · rcases hF _ hxr with h3 | h3
      · have := ((h.each (CRes cb d wb F C) (by simp)).2 _ h3).2
        omega
      · omega
    · have := ((h.each r (by simp [hr])).2 _ hxr).2
      omega

/-- What a Read gives, and what it leaves. -/
def CaS.got (C : CaS) (S : St) (i : Int) : Array Value := (C.held i).getD ((S.now i).getD Z)
def CaS.read (C : CaS) (S : St) (i : Int) : CaS := ((if (C.held i).isSome then C else { C with miss := C.miss + 1 } : CaS).use i (C.got S i)).evict
def CReadPost (w0 : World) (cb d wb : Nat) (FD : List Nat) (C : CaS) (S : St) (i : Int) (Rs : List Res) (e : Ending) (w' : World) : Prop :=
  (((C.held i).isSome = true ∨ S.reach i = 0) ∧ ∃ rb F', e = .returned (.tuple #[.slice (some ⟨rb, 0, none⟩) 64 64, .int .i64 0]) ∧ Has w0 w' (BRes rb (.cells (C.got S i) 69) :: CRes cb d wb F' (C.read S i) :: DRes d FD S :: Rs)) ∨
  (C.held i = none ∧ S.reach i ≠ 0 ∧ ∃ F', e = .returned (.tuple #[.slice none 0 0, .int .i64 (S.reach i)]) ∧ Has w0 w' (CRes cb d wb F' C :: DRes d FD S :: Rs))

theorem has_cread (h : Has w0 w (CRes cb d wb F C :: DRes d FD S :: Rs)) (i : Int) (hm : C.miss < 1000000000) (hsn : S.n ≤ 8192) :
    Calls Try.prog 12 #[pp cb, .int .i64 i] w fun e w' => CReadPost w0 cb d wb FD C S i Rs e w' := by
  have hc := h.cat (cb := cb) (d := d) (wb := wb) (F := F) (C := C) (by simp)
  have hd := h.swap.dat
  cases hh : C.held i with
  | some v =>
    refine (read_hit hc hh).mono fun e w' hp => ?_
    obtain ⟨F', h'⟩ := h.readOk hp
    have e1 : C.got S i = v := by unfold CaS.got; rw [hh]; rfl
    have e2 : C.read S i = (C.use i v).evict := by unfold CaS.read; rw [e1, hh]; rfl
    exact .inl ⟨.inl (by rw [hh]; rfl), _, F', hp.1, by rw [e1, e2]; exact h'⟩
  | none =>
    by_cases hr : S.reach i = 0
    · refine (read_miss hc hd hh hr hm hsn).mono fun e w' hp => ?_
      obtain ⟨F', h'⟩ := h.readOk hp
      have e1 : C.got S i = (S.now i).getD Z := by unfold CaS.got; rw [hh]; rfl
      have e2 : C.read S i = (({ C with miss := C.miss + 1 } : CaS).use i ((S.now i).getD Z)).evict := by unfold CaS.read; rw [e1, hh]; rfl
      exact .inl ⟨.inr hr, _, F', hp.1, by rw [e1, e2]; exact h'⟩
    · refine (read_none hc hd hh hr).mono ?_
      rintro e w' ⟨rfl, o⟩
      exact .inr ⟨hh, hr, F, rfl, h.later o⟩

theorem has_cbegin (h : Has w0 w (CRes cb d wb F C :: Rs)) : Calls Try.prog 17 #[pp cb] w fun e w' => ∃ F', e = .returned (.int .i64 (if C.opn then 30 else 0)) ∧ Has w0 w' (CRes cb d wb F' { C with opn := true } :: Rs) := by
  refine (begin_any (h.cat (cb := cb) (d := d) (wb := wb) (F := F) (C := C) (by simp))).mono ?_
  rintro e w' (⟨ho, rfl, rfl⟩ | ⟨ho, rfl, hp⟩)
  · have : ({ C with opn := true } : CaS) = C := by cases C; simp_all
    exact ⟨F, by rw [ho]; rfl, by rw [this]; exact h⟩
  · obtain ⟨F', h'⟩ := h.cache hp
    exact ⟨F', by rw [ho]; rfl, h'⟩

theorem has_cabort (h : Has w0 w (CRes cb d wb F C :: Rs)) : Calls Try.prog 21 #[pp cb] w fun e w' => ∃ F', e = .returned (.int .i64 (if C.opn then 0 else 30)) ∧ Has w0 w' (CRes cb d wb F' (if C.opn then C.abort else C) :: Rs) := by
  refine (abort_any (h.cat (cb := cb) (d := d) (wb := wb) (F := F) (C := C) (by simp))).mono ?_
  rintro e w' (⟨ho, rfl, rfl⟩ | ⟨ho, rfl, hp⟩)
  · exact ⟨F, by rw [ho]; rfl, by rw [ho]; exact h⟩
  · obtain ⟨F', h'⟩ := h.cache hp
    exact ⟨F', by rw [ho]; rfl, by rw [ho]; exact h'⟩

/-- What a Write of 64 bytes answers, and what it leaves. -/
def wcode (C : CaS) (n i : Int) : Int := if C.opn = false then 30 else if i < 0 ∨ n ≤ i then 10 else 0
theorem has_cwrite (h : Has w0 w (CRes cb d wb F C :: DRes d FD S :: Rs)) (hsn : S.n ≤ 8192) (i : Int) {bv : Value} {v : Array Value} (hb : Bytes64 w [] bv v) :
    Calls Try.prog 16 #[pp cb, .int .i64 i, bv] w fun e w' => ∃ F', e = .returned (.int .i64 (wcode C S.n i)) ∧ Has w0 w' (CRes cb d wb F' (if wcode C S.n i = 0 then C.write i v else C) :: DRes d FD S :: Rs) := by
  have hc := h.cat (cb := cb) (d := d) (wb := wb) (F := F) (C := C) (by simp)
  have hd := h.swap.dat
  by_cases ho : C.opn = false
  · have e1 : wcode C S.n i = 30 := if_pos ho
    refine (cwrite_closed hc ho i bv).mono ?_
    rintro e w' ⟨rfl, rfl⟩
    exact ⟨F, by rw [e1], by rw [e1]; exact h⟩
  · have ho' : C.opn = true := by simpa using ho
    by_cases hi : i < 0 ∨ S.n ≤ i
    · have e1 : wcode C S.n i = 10 := by rw [wcode, if_neg ho, if_pos hi]
      refine (cwrite_place hc hd ho' hi bv).mono ?_
      rintro e w' ⟨rfl, rfl⟩
      exact ⟨F, by rw [e1], by rw [e1]; exact h⟩
    · have e1 : wcode C S.n i = 0 := by rw [wcode, if_neg ho, if_neg hi]
      refine (cwrite_ok hc hd ho' (by omega) (by omega) hsn hb).mono ?_
      rintro e w' ⟨rfl, hp⟩
      obtain ⟨F', h'⟩ := h.cache hp
      exact ⟨F', by rw [e1], by rw [e1]; exact h'⟩

/-! Commit on a disk without a fuse. -/
theorem commit_quiet1 {n k : Int} {f : Int → Option (Array Value)} {a s g : Int} {ps : List (Int × Array Value)} (ha : 0 ≤ a) (hs : 3 ≤ s) (has : a + s ≤ n) (hok : GroupOk a s n (rawsOf ps)) :
    ∃ k', k < k' ∧ k' ≤ k + 3 * ps.length + 10 ∧ (quiet n k f).commit a s g ps = ⟨0, quiet n k' (putLog f a s g ps), g + 1⟩ := by
  obtain ⟨k', e1, e2, e3⟩ := commit_quiet (n := n) (k := k) (f := f) (g := g) ha hs has hok
  refine ⟨k', ?_, e2, e3⟩
  have hlen : (ps.length : Int) ≤ roomF s := by have := hok.1; simpa [rawsOf] using this
  have hfit := room_fits hs hlen
  have hin : ∀ p ∈ ps, 0 ≤ p.1 ∧ p.1 < n := fun p hp => by
    have := hok.2.1 (p.1, 64) (List.mem_map.2 ⟨p, hp, rfl⟩)
    exact ⟨this.1, this.2.1⟩
  have hcp : ∀ p ∈ copiesL a ps, 0 ≤ p.1 ∧ p.1 < n := fun p hp => by have := copies_in hp; omega
  have hhd : ∀ v, ∀ p ∈ [(a, v)], 0 ≤ (p : Int × Array Value).1 ∧ p.1 < n := fun v p hp => by simp at hp; subst hp; exact ⟨ha, by omega⟩
  have w1 := writeAll_quiet n k f (copiesL a ps) hcp
  have w2 : ∀ k f v, (quiet n k f).writeAll [(a, v)] = (0, quiet n (k + 1 + 1) (updF f a v)) := fun k f v => writeAll_quiet n k f [(a, v)] (hhd v)
  have w3 := fun k f => writeAll_quiet n k f ps hin
  have e4 := congrArg (fun r => r.st.steps) e3
  rw [St.commit, w1] at e4
  simp only [w2, St.finish, w3, ne_eq, not_true_eq_false, if_false, if_true] at e4
  simp only [quiet] at e4
  omega

/-- Behind a Commit. -/
def CComPost (w0 : World) (cb d wb : Nat) (C : CaS) (n k : Int) (f : Int → Option (Array Value)) (a s g : Int) (Rs : List Res) (e : Ending) (w' : World) : Prop :=
  (C.opn = true ∧ GroupOk a s n (rawsOf (putsC C)) ∧ ∃ k' FD' F', k < k' ∧ k' ≤ k + 3 * (putsC C).length + 10 ∧ e = .returned (.int .i64 0) ∧ Has w0 w' (CRes cb d wb F' C.committed :: DRes d FD' (quiet n k' (putLog f a s g (putsC C))) :: WRes wb d a s (g + 1) :: Rs)) ∨
  (¬ (C.opn = true ∧ GroupOk a s n (rawsOf (putsC C))) ∧ ∃ FD' F', e = .returned (.int .i64 (if C.opn then 20 else 30)) ∧ Has w0 w' (CRes cb d wb F' C :: DRes d FD' (quiet n k f) :: WRes wb d a s g :: Rs))

theorem has_ccommit {n k : Int} {f : Int → Option (Array Value)} {a s g : Int} (h : Has w0 w (CRes cb d wb F C :: DRes d FD (quiet n k f) :: WRes wb d a s g :: Rs)) (ha : 0 ≤ a) (hs : 3 ≤ s) (has : a + s ≤ n) (hg : 0 ≤ g) (hg1 : g ≤ 1000000) (hk0 : 0 ≤ k) (hk : k ≤ 900000000) :
    Calls Try.prog 19 #[pp cb] w fun e w' => CComPost w0 cb d wb C n k f a s g Rs e w' := by
  have hd := h.swap.dat
  have hn1 : n ≤ 8192 := by obtain ⟨_, _, _, q, _⟩ := hd; exact q.ok.n1
  obtain ⟨_, _, _, _, okC, _⟩ := h.cat (cb := cb) (d := d) (wb := wb) (F := F) (C := C) (by simp)
  cases ho : C.opn with
  | false =>
    refine (ccommit_closed (h.cat (cb := cb) (d := d) (wb := wb) (F := F) (C := C) (by simp)) ho).mono ?_
    rintro e w' ⟨rfl, rfl⟩
    exact .inr ⟨by simp [ho], FD, F, by rw [ho]; rfl, h⟩
  | true =>
    by_cases hok : GroupOk a s n (rawsOf (putsC C))
    · refine (ccommit_any (FD := FD) (Q := fun z Rs' => z = 0 ∧ ∃ k' FD', k < k' ∧ k' ≤ k + 3 * (putsC C).length + 10 ∧ Rs' = DRes d FD' (quiet n k' (putLog f a s g (putsC C))) :: WRes wb d a s (g + 1) :: Rs) h ho (fun x hx => dAt_lt hd x hx) (fun w1 lv h1 hpu => ?_)).mono ?_
      · have h2 := (h1.pull (L1 := [_]) (L2 := _ :: Rs)).pull (L1 := [_, _]) (L2 := Rs)
        have h3 := h2.swap
        obtain ⟨k', q1, q2, q3⟩ := commit_quiet1 (k := k) (f := f) (g := g) ha hs has hok
        have hlen : (putsC C).length ≤ 8192 := by
          have h5 := hok.1
          have h6 := roomF_bd hs
          simp only [rawsOf, List.length_map] at h5
          omega
        refine (commit_any h3.dat (h3.walAt (by simp)) h3.wal_notin hpu ha (by omega) hs (by omega) hg (by omega) hok (by simp only [quiet]; omega) (by simp only [quiet, List.length_nil]; omega)).mono ?_
        rintro e w' ⟨rfl, hp⟩
        rw [q3] at hp ⊢
        obtain ⟨FD', hh⟩ := h3.wpost hp
        exact ⟨0, _, rfl, ⟨rfl, k', FD', q1, q2, rfl⟩, hh.pull (L1 := [_, _]) (L2 := Rs)⟩
      · rintro e w' ⟨z, Rs', F', rfl, ⟨rfl, k', FD', q1, q2, rfl⟩, hh⟩
        exact .inl ⟨ho, hok, k', FD', F', q1, q2, rfl, by rw [if_pos rfl] at hh; exact hh⟩
    · refine (ccommit_any (FD := FD) (Q := fun z Rs' => z = 20 ∧ Rs' = DRes d FD (quiet n k f) :: WRes wb d a s g :: Rs) h ho (fun x hx => dAt_lt hd x hx) (fun w1 lv h1 hpu => ?_)).mono ?_
      · have h2 := (h1.pull (L1 := [_]) (L2 := _ :: Rs)).pull (L1 := [_, _]) (L2 := Rs)
        have h3 := h2.swap
        refine (has_commit_no h3 (hpu.raws (fun p hp => ?_)) ha (by omega) hs (by omega) hok).mono ?_
        · obtain ⟨x, hx, rfl⟩ := List.mem_map.1 hp
          have := okC.rg x (okC.ps x (sorted_mem.1 hx))
          simp only; omega
        · rintro e w' ⟨rfl, hh⟩
          exact ⟨20, _, rfl, ⟨rfl, rfl⟩, hh.pull (L1 := [_, _]) (L2 := Rs)⟩
      · rintro e w' ⟨z, Rs', F', rfl, ⟨rfl, rfl⟩, hh⟩
        exact .inr ⟨fun hx => hok hx.2, FD, F', by rw [ho]; rfl, by rw [if_neg (by omega)] at hh; exact hh⟩
end
end Go.Proofs.Ytoccnaebckcfmaa
end

section
set_option linter.unusedSimpArgs false
set_option linter.unusedVariables false
set_option maxRecDepth 8000
namespace Go.Proofs.Ytoccnaebckcfmaa
open Go.RowKit
open Go.ChangeMaps (setBlock)

def f00 : Int → Option (Array Value) := updF (fun _ => none) 0 (headA 0 40 0 0)
def Ground3 (w0 : World) (most : Int) (Rs : List Res) (e : Ending) (w' : World) : Prop :=
  ∃ d FD wb cb F, e = .returned (.tuple #[pp d, pp cb]) ∧ Has w0 w' (CRes cb d wb F (CaS.new most) :: DRes d FD (quiet 100 2 f00) :: WRes wb d 0 40 0 :: Rs)
theorem Ground3.mk {w0 : World} {most : Int} {Rs : List Res} {w' : World} {d wb cb : Nat} {FD F : List Nat} (h : Has w0 w' (CRes cb d wb F (CaS.new most) :: DRes d FD (quiet 100 2 f00) :: WRes wb d 0 40 0 :: Rs)) : Ground3 w0 most Rs (.returned (.tuple #[.pointer (some ⟨d, 0, none⟩), .pointer (some ⟨cb, 0, none⟩)])) w' := ⟨d, FD, wb, cb, F, rfl, h⟩

set_option maxHeartbeats 2000000 in
theorem ground3_any {w0 w : World} {Rs : List Res} (h : Has w0 w Rs) {most : Int} (h1 : 1 ≤ most) (h2 : most ≤ 9223372036854775807) : Calls Try.prog 10 #[.int .i64 most] w fun e w' => Ground3 w0 most Rs e w' := by
  have N := Lib.hid (has_new h 100 (by omega) (by omega))
  clear h
  go_enter Try.func10, Try.ntmps10
  go_wp2_with fail
  refine N.out.mono ?_
  rintro e w1 ⟨b, F, rfl, h1'⟩
  have hq : St.new 100 = quiet 100 0 (fun _ => none) := rfl
  rw [hq] at h1'
  have FO := Lib.hid (has_format h1' (a := 0) (s := 40) (by omega) (by omega) (by omega) (by omega) (by omega))
  clear N h1' hq
  go_wp2_with fail
  refine FO.out.mono ?_
  rintro e w2 ⟨rfl, F2, h2'⟩
  have OP := Lib.hid (has_open (g := 0) h2' rfl (a := 0) (s := 40) (by omega) (by omega) (by simp only [quiet]; omega) (by omega) (by omega) (by simp [quiet, updF]))
  clear FO h2'
  go_wp2_with fail
  refine OP.out.mono ?_
  rintro e w3 ⟨wb, rfl, h3⟩
  have CN := Lib.hid (has_cnew h3.swap b wb h1 h2)
  clear OP h3
  go_wp2_with fail
  refine CN.out.mono ?_
  rintro e w4 ⟨cb, F4, rfl, h4⟩
  have FIN := Lib.hid (Ground3.mk h4)
  clear CN h4
  show _
  unfold pp
  go_wp2
  go_ret2
  exact FIN.out

/-- A slice of numbers. -/
def IntsAt (w : World) (v : Value) (l : List Int) : Prop := ∃ a cap, v = .slice a l.length cap ∧ l.length ≤ 1000000 ∧ (l ≠ [] → ∃ g, a = some ⟨g, 0, none⟩ ∧ ∀ j x, l[j]? = some x → w.cell? ⟨g, j, none⟩ = some (.int .i64 x))
theorem IntsAt.of {w : World} {base : Nat} {v : Value} {l : List Int} (h : w.ownsRow base 3 1 v l.length (l.map (Value.int .i64))) (hl : l.length ≤ 1000000) : IntsAt w v l := by
  rcases h.2 with ⟨e, hn⟩ | ⟨g, cap, cur, e, _, hh, _, _, _, h4⟩
  · exact ⟨none, 0, by rw [e, hn], hl, fun hne => absurd (List.eq_nil_of_length_eq_zero hn) hne⟩
  · refine ⟨_, cap, e, hl, fun _ => ⟨g, rfl, fun j x hx => ?_⟩⟩
    have hj := (List.getElem?_eq_some_iff.1 hx).1
    have := congrArg (·[j]?) h4
    simp only [Nat.mul_one, List.getElem?_take_of_lt hj, List.getElem?_map, hx, Option.map_some] at this
    rw [cell_of_row _ _ _ _ _ _ hh, ← Array.getElem?_toList, this]
theorem IntsAt.only {w w' : World} {v : Value} {l : List Int} (h : IntsAt w v l) (o : Only [] w w') : IntsAt w' v l := by
  obtain ⟨a, cap, e, hl, hc⟩ := h
  refine ⟨a, cap, e, hl, fun hne => ?_⟩
  obtain ⟨g, ha, hx⟩ := hc hne
  exact ⟨g, ha, fun j x hj => (World.cell?_of_block (o.block g (World.block_lt_of_cell? w ⟨g, j, none⟩ (hx j x hj)) (by simp))).trans (hx j x hj)⟩

section
variable {o : Oper} {a : Act} {w : World}
theorem run_index40 {x y : Operand} {g off j n cap : Nat} (hj : j < n) (ho : o.op = .indexAddr 40 x y) (hx : a.eval x = .slice (some ⟨g, off, none⟩) n cap) (hy : a.eval y = .int .i64 j) : ∀ w, (execOp a.eval o).run Try.prog w = .ok (.value (.pointer (some ⟨g, off + j, none⟩))) w := by
  intro w
  unfold execOp
  simp only [ho, hx, hy]
  go_simp
end

def IntsPost (l1 l2 : List Int) (w : World) (e : Ending) (w' : World) : Prop := ∃ r : Bool, e = .returned (.bool r) ∧ (r = true ↔ l1 = l2) ∧ Only [] w w'
theorem IntsPost.mk {l1 l2 : List Int} {w w' : World} {r : Bool} (h : r = true ↔ l1 = l2) (o : Only [] w w') : IntsPost l1 l2 w (.returned (.bool r)) w' := ⟨r, rfl, h, o⟩

set_option maxHeartbeats 2000000 in
theorem ints_any {w : World} {v1 v2 : Value} {l1 l2 : List Int} (h1 : IntsAt w v1 l1) (h2 : IntsAt w v2 l2) : Calls Try.prog 23 #[v1, v2] w fun e w' => IntsPost l1 l2 w e w' := by
  obtain ⟨a1, cap1, rfl, n1, hc1⟩ := h1
  obtain ⟨a2, cap2, rfl, n2, hc2⟩ := h2
  by_cases hlen : l1.length = l2.length
  · have hlb : ((l1.length : Int) != (l2.length : Int)) = false := by simp [hlen]
    have HC1 := Lib.hid hc1
    have HC2 := Lib.hid hc2
    clear hc1 hc2
    go_enter Try.func23, Try.ntmps23
    go_wp2
    go_loopw [5] (fun i wr => ∃ k : Nat, k ≤ l1.length ∧ i = .int .i64 k ∧ Only [] w wr ∧ l1.take k = l2.take k) (fun i _ => l1.length - (RowKit.intOf i).toNat)
    case atStart => exact ⟨0, by omega, rfl, Only.refl _ _, by simp⟩
    case round =>
      obtain ⟨k, hk, rfl, ow, he⟩ := hrel
      by_cases hkl : k < l1.length
      · obtain ⟨x1, hx1⟩ : ∃ x, l1[k]? = some x := ⟨_, List.getElem?_eq_getElem hkl⟩
        obtain ⟨x2, hx2⟩ : ∃ x, l2[k]? = some x := ⟨_, List.getElem?_eq_getElem (by omega)⟩
        obtain ⟨g1, rfl, q1'⟩ := HC1.out (fun e => by rw [e] at hkl; simp at hkl)
        obtain ⟨g2, rfl, q2'⟩ := HC2.out (fun e => by rw [e] at hlen; simp at hlen; rw [hlen] at hkl; simp at hkl)
        have t1 := q1' k x1 hx1
        have t2 := q2' k x2 hx2
        have q1 : wr.drew.cell? ⟨g1, k, none⟩ = some (.int .i64 x1) := (World.cell?_of_block (ow.block g1 (World.block_lt_of_cell? w ⟨g1, k, none⟩ t1) (by simp))).trans t1
        have q2 : wr.drew.cell? ⟨g2, k, none⟩ = some (.int .i64 x2) := (World.cell?_of_block (ow.block g2 (World.block_lt_of_cell? w ⟨g2, k, none⟩ t2) (by simp))).trans t2
        have q1z : wr.drew.cell? ⟨g1, 0 + k, none⟩ = some (.int .i64 x1) := by rw [Nat.zero_add]; exact q1
        have q2z : wr.drew.cell? ⟨g2, 0 + k, none⟩ = some (.int .i64 x2) := by rw [Nat.zero_add]; exact q2
        have OW := Lib.hid ow.drew
        have HE := Lib.hid he
        clear ow he q1' q2' t1 t2
        go_wp2_with fail
        refine wp_region_flowR Lat [0, 0, 0, 1, 0, 0, 0, 1, 0] (by kernel_rfl) (by kernel_rfl) Lat.refl Lat.trans ?_
        refine fr0 rfl (fun _ => rfl) ?_
        simp only [Act.put, List.setIfInBounds_toArray, List.set_cons_succ, List.set_cons_zero]
        refine fr0 rfl (fun _ => rfl) ?_
        simp only [Act.put, List.setIfInBounds_toArray, List.set_cons_succ, List.set_cons_zero]
        refine fr0 (u := .pointer (some ⟨g1, 0 + k, none⟩)) rfl (run_index40 (n := l1.length) (by omega) rfl rfl rfl) ?_
        simp only [Act.put, List.setIfInBounds_toArray, List.set_cons_succ, List.set_cons_zero]
        refine fr1 (u := .int .i64 x1) rfl (fun x hx => run_load1 rfl rfl (hx.cell q1z) isAgg3) ?_
        simp only [Act.put, List.setIfInBounds_toArray, List.set_cons_succ, List.set_cons_zero]
        refine fr0 rfl (fun _ => rfl) ?_
        simp only [Act.put, List.setIfInBounds_toArray, List.set_cons_succ, List.set_cons_zero]
        refine fr0 rfl (fun _ => rfl) ?_
        simp only [Act.put, List.setIfInBounds_toArray, List.set_cons_succ, List.set_cons_zero]
        refine fr0 (u := .pointer (some ⟨g2, 0 + k, none⟩)) rfl (run_index40 (n := l2.length) (by omega) rfl rfl rfl) ?_
        simp only [Act.put, List.setIfInBounds_toArray, List.set_cons_succ, List.set_cons_zero]
        refine fr1 (u := .int .i64 x2) rfl (fun x hx => run_load1 rfl rfl (hx.cell q2z) isAgg3) ?_
        simp only [Act.put, List.setIfInBounds_toArray, List.set_cons_succ, List.set_cons_zero]
        refine fr0 (u := .bool (x1 != x2)) rfl (run_neq rfl rfl rfl) ?_
        simp only [Act.put, List.setIfInBounds_toArray, List.set_cons_succ, List.set_cons_zero]
        refine frnil ?_
        show Exit.then _ _ _ _ _
        generalize wr.drew = w5 at *
        clear q1 q2 q1z q2z
        by_cases hxx : x1 = x2
        · have hb : (x1 != x2) = false := by simp [hxx]
          go_wp2
          go_roundw
          case rel => exact ⟨k + 1, by omega, by go_num, OW.out, by rw [List.take_add_one, List.take_add_one, HE.out, hx1, hx2, hxx]⟩
          case measure => simp [RowKit.intOf]; omega
        · have hb : (x1 != x2) = true := by simp [hxx]
          have FIN : Hid (IntsPost l1 l2 w (.returned (.bool false)) w5) := IntsPost.mk (by
            constructor
            · intro h; cases h
            · intro h; rw [h, hx2] at hx1; exact absurd (Option.some.inj hx1).symm hxx) OW.out
          go_wp2
          go_ret
          exact FIN.out
      · have hkk : k = l1.length := by omega
        subst hkk
        have FIN : Hid (IntsPost l1 l2 w (.returned (.bool true)) wr) := IntsPost.mk (by
          rw [List.take_length, hlen, List.take_length] at he
          simp [he]) ow
        clear ow he
        go_wp2
        go_ret
        exact FIN.out
  · have hlb : ((l1.length : Int) != (l2.length : Int)) = true := by simp; omega
    clear hc1 hc2
    go_enter Try.func23, Try.ntmps23
    go_wp2
    go_ret
    exact IntsPost.mk (by
      constructor
      · intro h; cases h
      · intro h; rw [h] at hlen; exact absurd rfl hlen) (Only.refl _ _)
end Go.Proofs.Ytoccnaebckcfmaa
end
