/- A cache, whatever blocks it has; Begin, Abort, Held, Pinned, Misses, New. -/
import Derived.Test.YtoccnaebckcfmaaK7
set_option linter.unusedSimpArgs false
set_option linter.unusedVariables false
set_option maxRecDepth 8000
namespace Go.Proofs.Ytoccnaebckcfmaa
open Go.RowKit
open Go.ChangeMaps (setBlock)

/-! What the calls leave, as states. -/
theorem cutF_isSome {C : CaS} (ok : CaOk C) {K : List Int} (hK : K.Sublist C.ord) (k : Int) : (cutF C.held C.ord K k).isSome = true ↔ k ∈ K := by
  unfold cutF
  by_cases h : k ∈ C.ord ∧ k ∉ K
  · rw [if_pos h]
    simp [h.2]
  · rw [if_neg h, ok.hd]
    constructor
    · intro hk
      by_cases hkK : k ∈ K
      · exact hkK
      · exact absurd ⟨hk, hkK⟩ h
    · exact fun hk => hK.subset hk
theorem cutF_sec {C : CaS} (ok : CaOk C) {K : List Int} (k : Int) (v : Array Value) (h : cutF C.held C.ord K k = some v) : SecOk v := by
  unfold cutF at h
  split at h
  · cases h
  · exact ok.sec k v h

theorem CaOk.evict {C : CaS} (ok : CaOk C) : CaOk C.evict := by
  unfold CaS.evict
  split
  · exact ok
  · have hs := runD_sub true C.pin (excess C) C.ord
    exact ⟨ok.nd.sublist hs, cutF_isSome ok hs, cutF_sec ok, ok.pn, fun k hk => runD_pin (ok.ps k hk) hk, fun k hk => ok.rg k (hs.subset hk), ok.m0, ok.m1, ok.i0, ok.i1⟩
theorem useL_mem {l : List Int} {i x : Int} : x ∈ useL l i ↔ x ∈ l ∨ x = i := by
  unfold useL
  rw [List.mem_append, List.mem_filter]
  by_cases h : x = i
  · simp [h]
  · simp [h]
theorem useL_nodup {l : List Int} (h : l.Nodup) (i : Int) : (useL l i).Nodup := by
  unfold useL
  rw [List.nodup_append]
  refine ⟨h.sublist List.filter_sublist, by simp, fun a ha b hb e => ?_⟩
  simp at hb
  rw [List.mem_filter] at ha
  simp at ha
  exact ha.2 (e.trans hb)
/-- Behind a use of sector i with bytes v. -/
def CaS.use (C : CaS) (i : Int) (v : Array Value) : CaS := { C with ord := useL C.ord i, held := updF C.held i v }
theorem CaOk.use {C : CaS} (ok : CaOk C) {i : Int} {v : Array Value} (h0 : 0 ≤ i) (h1 : i < 8192) (hv : SecOk v) : CaOk (C.use i v) := by
  refine ⟨useL_nodup ok.nd i, fun k => ?_, fun k u hu => ?_, ok.pn, fun k hk => useL_mem.2 (.inl (ok.ps k hk)), fun k hk => ?_, ok.m0, ok.m1, ok.i0, ok.i1⟩
  · simp only [CaS.use, updF]
    rw [useL_mem]
    by_cases h : k = i
    · simp [h]
    · simp [h, ok.hd]
  · simp only [CaS.use, updF] at hu
    split at hu
    · cases hu; exact hv
    · exact ok.sec k u hu
  · rcases useL_mem.1 hk with h | h
    · exact ok.rg k h
    · omega
def CaS.abort (C : CaS) : CaS := { C with opn := false, pin := [], ord := C.ord.filter (fun x => !decide (x ∈ C.pin)), held := cutF C.held C.ord (C.ord.filter (fun x => !decide (x ∈ C.pin))) }
theorem CaOk.abort {C : CaS} (ok : CaOk C) : CaOk C.abort := by
  have hs : (C.ord.filter (fun x => !decide (x ∈ C.pin))).Sublist C.ord := List.filter_sublist
  exact ⟨ok.nd.sublist hs, cutF_isSome ok hs, cutF_sec ok, List.nodup_nil, by simp [CaS.abort], fun k hk => ok.rg k (hs.subset hk), ok.m0, ok.m1, ok.i0, ok.i1⟩
theorem CaOk.opened {C : CaS} (ok : CaOk C) (o : Bool) : CaOk { C with opn := o } := ⟨ok.nd, ok.hd, ok.sec, ok.pn, ok.ps, ok.rg, ok.m0, ok.m1, ok.i0, ok.i1⟩
theorem CaOk.ended {C : CaS} (ok : CaOk C) : CaOk { C with opn := false, pin := [] } := ⟨ok.nd, ok.hd, ok.sec, List.nodup_nil, by simp, ok.rg, ok.m0, ok.m1, ok.i0, ok.i1⟩
theorem CaOk.missed {C : CaS} (ok : CaOk C) (h : C.miss < 1000000000) : CaOk { C with miss := C.miss + 1 } := ⟨ok.nd, ok.hd, ok.sec, ok.pn, ok.ps, ok.rg, ok.m0, ok.m1, by have := ok.i0; simp only; omega, by simp only; omega⟩

/-! A cache, whatever blocks it has. -/
def CAt (w : World) (cb d wb : Nat) (F : List Nat) (C : CaS) : Prop := ∃ hm pm ov, CIs w cb d wb hm pm ov C ∧ CaOk C ∧ F = cfoot cb hm pm ov
theorem CAt.congr {w w' : World} {cb d wb : Nat} {F : List Nat} {C : CaS} (h : CAt w cb d wb F C) (he : ∀ x ∈ F, w'.heap[x]? = w.heap[x]?) : CAt w' cb d wb F C := by
  obtain ⟨hm, pm, ov, h1, ok, rfl⟩ := h
  exact ⟨hm, pm, ov, h1.congr he, ok, rfl⟩
theorem CAt.lt {w : World} {cb d wb : Nat} {F : List Nat} {C : CaS} (h : CAt w cb d wb F C) : ∀ x ∈ F, x < w.heap.size := by
  obtain ⟨hm, pm, ov, h1, ok, rfl⟩ := h
  exact h1.lt
def CPost (w w' : World) (cb d wb : Nat) (F : List Nat) (C' : CaS) : Prop := ∃ F', CAt w' cb d wb F' C' ∧ (∀ x ∈ F', x ∈ F ∨ w.heap.size ≤ x) ∧ Only F w w'
theorem CPost.mk {w w' : World} {cb d wb hm pm : Nat} {ov ov' : Value} {C' : CaS} (h : CIs w' cb d wb hm pm ov' C') (ok : CaOk C') (hg : ∀ g, ov'.ownBlock = some g → ov.ownBlock = some g ∨ w.heap.size ≤ g) (o : Only (cfoot cb hm pm ov) w w') : CPost w w' cb d wb (cfoot cb hm pm ov) C' := by
  refine ⟨_, ⟨hm, pm, ov', h, ok, rfl⟩, fun x hx => ?_, o⟩
  simp only [cfoot, List.mem_cons, Option.mem_toList] at hx ⊢
  rcases hx with h | h | h | h
  · exact .inl (.inl h)
  · exact .inl (.inr (.inl h))
  · exact .inl (.inr (.inr (.inl h)))
  · rcases hg x h with h | h
    · exact .inl (.inr (.inr (.inr h)))
    · exact .inr h
theorem CPost.trans {w w1 w2 : World} {cb d wb : Nat} {F F1 : List Nat} {C2 : CaS} (o : Only F w w1) (hF : ∀ x ∈ F1, x ∈ F ∨ w.heap.size ≤ x) (h : CPost w1 w2 cb d wb F1 C2) : CPost w w2 cb d wb F C2 := by
  obtain ⟨F2, h2, f2, o2⟩ := h
  refine ⟨F2, h2, fun x hx => ?_, o.trans o2 hF⟩
  rcases f2 x hx with h | h
  · exact hF x h
  · exact .inr (Nat.le_trans o.size h)
def CRes (cb d wb : Nat) (F : List Nat) (C : CaS) : Res := ⟨F, fun w => CAt w cb d wb F C, fun _ _ he h => h.congr he⟩
theorem Has.cache {w0 w w' : World} {cb d wb : Nat} {F : List Nat} {C C' : CaS} {Rs : List Res} (h : Has w0 w (CRes cb d wb F C :: Rs)) (hp : CPost w w' cb d wb F C') : ∃ F', Has w0 w' (CRes cb d wb F' C' :: Rs) := by
  obtain ⟨F', d, f, o⟩ := hp
  exact ⟨F', h.turn (r' := CRes cb _ wb F' C') o d (fun x hx => ⟨f x hx, d.lt x hx⟩)⟩
theorem Has.cat {w0 w : World} {cb d wb : Nat} {F : List Nat} {C : CaS} {Rs : List Res} (h : Has w0 w Rs) (hm : CRes cb d wb F C ∈ Rs) : CAt w cb d wb F C := (h.each _ hm).1

section
variable {w : World} {cb d wb : Nat} {F : List Nat} {C : CaS}

set_option maxHeartbeats 1000000 in
theorem begin_any (h : CAt w cb d wb F C) : Calls Try.prog 17 #[pp cb] w fun e w' => (C.opn = true ∧ e = .returned (.int .i64 30) ∧ w' = w) ∨ (C.opn = false ∧ e = .returned (.int .i64 0) ∧ CPost w w' cb d wb F { C with opn := true }) := by
  obtain ⟨hm, pm, ov, h1, ok, rfl⟩ := h
  obtain ⟨c0, c1, c2, c3, c4, c5, c6, c7, fz⟩ := h1.cells
  have f3 := fz 3
  have c0' : w.cell? ⟨cb, 0, none⟩ = some (.pointer (some ⟨d, 0, none⟩)) := c0
  obtain ⟨a1, a2, a3, a4⟩ := h1.apart
  have H1 := Lib.hid h1
  have OK := Lib.hid ok
  clear h1 fz c0 c1 c2 c4 c5 c6 c7 ok
  show Calls Try.prog 17 #[.pointer (some ⟨cb, 0, none⟩)] w _
  by_cases ho : C.opn = true
  · rw [ho] at c3
    go_enter Try.func17, Try.ntmps17
    go_wp2
    go_ret
    exact .inl ⟨ho, rfl, rfl⟩
  · have ho' : C.opn = false := by simpa using ho
    rw [ho'] at c3
    go_enter Try.func17, Try.ntmps17
    go_wp2
    go_ret
    have hH := H1.out
    refine .inr ⟨ho', rfl, CPost.mk (ov' := ov) ⟨?_, mapAt_congr hH.held (Below.heap_setCell _ _ _ _ (by simpa using Ne.symm a1)), mapAt_congr hH.pinned (Below.heap_setCell _ _ _ _ (by simpa using Ne.symm a2)), ownsRow_congr' hH.ord (fun g hg => Below.heap_setCell _ _ _ _ (by simpa using (a4 g hg).1)), hH.ne⟩ (OK.out.opened true) (fun g hg => .inl hg) ((Only.refl _ w).setCell (p := ⟨cb, 3, none⟩) (.inl (by simp [cfoot])) _)⟩
    rw [heap_setCell_row hH.row]
    simp [crow]

set_option maxHeartbeats 1000000 in
theorem misses_any (h : CAt w cb d wb F C) : Calls Try.prog 27 #[pp cb] w fun e w' => e = .returned (.int .i64 C.miss) ∧ w' = w := by
  obtain ⟨hm, pm, ov, h1, ok, rfl⟩ := h
  obtain ⟨c0, c1, c2, c3, c4, c5, c6, c7, fz⟩ := h1.cells
  clear h1 ok c0 c1 c2 c3 c5 c6 c7 fz
  show Calls Try.prog 27 #[.pointer (some ⟨cb, 0, none⟩)] w _
  go_enter Try.func27, Try.ntmps27
  go_wp2
  go_ret
  exact ⟨rfl, rfl⟩

set_option maxHeartbeats 1000000 in
theorem pinned_any (h : CAt w cb d wb F C) : Calls Try.prog 25 #[pp cb] w fun e w' => e = .returned (.int .i64 C.pin.length) ∧ w' = w := by
  obtain ⟨hm, pm, ov, h1, ok, rfl⟩ := h
  obtain ⟨c0, c1, c2, c3, c4, c5, c6, c7, fz⟩ := h1.cells
  have HM := Lib.hid h1.pinned
  have HN := Lib.hid ok.pn
  clear h1 ok c0 c1 c2 c3 c4 c5 c6 fz
  show Calls Try.prog 25 #[.pointer (some ⟨cb, 0, none⟩)] w _
  go_enter Try.func25, Try.ntmps25
  go_wp2_with (refine wpL_value rfl (run_len72 HM.out HN.out rfl rfl) ?_)
  go_ret
  exact ⟨rfl, rfl⟩

def HeldPost (l : List Int) (w : World) (e : Ending) (w' : World) : Prop := ∃ v, e = .returned v ∧ w'.ownsRow w.heap.size 3 1 v l.length (l.map (Value.int .i64)) ∧ Only [] w w'
set_option maxHeartbeats 1000000 in
theorem held_any (h : CAt w cb d wb F C) : Calls Try.prog 24 #[pp cb] w fun e w' => HeldPost C.ord w e w' := by
  obtain ⟨hm, pm, ov, h1, ok, rfl⟩ := h
  have hlen := ok.len
  have CL : Calls Try.prog 53 #[ov] w fun e w' => HeldPost C.ord w e w' := by
    rcases h1.ord.2 with ⟨e, hn⟩ | ⟨g, cap, cur, e, _, hh, q1, q2, q3, q4⟩
    · have hnil : C.ord = [] := List.eq_nil_of_length_eq_zero hn
      rw [e, hnil]
      refine (Try.slices_Clone_int_nil 0 0 w).mono ?_
      rintro e w' ⟨rfl, rfl⟩
      exact ⟨_, rfl, World.ownsRow_nil _ _ _ _, Only.refl _ _⟩
    · subst e
      refine (Try.slices_Clone_int g 0 C.ord.length cap C.ord w (Nat.le_refl _) (by omega) (h1.ordCell rfl)).mono ?_
      rintro e w' ⟨v', rfl, hr, _, hb⟩
      rw [List.take_length] at hr
      exact ⟨v', rfl, hr, ⟨hb.os, hb.tape, hb.output, hb.size, fun k hk _ => hb.block k hk⟩⟩
  obtain ⟨c0, c1, c2, c3, c4, c5, c6, c7, fz⟩ := h1.cells
  obtain ⟨oa, ocap, rfl, oc1, oc2⟩ := h1.slice
  have HC := Lib.hid CL
  clear h1 ok c0 c1 c2 c3 c4 c5 c7 fz CL
  show Calls Try.prog 24 #[.pointer (some ⟨cb, 0, none⟩)] w _
  go_enter Try.func24, Try.ntmps24
  go_wp2_with fail
  refine HC.out.mono ?_
  rintro e w' ⟨v, rfl, hr, o⟩
  have FIN : Hid (HeldPost C.ord w (.returned v) w') := (⟨v, rfl, hr, o⟩ : HeldPost C.ord w (.returned v) w')
  clear hr o HC
  go_wp2
  go_ret
  exact FIN.out

set_option maxHeartbeats 1000000 in
theorem abort_any (h : CAt w cb d wb F C) : Calls Try.prog 21 #[pp cb] w fun e w' => (C.opn = false ∧ e = .returned (.int .i64 30) ∧ w' = w) ∨ (C.opn = true ∧ e = .returned (.int .i64 0) ∧ CPost w w' cb d wb F C.abort) := by
  obtain ⟨hm, pm, ov, h1, ok, rfl⟩ := h
  obtain ⟨c0, c1, c2, c3, c4, c5, c6, c7, fz⟩ := h1.cells
  have hlen := ok.len
  have H1 := Lib.hid h1
  have OK := Lib.hid ok
  clear h1 fz c0 c1 c2 c4 c5 c6 c7 ok
  show Calls Try.prog 21 #[.pointer (some ⟨cb, 0, none⟩)] w _
  by_cases ho : C.opn = true
  · rw [ho] at c3
    have DR := Lib.hid (drop_pin H1.out OK.out.nd hlen)
    go_enter Try.func21, Try.ntmps21
    go_wp2_with fail
    refine DR.out.mono ?_
    rintro e w1 ⟨rfl, ov1, hov, h1, o1⟩
    have EN := Lib.hid (end_any h1)
    have O1 := Lib.hid o1
    clear DR h1 o1
    go_wp2_with fail
    refine EN.out.mono ?_
    rintro e w2 ⟨rfl, h2, o2⟩
    rw [runD_drop] at h2
    have FIN : Hid (CPost w w2 cb d wb (cfoot cb hm pm ov) C.abort) := CPost.mk (ov := ov) (C' := C.abort) h2 OK.out.abort (fun g hg => .inl (hov ▸ hg)) ((O1.out).trans o2 (fun x hx => .inl (by simpa [cfoot, hov] using hx)))
    clear EN h2 o2
    go_wp2
    go_ret
    exact .inr ⟨ho, rfl, FIN.out⟩
  · have ho' : C.opn = false := by simpa using ho
    rw [ho'] at c3
    go_enter Try.func21, Try.ntmps21
    go_wp2
    go_ret
    exact .inl ⟨ho', rfl, rfl⟩
end
end Go.Proofs.Ytoccnaebckcfmaa
