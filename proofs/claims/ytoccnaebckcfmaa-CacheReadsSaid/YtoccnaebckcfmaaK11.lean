/- Write. -/
import Derived.Test.YtoccnaebckcfmaaK10
set_option linter.unusedSimpArgs false
set_option linter.unusedVariables false
set_option maxRecDepth 8000
namespace Go.Proofs.Ytoccnaebckcfmaa
open Go.RowKit
open Go.ChangeMaps (setBlock)

def pinL (l : List Int) (i : Int) : List Int := if i ∈ l then l else l ++ [i]
theorem pinL_mem {l : List Int} {i x : Int} : x ∈ pinL l i ↔ x ∈ l ∨ x = i := by
  unfold pinL
  split
  · rename_i h
    constructor
    · exact .inl
    · rintro (h1 | h1)
      · exact h1
      · rw [h1]; exact h
  · simp
theorem pinL_nodup {l : List Int} (h : l.Nodup) (i : Int) : (pinL l i).Nodup := by
  unfold pinL
  split
  · exact h
  · rename_i hi
    rw [List.nodup_append]
    exact ⟨h, by simp, fun a ha b hb e => by simp at hb; exact hi (hb ▸ e ▸ ha)⟩
theorem setF_pinL (l : List Int) (i : Int) : updF (setF l) i #[] = setF (pinL l i) := by
  rw [setF_add]
  funext x
  unfold setF
  simp only [pinL_mem, List.mem_append, List.mem_singleton]
def CaS.write (C : CaS) (i : Int) (v : Array Value) : CaS := { C.use i v with pin := pinL C.pin i }
theorem CaOk.write {C : CaS} (ok : CaOk C) {i : Int} {v : Array Value} (h0 : 0 ≤ i) (h1 : i < 8192) (hv : SecOk v) : CaOk (C.write i v) := by
  have ok' := ok.use h0 h1 hv
  refine ⟨ok'.nd, ok'.hd, ok'.sec, pinL_nodup ok.pn i, fun k hk => ?_, ok'.rg, ok'.m0, ok'.m1, ok'.i0, ok'.i1⟩
  rcases pinL_mem.1 hk with h | h
  · exact ok'.ps k h
  · exact useL_mem.2 (.inr h)

section
variable {w : World} {cb d wb : Nat} {F FD : List Nat} {C : CaS} {S : St}

set_option maxHeartbeats 2000000 in
theorem cwrite_closed (h : CAt w cb d wb F C) (ho : C.opn = false) (i : Int) (bv : Value) : Calls Try.prog 16 #[pp cb, .int .i64 i, bv] w fun e w' => e = .returned (.int .i64 30) ∧ w' = w := by
  obtain ⟨hm, pm, ov, h1, ok, rfl⟩ := h
  obtain ⟨c0, c1, c2, c3, c4, c5, c6, c7, fz⟩ := h1.cells
  rw [ho] at c3
  clear h1 ok c0 c1 c2 c4 c5 c6 c7 fz
  show Calls Try.prog 16 #[.pointer (some ⟨cb, 0, none⟩), .int .i64 i, bv] w _
  go_enter Try.func16, Try.ntmps16
  go_wp2
  go_ret
  exact ⟨rfl, rfl⟩

set_option maxHeartbeats 2000000 in
theorem cwrite_place (h : CAt w cb d wb F C) (hd : DAt w d FD S) (ho : C.opn = true) {i : Int} (hi : i < 0 ∨ S.n ≤ i) (bv : Value) : Calls Try.prog 16 #[pp cb, .int .i64 i, bv] w fun e w' => e = .returned (.int .i64 10) ∧ w' = w := by
  obtain ⟨hm, pm, ov, h1, ok, rfl⟩ := h
  obtain ⟨c0, c1, c2, c3, c4, c5, c6, c7, fz⟩ := h1.cells
  rw [ho] at c3
  have c0' : w.cell? ⟨cb, 0, none⟩ = some (.pointer (some ⟨d, 0, none⟩)) := c0
  have LE := Lib.hid (len_any hd)
  clear h1 ok c0 c1 c2 c4 c5 c6 c7 fz hd
  show Calls Try.prog 16 #[.pointer (some ⟨cb, 0, none⟩), .int .i64 i, bv] w _
  by_cases hneg : i < 0
  · clear hi
    go_enter Try.func16, Try.ntmps16
    go_wp2
    go_ret
    exact ⟨rfl, rfl⟩
  · have hge : S.n ≤ i := by omega
    clear hi
    go_enter Try.func16, Try.ntmps16
    go_wp2_with (go_at_call 45; refine LE.out.mono ?_; rintro e w' ⟨rfl, rfl⟩)
    go_ret
    exact ⟨rfl, rfl⟩

set_option maxHeartbeats 2000000 in
theorem cwrite_bytes (h : CAt w cb d wb F C) (hd : DAt w d FD S) (ho : C.opn = true) {i : Int} (h0 : 0 ≤ i) (h1 : i < S.n) {ba : Option Addr} {n cap : Nat} (hn : n ≠ 64) : Calls Try.prog 16 #[pp cb, .int .i64 i, .slice ba n cap] w fun e w' => e = .returned (.int .i64 11) ∧ w' = w := by
  obtain ⟨hm, pm, ov, h1', ok, rfl⟩ := h
  obtain ⟨c0, c1, c2, c3, c4, c5, c6, c7, fz⟩ := h1'.cells
  rw [ho] at c3
  have c0' : w.cell? ⟨cb, 0, none⟩ = some (.pointer (some ⟨d, 0, none⟩)) := c0
  have LE := Lib.hid (len_any hd)
  have hnb : ((n : Int) != 64) = true := by simp; omega
  clear h1' ok c0 c1 c2 c4 c5 c6 c7 fz hd
  show Calls Try.prog 16 #[.pointer (some ⟨cb, 0, none⟩), .int .i64 i, .slice ba n cap] w _
  go_enter Try.func16, Try.ntmps16
  go_wp2_with (go_at_call 45; refine LE.out.mono ?_; rintro e w' ⟨rfl, rfl⟩)
  go_ret
  exact ⟨rfl, rfl⟩

theorem build82 (w : World) : (Instr.build 82 #[]).run Try.prog w = .ok (.agg #[]) w := by kernel_rfl

set_option maxHeartbeats 4000000 in
theorem cwrite_ok (h : CAt w cb d wb F C) (hd : DAt w d FD S) (ho : C.opn = true) {i : Int} (h0 : 0 ≤ i) (h1 : i < S.n) (hsn : S.n ≤ 8192) {bv : Value} {v : Array Value} (hb : Bytes64 w [] bv v) : Calls Try.prog 16 #[pp cb, .int .i64 i, bv] w fun e w' => e = .returned (.int .i64 0) ∧ CPost w w' cb d wb F (C.write i v) := by
  obtain ⟨hm, pm, ov, h1', ok, rfl⟩ := h
  obtain ⟨hv, g, o, cap, rfl, hg, _, hsrc0⟩ := hb
  obtain ⟨c0, c1, c2, c3, c4, c5, c6, c7, fz⟩ := h1'.cells
  rw [ho] at c3
  have c0' : w.cell? ⟨cb, 0, none⟩ = some (.pointer (some ⟨d, 0, none⟩)) := c0
  have LE := Lib.hid (len_any hd)
  have hlen := ok.len
  have oz : Only [] w (w.alloc (.cells Z 69)) := (Only.refl [] w).alloc _
  have hbz := heap_alloc_last w (.cells Z 69)
  have hsrc : ∀ j u, v.toList[j]? = some u → (w.alloc (.cells Z 69)).cell? ((⟨g, o, none⟩ : Addr).add j) = some u := fun j u hu => by
    rw [Addr.add_mid, World.cell?_alloc_lt _ _ _ hg]
    exact hsrc0 j u hu
  have o2 : Only [] w ((w.alloc (.cells Z 69)).setRow w.heap.size v) := oz.setRow (.inr (Nat.le_refl _)) _
  have hb2 : ((w.alloc (.cells Z 69)).setRow w.heap.size v).heap[w.heap.size]? = some (.cells v 69 (0, 0)) := heap_setRow_same hbz
  have h2 := h1'.only o2 (by simp)
  have HO := Lib.hid (hold_any h2 ok.nd hlen i v hv)
  have HBZ := Lib.hid hbz
  have HSRC := Lib.hid hsrc
  have O2 := Lib.hid o2
  have HB2 := Lib.hid hb2
  have OK := Lib.hid ok
  have hbu := build82
  clear h1' ok c0 c1 c2 c4 c5 c6 c7 fz hd hsrc0 hsrc hbz hb2 h2 o2 oz
  show Calls Try.prog 16 #[.pointer (some ⟨cb, 0, none⟩), .int .i64 i, .slice (some ⟨g, o, none⟩) 64 cap] w _
  generalize hW2 : (w.alloc (.cells Z 69)).setRow w.heap.size v = w2 at *
  go_enter Try.func16, Try.ntmps16
  go_wp2_with (first | (go_at_call 45; refine LE.out.mono ?_; rintro e w' ⟨rfl, rfl⟩) | (refine wpL_alloc0 zero69 rfl rfl ?_) | (refine wpL_copyG rfl rfl rfl rfl HBZ.out (by rfl) hv HSRC.out ?_; rw [hW2]) | (refine wpL_value rfl (run_load69 rfl rfl HB2.out hv.1) ?_))
  refine HO.out.mono ?_
  rintro e w3 ⟨rfl, ov3, hg3, h3, o3⟩
  obtain ⟨-, -, -, -, -, -, -, d7, -⟩ := h3.cells
  have M3 := Lib.hid h3.pinned
  have H3 := Lib.hid h3
  have O3 := Lib.hid o3
  clear HO h3 o3 hW2
  go_wp2_with (refine wpL_update92 rfl rfl rfl rfl rfl M3.out ?_; intro ob hob)
  go_ret
  have hH := H3.out
  obtain ⟨a1, a2, a3, a4⟩ := hH.apart
  have hn : ∀ x, x ≠ pm → (setBlock w3 pm ob).heap[x]? = w3.heap[x]? := fun x hx => heap_setBlock_ne w3 pm ob hx
  rw [setF_pinL] at hob
  refine ⟨rfl, CPost.mk (ov := ov) (C' := C.write i v) (ov' := ov3) ⟨(hn cb a2).trans hH.row, mapAt_congr hH.held (hn hm a3), hob, ownsRow_congr' hH.ord (fun g hg => hn g (a4 g hg).2.2), hH.ne⟩ (OK.out.write h0 (by omega) hv) (fun g hg => ?_) (((O2.out.mono (F' := cfoot cb hm pm ov) (by simp)).trans O3.out (fun x hx => .inl hx)).setBlock (.inl (by simp [cfoot])) _)⟩
  rcases hg3 g hg with h | h
  · exact .inl h
  · exact .inr (Nat.le_trans O2.out.size h)
end
end Go.Proofs.Ytoccnaebckcfmaa
