/- Read of a sector that is not cached; Write; New. -/
import Derived.Test.YtoccnaebckcfmaaK9
set_option linter.unusedSimpArgs false
set_option linter.unusedVariables false
set_option maxRecDepth 8000
namespace Go.Proofs.Ytoccnaebckcfmaa
open Go.RowKit
open Go.ChangeMaps (setBlock)

theorem CIs.setMiss {w : World} {cb d wb hm pm : Nat} {ov : Value} {C : CaS} (h : CIs w cb d wb hm pm ov C) (m : Int) : CIs (w.setCell ⟨cb, 4, none⟩ (.int .i64 m)) cb d wb hm pm ov { C with miss := m } := by
  obtain ⟨a1, a2, a3, a4⟩ := h.apart
  refine ⟨?_, mapAt_congr h.held (Below.heap_setCell _ _ _ _ (by simpa using Ne.symm a1)), mapAt_congr h.pinned (Below.heap_setCell _ _ _ _ (by simpa using Ne.symm a2)), ownsRow_congr' h.ord (fun g hg => Below.heap_setCell _ _ _ _ (by simpa using (a4 g hg).1)), h.ne⟩
  rw [heap_setCell_row h.row]
  simp [crow]

set_option maxHeartbeats 4000000 in
theorem read_miss {w : World} {cb d wb : Nat} {F FD : List Nat} {C : CaS} {S : St} (h : CAt w cb d wb F C) (hd : DAt w d FD S) {i : Int} (hi : C.held i = none) (hr : S.reach i = 0) (hm1 : C.miss < 1000000000) (hsn : S.n ≤ 8192) :
    Calls Try.prog 12 #[pp cb, .int .i64 i] w fun e w' => ReadPost w cb d wb F (({ C with miss := C.miss + 1 } : CaS).use i ((S.now i).getD Z)).evict ((S.now i).getD Z) e w' := by
  obtain ⟨hm, pm, ov, h1, ok, rfl⟩ := h
  have hv : SecOk ((S.now i).getD Z) := by
    obtain ⟨_, _, _, q, _⟩ := hd
    exact secOk_getD q.ok.now i
  have hrg : 0 ≤ i ∧ i < 8192 := by
    unfold St.reach at hr
    split at hr
    · omega
    · split at hr
      · omega
      · omega
  have hlen := ok.len
  have lt := h1.lt
  have oz : Only [] w (w.alloc (.cells Z 69)) := (Only.refl [] w).alloc _
  have hdz : DAt (w.alloc (.cells Z 69)) d FD S := dAt_congr hd (fun x hx => oz.block x (dAt_lt hd x hx) (by simp))
  have hz1 := h1.only oz (by simp)
  have FE0 := fetch_ok hz1.cells.1 hdz i hr
  simp only [World.size_alloc] at FE0
  generalize (S.now i).getD Z = v at *
  have FE := Lib.hid FE0
  have HM := Lib.hid h1.held
  obtain ⟨c0, c1, c2, c3, c4, c5, c6, c7, fz⟩ := h1.cells
  -- behind fetch
  have o2 : Only [] w ((w.alloc (.cells Z 69)).alloc (.cells v 93)) := oz.alloc _
  have hb2 : ((w.alloc (.cells Z 69)).alloc (.cells v 93)).heap[w.heap.size]? = some (.cells Z 69 (0, 0)) := by rw [Below.heap_alloc _ _ _ (by simp)]; exact heap_alloc_last w _
  have hsrc : ∀ j u, v.toList[j]? = some u → ((w.alloc (.cells Z 69)).alloc (.cells v 93)).cell? ((⟨w.heap.size + 1, 0, none⟩ : Addr).add j) = some u := fun j u hu => by
    have hq := heap_alloc_last (w.alloc (.cells Z 69)) (.cells v 93)
    rw [World.size_alloc] at hq
    rw [Addr.add_mid, Nat.zero_add, cell_of_row _ _ _ _ _ _ hq, ← Array.getElem?_toList]
    exact hu
  -- behind copy
  have o3 : Only [] w (((w.alloc (.cells Z 69)).alloc (.cells v 93)).setRow w.heap.size v) := o2.setRow (.inr (Nat.le_refl _)) _
  have h3 := h1.only o3 (by simp)
  have hb3 : (((w.alloc (.cells Z 69)).alloc (.cells v 93)).setRow w.heap.size v).heap[w.heap.size]? = some (.cells v 69 (0, 0)) := heap_setRow_same hb2
  have hs3 : (((w.alloc (.cells Z 69)).alloc (.cells v 93)).setRow w.heap.size v).heap.size = w.heap.size + 2 := by rw [size_setRow]; simp
  obtain ⟨q0, q1, q2, q3, q4, q5, q6, q7, qz⟩ := h3.cells
  have qz4 := qz 4
  have HB2 := Lib.hid hb2
  have HSRC := Lib.hid hsrc
  have i0 := ok.i0
  have e1 : (C.held i).getD Z = Z := by rw [hi]; rfl
  have e2 : (C.held i).isSome = false := by rw [hi]; rfl
  have OK := Lib.hid ok
  have LT := Lib.hid lt
  have H3 := Lib.hid h3
  have O3 := Lib.hid o3
  have HB3 := Lib.hid hb3
  have HS3 := Lib.hid hs3
  clear h1 c0 c1 c2 c3 c4 c6 c7 fz ok lt hi hd hdz hz1 FE0 o2 o3 oz h3 hb2 hb3 hs3 hsrc q0 q1 q2 q3 q5 q6 q7 qz
  show Calls Try.prog 12 #[.pointer (some ⟨cb, 0, none⟩), .int .i64 i] w _
  go_enter Try.func12, Try.ntmps12
  go_wp2_with (first | (refine wpL_lookG Try.underlying71 zero69 rfl rfl rfl rfl HM.out ?_; simp only [if_true, e1, e2]) | (refine wpL_alloc0 zero69 rfl rfl ?_) | (refine wpL_store0 info69 (by rfl) (by rfl) Z_ok.2 rfl rfl rfl rfl ?_))
  refine FE.out.mono ?_
  rintro e w2 ⟨rfl, rfl⟩
  clear FE
  generalize hW3 : ((w.alloc (.cells Z 69)).alloc (.cells v 93)).setRow w.heap.size v = w3 at *
  have h4 := H3.out.setMiss (C.miss + 1)
  have hb4 : (w3.setCell ⟨cb, 4, none⟩ (.int .i64 (C.miss + 1))).heap[w.heap.size]? = some (.cells v 69 (0, 0)) := by
    rw [Below.heap_setCell _ _ _ _ (fun e => by have := LT.out cb (by simp [cfoot]); simp only at e; omega)]
    exact HB3.out
  have hs4 : (w3.setCell ⟨cb, 4, none⟩ (.int .i64 (C.miss + 1))).heap.size = w.heap.size + 2 := by rw [World.size_setCell]; exact HS3.out
  have o4 : Only (cfoot cb hm pm ov) w (w3.setCell ⟨cb, 4, none⟩ (.int .i64 (C.miss + 1))) := (O3.out.mono (by simp)).setCell (p := ⟨cb, 4, none⟩) (.inl (by simp [cfoot])) _
  have okm := OK.out.missed hm1
  have HO := Lib.hid (hold_any h4 OK.out.nd hlen i v hv)
  have HB4 := Lib.hid hb4
  have HS4 := Lib.hid hs4
  have O4 := Lib.hid o4
  have OKM := Lib.hid okm
  clear h4 hb4 hs4 o4 okm
  go_wp2_with (first | (refine wpL_copyG rfl rfl rfl rfl HB2.out (by rfl) hv HSRC.out ?_; rw [hW3]) | (refine wpL_value rfl (run_load69 rfl rfl HB4.out hv.1) ?_))
  clear hW3
  generalize w3.setCell ⟨cb, 4, none⟩ (.int .i64 (C.miss + 1)) = w4 at *
  refine HO.out.mono ?_
  rintro e w5 ⟨rfl, ov5, hg5, h5, o5⟩
  have h5' : CIs w5 cb d wb hm pm ov5 (({ C with miss := C.miss + 1 } : CaS).use i v) := h5
  have EV := Lib.hid (evict_any h5' (OKM.out.use hrg.1 hrg.2 hv))
  have O5 := Lib.hid o5
  clear h5 h5' o5 HO
  go_wp2_with fail
  refine EV.out.mono ?_
  rintro e w6 ⟨rfl, ov6, hov, h6, o6⟩
  have FIN := Lib.hid (read_tail (e2 := .returned (.tuple #[])) (e3 := .returned (.tuple #[])) (.inr HS4.out) LT.out O4.out HB4.out OKM.out hrg.1 hrg.2 hv hg5 O5.out hov h6 o6)
  clear h6 o6 EV
  go_wp2
  go_ret2
  exact FIN.out

set_option maxHeartbeats 2000000 in
theorem read_none {w : World} {cb d wb : Nat} {F FD : List Nat} {C : CaS} {S : St} (h : CAt w cb d wb F C) (hd : DAt w d FD S) {i : Int} (hi : C.held i = none) (hr : S.reach i ≠ 0) :
    Calls Try.prog 12 #[pp cb, .int .i64 i] w fun e w' => e = .returned (.tuple #[.slice none 0 0, .int .i64 (S.reach i)]) ∧ Only [] w w' := by
  obtain ⟨hm, pm, ov, h1, ok, rfl⟩ := h
  have oz : Only [] w (w.alloc (.cells Z 69)) := (Only.refl [] w).alloc _
  have hdz : DAt (w.alloc (.cells Z 69)) d FD S := dAt_congr hd (fun x hx => oz.block x (dAt_lt hd x hx) (by simp))
  have hz1 := h1.only oz (by simp)
  have FE := Lib.hid (fetch_no hz1.cells.1 hdz i hr)
  have HM := Lib.hid h1.held
  obtain ⟨c0, c1, c2, c3, c4, c5, c6, c7, fz⟩ := h1.cells
  have e1 : (C.held i).getD Z = Z := by rw [hi]; rfl
  have e2 : (C.held i).isSome = false := by rw [hi]; rfl
  have hrb : (S.reach i != 0) = true := by simpa using hr
  clear h1 c0 c1 c2 c3 c4 c6 c7 fz ok hi hd hdz hz1 oz
  show Calls Try.prog 12 #[.pointer (some ⟨cb, 0, none⟩), .int .i64 i] w _
  go_enter Try.func12, Try.ntmps12
  go_wp2_with (first | (refine wpL_lookG Try.underlying71 zero69 rfl rfl rfl rfl HM.out ?_; simp only [if_true, e1, e2]) | (refine wpL_alloc0 zero69 rfl rfl ?_) | (refine wpL_store0 info69 (by rfl) (by rfl) Z_ok.2 rfl rfl rfl rfl ?_))
  refine FE.out.mono ?_
  rintro e w2 ⟨rfl, rfl⟩
  clear FE
  go_wp2
  go_ret2
  exact ⟨rfl, (Only.refl [] w).alloc _⟩

/-- A new cache. -/
def CaS.new (most : Int) : CaS := ⟨most, false, 0, fun _ => none, [], []⟩
theorem CaOk.new {most : Int} (h1 : 1 ≤ most) (h2 : most ≤ 9223372036854775807) : CaOk (CaS.new most) := ⟨List.nodup_nil, by simp [CaS.new], by simp [CaS.new], List.nodup_nil, by simp [CaS.new], by simp [CaS.new], h1, h2, by simp [CaS.new], by simp [CaS.new]⟩

set_option maxHeartbeats 2000000 in
theorem cnew_any (w : World) (d wb : Nat) {most : Int} (h1 : 1 ≤ most) (h2 : most ≤ 9223372036854775807) :
    Calls Try.prog 30 #[pp d, pp wb, .int .i64 most] w fun e w' => ∃ cb F, e = .returned (.tuple #[pp cb, .int .i64 0]) ∧ CAt w' cb d wb F (CaS.new most) ∧ (∀ x ∈ F, w.heap.size ≤ x) ∧ Only [] w w' := by
  show Calls Try.prog 30 #[.pointer (some ⟨d, 0, none⟩), .pointer (some ⟨wb, 0, none⟩), .int .i64 most] w _
  have mk1 : ∀ w, (Instr.makeMap 71 none).run Try.prog w = .ok (.map (some w.heap.size)) (w.alloc (.map #[] 0)) := fun w => by kernel_rfl
  have mk2 : ∀ w, (Instr.makeMap 72 none).run Try.prog w = .ok (.map (some w.heap.size)) (w.alloc (.map #[] 0)) := fun w => by kernel_rfl
  go_enter Try.func30, Try.ntmps30
  go_wp2
  go_ret2
  have o3 : Only [] w (((w.alloc (.map #[] 0)).alloc (.map #[] 0)).alloc (.cells #[.pointer (some ⟨d, 0, none⟩), .pointer (some ⟨wb, 0, none⟩), .int .i64 most, .bool false, .int .i64 0, .map (some w.heap.size), .slice none 0 0, .map (some (w.heap.size + 1))] 74)) := (((Only.refl [] w).alloc _).alloc _).alloc _
  have m1 : MapAt (((w.alloc (.map #[] 0)).alloc (.map #[] 0)).alloc (.cells #[.pointer (some ⟨d, 0, none⟩), .pointer (some ⟨wb, 0, none⟩), .int .i64 most, .bool false, .int .i64 0, .map (some w.heap.size), .slice none 0 0, .map (some (w.heap.size + 1))] 74)) w.heap.size (fun _ => none) := mapAt_congr (mapAt_made w) (by rw [Below.heap_alloc _ _ _ (by simp; omega), Below.heap_alloc _ _ _ (by simp)])
  have m2 : MapAt (((w.alloc (.map #[] 0)).alloc (.map #[] 0)).alloc (.cells #[.pointer (some ⟨d, 0, none⟩), .pointer (some ⟨wb, 0, none⟩), .int .i64 most, .bool false, .int .i64 0, .map (some w.heap.size), .slice none 0 0, .map (some (w.heap.size + 1))] 74)) (w.heap.size + 1) (fun _ => none) := by
    have := mapAt_made (w.alloc (.map #[] 0))
    rw [World.size_alloc] at this
    exact mapAt_congr this (by rw [Below.heap_alloc _ _ _ (by simp)])
  have b3 := heap_alloc_last ((w.alloc (.map #[] 0)).alloc (.map #[] 0)) (.cells #[.pointer (some ⟨d, 0, none⟩), .pointer (some ⟨wb, 0, none⟩), .int .i64 most, .bool false, .int .i64 0, .map (some w.heap.size), .slice none 0 0, .map (some (w.heap.size + 1))] 74)
  simp only [World.size_alloc] at b3
  refine ⟨w.heap.size + 1 + 1, cfoot (w.heap.size + 1 + 1) w.heap.size (w.heap.size + 1) (.slice none 0 0), rfl, ⟨w.heap.size, w.heap.size + 1, .slice none 0 0, ⟨b3, m1, by simp only [CaS.new, setF_nil]; exact m2, World.ownsRow_nil _ _ _ _, by omega⟩, CaOk.new h1 h2, rfl⟩, fun x hx => ?_, o3⟩
  simp [cfoot, Value.ownBlock] at hx
  omega
end Go.Proofs.Ytoccnaebckcfmaa
