/- group: the transaction's writes, sorted. -/
import Derived.Test.YtoccnaebckcfmaaK11
set_option linter.unusedSimpArgs false
set_option linter.unusedVariables false
set_option maxRecDepth 8000
namespace Go.Proofs.Ytoccnaebckcfmaa
open Go.RowKit
open Go.ChangeMaps (setBlock)

theorem sorted_perm (l : List Int) : (sorted l).Perm l := List.mergeSort_perm l _
theorem sorted_len (l : List Int) : (sorted l).length = l.length := (sorted_perm l).length_eq
theorem sorted_mem {l : List Int} {x : Int} : x ∈ sorted l ↔ x ∈ l := (sorted_perm l).mem_iff

/-- The writes of a transaction. -/
def putsC (C : CaS) : List (Int × Array Value) := (sorted C.pin).map (fun k => (k, (C.held k).getD Z))
theorem putsC_len (C : CaS) : (putsC C).length = C.pin.length := by simp [putsC, sorted_len]

def CGPost (FD : List Nat) (ps : List (Int × Array Value)) (w : World) (e : Ending) (w' : World) : Prop := ∃ lv, e = .returned lv ∧ PutsAt w' FD lv ps ∧ Only [] w w'

set_option maxHeartbeats 4000000 in
theorem cgroup_any {w : World} {cb d wb hm pm : Nat} {ov : Value} {C : CaS} (h : CIs w cb d wb hm pm ov C) (ok : CaOk C) {FD : List Nat} (hFD : ∀ x ∈ FD, x < w.heap.size) :
    Calls Try.prog 47 #[pp cb] w fun e w' => CGPost FD (putsC C) w e w' := by
  have hpl : C.pin.length ≤ 8192 := Nat.le_trans ok.plen ok.len
  have KE := Lib.hid (keys_any (some pm) w)
  have o1 : Only [] w (w.alloc (.cells #[.map (some pm)] 72)) := (Only.refl [] w).alloc _
  have hB : (w.alloc (.cells #[.map (some pm)] 72)).cell? ⟨w.heap.size, 0, none⟩ = some (.map (some pm)) := by rw [cell_of_row _ _ _ _ _ _ (heap_alloc_last w (.cells #[.map (some pm)] 72))]; rfl
  have SO := Lib.hid (sorted_any (Bm := w.heap.size) (mapAt_congr h.pinned (o1.block pm (mapAt_lt h.pinned) (by simp))) ok.pn (fun x hx => ok.rg x (ok.ps x hx)) hpl hB (by simp))
  obtain ⟨c0, c1, c2, c3, c4, c5, c6, c7, fz⟩ := h.cells
  have H := Lib.hid h
  have OK := Lib.hid ok
  have ltcb := h.lt cb (by simp [cfoot])
  have lthm := mapAt_lt h.held
  clear h ok c0 c1 c2 c3 c4 c5 c6 fz hB
  show Calls Try.prog 47 #[.pointer (some ⟨cb, 0, none⟩)] w _
  go_enter Try.func47, Try.ntmps47
  go_wp2_with (go_at_call 75; refine KE.out.mono ?_; rintro e w' ⟨rfl, rfl⟩)
  generalize w.alloc (.cells #[.map (some pm)] 72) = w1 at *
  refine SO.out.mono ?_
  rintro e w2 ⟨v, rfl, hr, o2⟩
  have o12 := o1.trans o2 (by simp)
  clear KE SO o1 o2
  have hpl' := putsC_len C
  rcases hr.2 with ⟨rfl, hn⟩ | ⟨g, cap, cur, rfl, _, hh, h1, h2, h3, h4⟩
  · have hnil : putsC C = [] := List.eq_nil_of_length_eq_zero (by omega)
    have O := Lib.hid o12
    clear hr o12
    go_wp2
    go_loopw [14, 3] (fun j c wr => j = .int .i64 0 ∧ c = .slice none 0 0 ∧ wr = w2) (fun _ _ _ => 0)
    case atStart => exact ⟨rfl, rfl, rfl⟩
    case round =>
      obtain ⟨rfl, rfl, rfl⟩ := hrel
      go_wp2
      go_ret
      rw [hnil]
      exact ⟨_, rfl, ⟨none, 0, rfl, by simp, by simp⟩, O.out⟩
  · have hc5 : w2.cell? ⟨cb, 5, none⟩ = some (.map (some hm)) := (World.cell?_of_block (o12.block cb ltcb (by simp))).trans H.out.cells.2.2.2.2.2.1
    have hMh := mapAt_congr H.out.held (o12.block hm lthm (by simp))
    have hcell : ∀ k x, (sorted C.pin)[k]? = some x → w2.cell? ⟨g, k, none⟩ = some (.int .i64 x) := fun k x hx => by
      have hk := (List.getElem?_eq_some_iff.1 hx).1
      rw [sorted_len] at hk
      have := congrArg (·[k]?) h4
      simp only [Nat.mul_one, List.getElem?_take_of_lt hk, List.getElem?_map, hx, Option.map_some] at this
      rw [cell_of_row _ _ _ _ _ _ hh, ← Array.getElem?_toList, this]
    have hglt := (Array.getElem?_eq_some_iff.1 hh).1
    have hcb2 := o12.size
    have HCELL := Lib.hid hcell
    have HMH := Lib.hid hMh
    have O12 := Lib.hid o12
    clear hr o12 hcell hMh hh h3 h4
    go_wp2
    go_loopw [14, 3] (fun j c wr => ∃ k : Nat, k ≤ C.pin.length ∧ j = .int .i64 k ∧ Built w2 wr FD c ((putsC C).take k) ∧ Only [] w2 wr) (fun j _ _ => C.pin.length - (RowKit.intOf j).toNat)
    case atStart => exact ⟨0, by omega, rfl, Built.nil _ _ _, Only.refl _ _⟩
    case round =>
      obtain ⟨k, hk, rfl, hbu, ow⟩ := hrel
      obtain ⟨la, lc, hc⟩ := hbu.slice
      rw [List.length_take, putsC_len, Nat.min_eq_left hk] at hc
      subst hc
      by_cases hkn : k < C.pin.length
      · obtain ⟨x, hx⟩ : ∃ x, (sorted C.pin)[k]? = some x := ⟨_, List.getElem?_eq_getElem (by rw [sorted_len]; exact hkn)⟩
        have hxp : x ∈ C.pin := sorted_mem.1 (List.mem_of_getElem? hx)
        have cx : wr.cell? ⟨g, k, none⟩ = some (.int .i64 x) := (World.cell?_of_block (ow.block g hglt (by simp))).trans (HCELL.out k x hx)
        have c5 : wr.cell? ⟨cb, 5, none⟩ = some (.map (some hm)) := (World.cell?_of_block (ow.block cb (by omega) (by simp))).trans hc5
        have hm1 := mapAt_congr HMH.out (ow.block hm (by omega) (by simp))
        have hv : SecOk ((C.held x).getD Z) := by
          cases hq : C.held x with
          | none => exact Z_ok
          | some u => exact OK.out.sec x u hq
        have htk : (putsC C).take (k + 1) = (putsC C).take k ++ [(x, (C.held x).getD Z)] := by
          rw [List.take_add_one]
          congr 1
          simp [putsC, hx]
        have hq1 := heap_alloc_last wr (.cells ((C.held x).getD Z) 69)
        have ow1 : Only [] w2 (wr.alloc (.cells ((C.held x).getD Z) 69)) := ow.alloc _
        have hs1 := ow.size
        have src : Src2 w2 (wr.alloc (.cells ((C.held x).getD Z) 69)) FD (.slice (some ⟨wr.heap.size, 0, none⟩) 64 64) ((C.held x).getD Z) :=
          ⟨hv, wr.heap.size, 0, 64, rfl, by simp, fun hx => by have := hFD _ hx; omega, fun j u hu => by rw [Nat.zero_add, cell_of_row _ _ _ _ _ _ hq1, ← Array.getElem?_toList]; exact hu, .inr ⟨_, 69, hq1, by decide⟩⟩
        obtain ⟨v4, w4, hrun, hb4, ow4, _, _⟩ := (hbu.keep ((Only.refl [] wr).alloc (.cells ((C.held x).getD Z) 69))).append ow1 (i := x) src (by rw [List.length_take]; omega) 79
        simp only [World.size_alloc] at hrun
        rw [← htk] at hb4
        have RUN := Lib.hid hrun
        have HB4 := Lib.hid hb4
        have OW4 := Lib.hid ow4
        have M1 := Lib.hid hm1
        generalize hvx : (C.held x).getD Z = vx at *
        clear hbu ow hrun hb4 ow4 src hq1 ow1 htk hm1 hc5 hs1
        go_wp2_with (first | (refine wpL_lookG Try.underlying71 zero69 rfl rfl rfl rfl M1.out ?_; simp only [Bool.false_eq_true, if_false, hvx]) | (refine wpL_alloc0 zero69 rfl rfl ?_) | (refine wpL_store0 info69 (by rfl) hv.1 hv.2 rfl rfl rfl rfl ?_) | (refine wpL_value rfl (run_builtin_append rfl rfl rfl RUN.out) ?_))
        go_roundw
        case rel => exact ⟨k + 1, by omega, by go_num, HB4.out, OW4.out⟩
        case measure => simp [RowKit.intOf]; omega
      · have hkl : k = C.pin.length := by omega
        have PU := hbu.puts (fun y hy => by have := hFD y hy; omega) (by rw [List.length_take]; omega)
        rw [List.take_of_length_le (by omega)] at PU
        have FIN : Hid (CGPost FD (putsC C) w (.returned (.slice la k lc)) wr) := (⟨_, rfl, PU, O12.out.trans ow (by simp)⟩ : CGPost FD (putsC C) w (.returned (.slice la k lc)) wr)
        clear hbu PU ow
        subst hkl
        go_wp2
        go_ret
        exact FIN.out
end Go.Proofs.Ytoccnaebckcfmaa
