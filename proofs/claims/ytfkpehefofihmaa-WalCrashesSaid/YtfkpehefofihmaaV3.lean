/- WalCrashes, walked. -/
import Derived.Test.YtfkpehefofihmaaV2
import Derived.Deep.CutBlock
import Derived.Deep.DeepCutAuto
set_option linter.unusedSimpArgs false
set_option linter.unusedVariables false
set_option maxRecDepth 8000
namespace Go.Proofs.Ytfkpehefofihmaa
open Go.RowKit

section
variable {o : Oper} {a : Act} {w : World}
theorem run_field35 {x : Operand} {b k : Nat} (hk : k < 4) (ho : o.op = .fieldAddr 35 x k) (hx : a.eval x = .pointer (some ⟨b, 0, none⟩)) :
    ∀ w, (execOp a.eval o).run Try.prog w = .ok (.value (.pointer (some ⟨b, k, none⟩))) w := by
  intro w
  have : k = 0 ∨ k = 1 ∨ k = 2 ∨ k = 3 := by omega
  unfold execOp
  simp only [ho, hx]
  rcases this with rfl | rfl | rfl | rfl <;> go_simp
end
theorem isAgg32x (w : World) : (isAgg 32).run Try.prog w = .ok false w := by kernel_rfl
theorem does_lenE {o : Oper} {a : Act} {w : World} {x : Operand} {b : Nat} {F : List Nat} {S : St} {t : TypeId} {n : Int} (hd : DAt w b F S) (hn : S.n = n) (ho : o.op = .call { callee := .value (.func 15), args := #[x], argTypes := #[t] }) (hx : a.eval x = .pointer (some ⟨b, 0, none⟩)) : Does Try.prog o a w (.int .i64 n) w := hn ▸ does_len hd ho hx
theorem LogOut.nn {S : St} {a s n N : Int} {f : Int → Array Value} {ps : List (Int × Array Value)} (h : LogOut S a s n N f ps) : S.n = N := by
  rcases h with h | h | h
  · exact h.dn
  · exact h.dn
  · exact h.dn
theorem fused_steps (S : St) (m : Int) : (S.fused m).steps = S.steps := by unfold St.fused; split <;> rfl
theorem fused_pend (S : St) (m : Int) : (S.fused m).pend = S.pend := by unfold St.fused; split <;> rfl
theorem isB_Z : IsB Z := ⟨List.replicate 64 0, by simp, by simp, by rw [← sec_zero]⟩
theorem log_ground {a : Int} (ha : 0 ≤ a) (ha1 : a ≤ 60) : LogIs (quiet 100 2 (updF (fun _ => none) a (headA a 40 0 0))) a 40 0 100 (fun _ => Z) := by
  refine ⟨calm_quiet _ _ _, rfl, ?_, fun x hx => ?_⟩
  · show (updF (fun _ => none) a (headA a 40 0 0) a).getD Z = _
    rw [updF, if_pos rfl, Option.getD_some]
  · show (updF (fun _ => none) a (headA a 40 0 0) x).getD Z = _
    rw [updF, if_neg (by omega), Option.getD_none]

set_option maxHeartbeats 8000000 in
theorem crashes_any (w : World) (place : Int) (hp0 : -9223372036854775808 ≤ place) (hp1 : place ≤ 9223372036854775807) (ad : Option Addr) (len cap : Nat) (K N : Nat → Int) (lv kv : Nat → Value) (rs : Nat → List (Int × Nat)) (vs : Nat → Nat → Array Value) (keep : Nat → List Int) (hin : OpsIn w ad len K N lv kv rs vs keep) :
    Calls Try.prog 3 #[.int .i64 place, .slice ad len cap] w fun e w' => e = .returned (.bool true) ∧ Only [] w w' := by
  have SH := Lib.hid (shown_any w)
  have hsm := hin.small
  have HIN := Lib.hid hin
  have hbs := buildSlice32_0
  clear hin
  have AM := fun w1 => among_any place 61 w1 hp0 hp1 (by omega) (by omega)
  obtain ⟨ha, ha1'⟩ := amongF_bd place 61 (by omega)
  have ha1 : amongF place 61 ≤ 60 := by omega
  generalize amongF place 61 = a at *
  have AMH := Lib.hid AM
  clear AM ha1'
  go_enter Try.func3, Try.ntmps3
  go_wp2_with fail
  refine SH.out.mono ?_
  rintro e w1 ⟨rfl, o1⟩
  have G := Lib.hid (ground_any ((Has.start w).later o1) a ha ha1)
  clear SH o1
  go_wp2_with fail
  refine (AMH.out w1).mono ?_
  rintro e w1' ⟨rfl, rfl⟩
  go_wp2_with fail
  refine G.out.mono ?_
  rintro e w2 ⟨b, F, wb, rfl, h⟩
  have R := Lib.hid (rows_any h.swap rfl a ha (by omega))
  clear G h
  go_wp2_with fail
  refine R.out.mono ?_
  rintro e w3 ⟨G, hv, rfl, h3⟩
  rw [rows_of_log (log_ground ha ha1)] at h3
  have hq := ((h3.alloc' (.cells #[] 54)).swap).pull (L1 := [_, _]) (L2 := [])
  have c0 : CRel w a b 0 (pv wb) hv (.int .i64 0) (.slice (some ⟨w3.heap.size, 0, none⟩) 0 0) (.bool false) (.bool false) (w3.alloc (.cells #[] 54)) :=
    CRel.mk ⟨0, fun _ => Z, quiet 100 2 (updF (fun _ => none) a (headA a 40 0 0)), F, wb, G, hv⟩ ⟨by simp, by simp, by simp [quiet], by simp [quiet], fun _ => isB_Z, hq.swap⟩ (.inl ⟨log_ground ha ha1, rfl, rfl⟩)
  have C0 := Lib.hid c0
  clear R h3 hq c0
  obtain ⟨hva, hvc, hvl, rfl⟩ : ∃ x y z, hv = Value.slice x y z := by
    obtain ⟨X, -, e, -, hC, -⟩ := C0.out
    obtain ⟨x, y, e2⟩ := (hC.has.qat (G := X.G) (v := X.hv) (vs := rowsF a X.f) (by simp)).slice
    exact ⟨x, _, y, e.trans e2⟩
  go_wp2
  go_loopw [15, 8, 9, 11, 12, 13, 14] (fun x v8 v9 v11 v12 v13 v14 wr => ∃ i : Nat, i ≤ min len 60 ∧ x = .int .i64 i ∧ CRel w a b i v8 v9 v11 v12 v13 v14 wr) (fun x _ _ _ _ _ _ _ => min len 60 - (intOf x).toNat)
  case atStart => exact ⟨0, by omega, rfl, C0.out⟩
  case round =>
    clear C0
    obtain ⟨i, hi, rfl, X, rfl, rfl, rfl, hC, hM⟩ := hrel
    by_cases hlt : i < min len 60
    · have hil : i < len := by omega
      have hi60 : i < 60 := by omega
      obtain ⟨g, o, rfl, hg, q0, q1, q2, q3⟩ := HIN.out.each i hil
      obtain ⟨kb0, kb1⟩ := HIN.out.kb i hil
      obtain ⟨nb0, nb1⟩ := HIN.out.nb i hil
      obtain ⟨hpi, hbi⟩ := HIN.out.puts i hil
      have hkeep := HIN.out.keeps i hil
      obtain ⟨la, lc, hlv, -⟩ := hpi.raws
      obtain ⟨ka, kc, hkv, -⟩ := hkeep [] (by simp)
      rw [hlv] at q2 hpi
      rw [hkv] at q3
      simp only [hkv] at hkeep
      have bl := hC.has.only.block g hg (by simp)
      have p0 := (World.cell?_of_block (w := w) (a := ⟨g, o + i * 4, none⟩) bl).trans q0
      have p1 := (World.cell?_of_block (w := w) (a := ⟨g, o + i * 4 + 1, none⟩) bl).trans q1
      have p2 := (World.cell?_of_block (w := w) (a := ⟨g, o + i * 4 + 2, none⟩) bl).trans q2
      have p3 := (World.cell?_of_block (w := w) (a := ⟨g, o + i * 4 + 3, none⟩) bl).trans q3
      have h6 := ((hC.has.alloc (.cells #[.int .i64 (K i), .int .i64 (N i), .slice la (rs i).length lc, .slice ka (keep i).length kc] 35)).pull (L1 := [_, _, _]) (L2 := [])).pull (L1 := [_, _, _]) (L2 := []) |>.pull (L1 := [_, _, _]) (L2 := [])
      have hC6 := hC.later ((Only.refl [] wr).alloc (.cells #[.int .i64 (K i), .int .i64 (N i), .slice la (rs i).length lc, .slice ka (keep i).length kc] 35))
      have KH := Lib.hid (fun x => among_any (K i) 8 x kb0 kb1 (by omega) (by omega))
      have kb := amongF_bd (K i) 8 (by omega)
      have HM := Lib.hid hM
      have HC := Lib.hid hC6
      have H6 := Lib.hid h6
      have HPI := Lib.hid (And.intro hpi hbi)
      have HKE := Lib.hid hkeep
      clear hC hM bl h6 hC6 q0 q1 q2 q3 hpi hbi hkeep hlv hkv
      go_wp2_with fail
      generalize wr.heap.size = go at *
      generalize wr.alloc (.cells #[.int .i64 (K i), .int .i64 (N i), .slice la (rs i).length lc, .slice ka (keep i).length kc] 35) = w4 at *
      clear p0 p1 p2 p3
      refine (KH.out _).mono ?_
      rintro e w' ⟨rfl, rfl⟩
      clear KH
      generalize amongF (K i) 8 = κ at *
      have hb6 : w4.heap[go]? = some (.cells #[.int .i64 (K i), .int .i64 (N i), .slice la (rs i).length lc, .slice ka (keep i).length kc] 35 (0, 0)) := H6.out.blk (by simp)
      have c1 : w4.cell? ⟨go, 1, none⟩ = some (.int .i64 (N i)) := by rw [cell_of_row _ _ _ _ _ _ hb6]; rfl
      have c2 : w4.cell? ⟨go, 2, none⟩ = some (.slice la (rs i).length lc) := by rw [cell_of_row _ _ _ _ _ _ hb6]; rfl
      have c3 : w4.cell? ⟨go, 3, none⟩ = some (.slice ka (keep i).length kc) := by rw [cell_of_row _ _ _ _ _ _ hb6]; rfl
      clear hb6
      have ON := Lib.hid (on_any HC.out.has.dat)
      by_cases hon : X.S.on = true
      · obtain ⟨hL, rfl, rfl⟩ : LogIs X.S a 40 X.n 100 X.f ∧ u13 = .bool false ∧ u14 = .bool false := by
          rcases HM.out with h | ⟨h, _⟩ | ⟨h, _⟩
          · exact h
          · rw [hon] at h; cases h
          · rw [hon] at h; cases h
        have HL := Lib.hid hL
        clear HM hL
        rw [hon] at ON
        go_upto_block 2 with (go_at_call 12; refine ON.out.mono ?_; rintro e w' ⟨rfl, rfl⟩)
        go_cut [8, 9, 11, 12, 13, 14, 18, 19, 20, 21, 22, 23, 24, 25, 26] (fun v8 v9 v11 v12 v13 v14 _ _ _ _ _ _ _ _ _ wx => CRel w a b (i + 1) v8 v9 v11 v12 v13 v14 wx)
        case first =>
          obtain rfl | rfl | rfl | rfl | rfl | rfl | rfl | rfl : κ = 0 ∨ κ = 1 ∨ κ = 2 ∨ κ = 3 ∨ κ = 4 ∨ κ = 5 ∨ κ = 6 ∨ κ = 7 := by omega
          · as_aux_lemma =>
            by_cases hgr : GroupOk a 40 100 (rs i)
            · have h64 : ∀ r ∈ rs i, r.2 = 64 := fun r hr => (hgr.2.1 r hr).2.2.2
              have hraw : rawsOf (psOf (rs i) (vs i)) = rs i := psOf_raws h64
              have hlen37 : (rs i).length ≤ 37 := by have := hgr.1; rw [room40] at this; omega
              have hplen : (psOf (rs i) (vs i)).length = (rs i).length := by simp [psOf]
              have hok : GroupOk a 40 100 (rawsOf (psOf (rs i) (vs i))) := by rw [hraw]; exact hgr
              have hgf := gfits_of ha (by omega) (by omega) hok
              have hp0w : PutsAt w [] (.slice la (rs i).length lc) (psOf (rs i) (vs i)) := psOf_puts HPI.out.1 h64 (by omega) (by simp)
              have hpF : PutsAt w4 X.F (.slice la (rs i).length lc) (psOf (rs i) (vs i)) := (psOf_puts HPI.out.1 h64 (by omega) (F := X.F) (fun y hy => ((H6.out.each (DRes b X.F X.S) (by simp)).2 y hy).1)).only H6.out.only (by simp)
              have hpB : ∀ p ∈ (psOf (rs i) (vs i)), IsB p.2 := fun p hp => by
                obtain ⟨j, hj⟩ := List.getElem?_of_mem hp
                obtain ⟨r, hr, rfl⟩ := psOf_at hj
                exact HPI.out.2 j r hr (h64 r (List.mem_of_getElem? hr))
              have cn0 := HC.out.n0
              have cn1 := HC.out.n1
              have cst := HC.out.st
              have CO := Lib.hid (has_commitL H6.out HL.out hpF ha (by omega) (by omega) cn0 (by omega) hok (by omega))
              clear hpF hraw
              have P0W := Lib.hid hp0w
              have PB := Lib.hid hpB
              have HOK := Lib.hid hok
              have HGF := Lib.hid hgf
              have HGR := Lib.hid hgr
              have PL := Lib.hid hplen
              clear hp0w hpB hok hgf hgr hplen h64
              go_wp2_with fail
              refine CO.out.mono ?_
              rintro e w5 ⟨F5, S5, st5, pd5, ⟨rfl, lg5, h5⟩ | ⟨rfl, off5, lg5, h5⟩⟩
              · have hn5 : S5.n = 100 := lg5.dn
                rw [PL.out] at st5 pd5
                clear CO
                have hd5 := h5.drew.dat
                have hb5 : w5.drew.heap[go]? = some (.cells #[.int .i64 (K i), .int .i64 (N i), .slice la (rs i).length lc, .slice ka (keep i).length kc] 35 (0, 0)) := h5.drew.blk (by simp)
                have c2d : w5.drew.cell? ⟨go, 2, none⟩ = some (.slice la (rs i).length lc) := by rw [cell_of_row _ _ _ _ _ _ hb5]; rfl
                have GR := Lib.hid (group_any (w := w5.drew) (HPI.out.1.raws.only h5.drew.only) a 100 ha (by omega))
                have H5 := Lib.hid h5
                clear h5 hb5 c2 c1 c3
                go_wp2_with fail
                refine wp_region_flowR Lat [0, 1, 0, 0, 1, 2, 0] (by kernel_rfl) (by kernel_rfl) Lat.refl Lat.trans ?_
                refine fr0 rfl (run_field35 (k := 2) (by omega) rfl rfl) ?_
                simp only [Act.put, List.setIfInBounds_toArray, List.set_cons_succ, List.set_cons_zero]
                refine fr1 (u := .slice la (rs i).length lc) rfl (fun x hx => run_load1 rfl rfl (hx.cell c2d) isAgg32x) ?_
                simp only [Act.put, List.setIfInBounds_toArray, List.set_cons_succ, List.set_cons_zero]
                refine fr0 rfl (fun _ => rfl) ?_
                simp only [Act.put, List.setIfInBounds_toArray, List.set_cons_succ, List.set_cons_zero]
                refine fr0 rfl (fun _ => rfl) ?_
                simp only [Act.put, List.setIfInBounds_toArray, List.set_cons_succ, List.set_cons_zero]
                refine fr1c (u := .int .i64 100) rfl (fun x hx => does_lenE (hd5.lat hx) hn5 rfl rfl) ?_
                simp only [Act.put, List.setIfInBounds_toArray, List.set_cons_succ, List.set_cons_zero]
                refine fr2c rfl (run_enter3 Try.call14 rfl rfl rfl rfl) GR.out ?_
                rintro e w6 ⟨r, rfl, hrr, o6⟩
                refine ⟨_, rfl, o6.lat, ?_⟩
                simp only [Act.put, List.setIfInBounds_toArray, List.set_cons_succ, List.set_cons_zero]
                refine fr0 rfl (run_not rfl rfl) ?_
                simp only [Act.put, List.setIfInBounds_toArray, List.set_cons_succ, List.set_cons_zero]
                refine frnil ?_
                show Exit.then _ _ _ _ _
                obtain rfl : r = true := by exact hrr.2 HGR.out
                have h6 := H5.out.drew.later o6
                have hb6 : w6.heap[go]? = some (.cells #[.int .i64 (K i), .int .i64 (N i), .slice la (rs i).length lc, .slice ka (keep i).length kc] 35 (0, 0)) := h6.blk (by simp)
                have c2 : w6.cell? ⟨go, 2, none⟩ = some (.slice la (rs i).length lc) := by rw [cell_of_row _ _ _ _ _ _ hb6]; rfl
                clear hb6 GR H5 hd5 c2d o6 hrr
                have hps := HGF.out.outside
                have WI := Lib.hid (with_any (h6.pull (L1 := [_, _]) (L2 := [_])) P0W.out a ha ha1 (rowsF_len ha ha1 _) hps)
                clear h6
                go_wp2_with fail
                refine WI.out.mono ?_
                rintro e w7 ⟨G7, v7, rfl, h7⟩
                rw [with_rows ha ha1 _ _ hps] at h7
                have fin : CRel w a b (i + 1) (pv X.wb) v7 (.int .i64 (X.n + 1)) u12 (.bool false) (.bool false) w7 :=
                  CRel.mk ⟨X.n + 1, updL X.f (psOf (rs i) (vs i)), S5, F5, X.wb, G7, v7⟩ ⟨by simp only; omega, by simp only; omega, by simp only; omega, by simp only; omega, updL_isB HC.out.isB _ PB.out, ((h7.pull (L1 := [_]) (L2 := [_, _])).pull (L1 := [_, _]) (L2 := [_])).swap.firsts (L := [_, _, _]) (L2 := [_])⟩ (.inl ⟨lg5, rfl, rfl⟩)
                have FIN := Lib.hid fin
                clear WI h7 fin
                go_wp2
                go_meet
                exact FIN.out
              · have hn5 : S5.n = 100 := (lg5 []).nn
                rw [PL.out] at st5 pd5
                clear CO
                have hd5 := h5.drew.dat
                have hb5 : w5.drew.heap[go]? = some (.cells #[.int .i64 (K i), .int .i64 (N i), .slice la (rs i).length lc, .slice ka (keep i).length kc] 35 (0, 0)) := h5.drew.blk (by simp)
                have c2d : w5.drew.cell? ⟨go, 2, none⟩ = some (.slice la (rs i).length lc) := by rw [cell_of_row _ _ _ _ _ _ hb5]; rfl
                have GR := Lib.hid (group_any (w := w5.drew) (HPI.out.1.raws.only h5.drew.only) a 100 ha (by omega))
                have H5 := Lib.hid h5
                clear h5 hb5 c2 c1 c3
                go_wp2_with fail
                refine wp_region_flowR Lat [0, 1, 0, 0, 1, 2, 0] (by kernel_rfl) (by kernel_rfl) Lat.refl Lat.trans ?_
                refine fr0 rfl (run_field35 (k := 2) (by omega) rfl rfl) ?_
                simp only [Act.put, List.setIfInBounds_toArray, List.set_cons_succ, List.set_cons_zero]
                refine fr1 (u := .slice la (rs i).length lc) rfl (fun x hx => run_load1 rfl rfl (hx.cell c2d) isAgg32x) ?_
                simp only [Act.put, List.setIfInBounds_toArray, List.set_cons_succ, List.set_cons_zero]
                refine fr0 rfl (fun _ => rfl) ?_
                simp only [Act.put, List.setIfInBounds_toArray, List.set_cons_succ, List.set_cons_zero]
                refine fr0 rfl (fun _ => rfl) ?_
                simp only [Act.put, List.setIfInBounds_toArray, List.set_cons_succ, List.set_cons_zero]
                refine fr1c (u := .int .i64 100) rfl (fun x hx => does_lenE (hd5.lat hx) hn5 rfl rfl) ?_
                simp only [Act.put, List.setIfInBounds_toArray, List.set_cons_succ, List.set_cons_zero]
                refine fr2c rfl (run_enter3 Try.call14 rfl rfl rfl rfl) GR.out ?_
                rintro e w6 ⟨r, rfl, hrr, o6⟩
                refine ⟨_, rfl, o6.lat, ?_⟩
                simp only [Act.put, List.setIfInBounds_toArray, List.set_cons_succ, List.set_cons_zero]
                refine fr0 rfl (run_not rfl rfl) ?_
                simp only [Act.put, List.setIfInBounds_toArray, List.set_cons_succ, List.set_cons_zero]
                refine frnil ?_
                show Exit.then _ _ _ _ _
                obtain rfl : r = true := by exact hrr.2 HGR.out
                have h6 := H5.out.drew.later o6
                have hb6 : w6.heap[go]? = some (.cells #[.int .i64 (K i), .int .i64 (N i), .slice la (rs i).length lc, .slice ka (keep i).length kc] 35 (0, 0)) := h6.blk (by simp)
                have c2 : w6.cell? ⟨go, 2, none⟩ = some (.slice la (rs i).length lc) := by rw [cell_of_row _ _ _ _ _ _ hb6]; rfl
                clear hb6 GR H5 hd5 c2d o6 hrr
                have fin : CRel w a b (i + 1) (pv X.wb) X.hv (.int .i64 X.n) (.slice la (rs i).length lc) (.bool true) (.bool false) w6 :=
                  CRel.mk ⟨X.n, X.f, S5, F5, X.wb, X.G, X.hv⟩ ⟨by simp only; omega, by simp only; omega, by simp only; omega, by simp only; omega, HC.out.isB, h6.firsts (L := [_, _, _]) (L2 := [_])⟩ (.inr (.inl ⟨off5, rfl, rfl, _, P0W.out, HOK.out, PB.out, lg5⟩))
                have FIN := Lib.hid fin
                clear h6 fin
                go_wp2
                go_meet
                exact FIN.out
            · have CO := Lib.hid (has_commit_no H6.out (HPI.out.1.raws.only H6.out.only) ha (by omega) (by omega) (by omega) (by rw [HL.out.dn]; exact hgr))
              go_wp2_with fail
              refine CO.out.mono ?_
              rintro e w5 ⟨rfl, h5⟩
              have hn5 : X.S.n = 100 := HL.out.dn
              clear CO
              have hd5 := h5.drew.dat
              have hb5 : w5.drew.heap[go]? = some (.cells #[.int .i64 (K i), .int .i64 (N i), .slice la (rs i).length lc, .slice ka (keep i).length kc] 35 (0, 0)) := h5.drew.blk (by simp)
              have c2d : w5.drew.cell? ⟨go, 2, none⟩ = some (.slice la (rs i).length lc) := by rw [cell_of_row _ _ _ _ _ _ hb5]; rfl
              have GR := Lib.hid (group_any (w := w5.drew) (HPI.out.1.raws.only h5.drew.only) a 100 ha (by omega))
              have H5 := Lib.hid h5
              clear h5 hb5 c2 c1 c3
              go_wp2_with fail
              refine wp_region_flowR Lat [0, 1, 0, 0, 1, 2, 0] (by kernel_rfl) (by kernel_rfl) Lat.refl Lat.trans ?_
              refine fr0 rfl (run_field35 (k := 2) (by omega) rfl rfl) ?_
              simp only [Act.put, List.setIfInBounds_toArray, List.set_cons_succ, List.set_cons_zero]
              refine fr1 (u := .slice la (rs i).length lc) rfl (fun x hx => run_load1 rfl rfl (hx.cell c2d) isAgg32x) ?_
              simp only [Act.put, List.setIfInBounds_toArray, List.set_cons_succ, List.set_cons_zero]
              refine fr0 rfl (fun _ => rfl) ?_
              simp only [Act.put, List.setIfInBounds_toArray, List.set_cons_succ, List.set_cons_zero]
              refine fr0 rfl (fun _ => rfl) ?_
              simp only [Act.put, List.setIfInBounds_toArray, List.set_cons_succ, List.set_cons_zero]
              refine fr1c (u := .int .i64 100) rfl (fun x hx => does_lenE (hd5.lat hx) hn5 rfl rfl) ?_
              simp only [Act.put, List.setIfInBounds_toArray, List.set_cons_succ, List.set_cons_zero]
              refine fr2c rfl (run_enter3 Try.call14 rfl rfl rfl rfl) GR.out ?_
              rintro e w6 ⟨r, rfl, hrr, o6⟩
              refine ⟨_, rfl, o6.lat, ?_⟩
              simp only [Act.put, List.setIfInBounds_toArray, List.set_cons_succ, List.set_cons_zero]
              refine fr0 rfl (run_not rfl rfl) ?_
              simp only [Act.put, List.setIfInBounds_toArray, List.set_cons_succ, List.set_cons_zero]
              refine frnil ?_
              show Exit.then _ _ _ _ _
              obtain rfl : r = false := by cases r; rfl; exact absurd (hrr.1 rfl) hgr
              have h6 := H5.out.drew.later o6
              have hb6 : w6.heap[go]? = some (.cells #[.int .i64 (K i), .int .i64 (N i), .slice la (rs i).length lc, .slice ka (keep i).length kc] 35 (0, 0)) := h6.blk (by simp)
              have c2 : w6.cell? ⟨go, 2, none⟩ = some (.slice la (rs i).length lc) := by rw [cell_of_row _ _ _ _ _ _ hb6]; rfl
              clear hb6 GR H5 hd5 c2d o6 hrr
              have fin : CRel w a b (i + 1) (pv X.wb) X.hv (.int .i64 X.n) u12 (.bool false) (.bool false) w6 :=
                CRel.mk X ⟨HC.out.n0, HC.out.next.n1, HC.out.next.st, HC.out.pd, HC.out.isB, h6.firsts (L := [_, _, _]) (L2 := [_])⟩ (.inl ⟨HL.out, rfl, rfl⟩)
              have FIN := Lib.hid fin
              clear h6 fin
              go_wp2
              go_meet
              exact FIN.out
          · as_aux_lemma =>
            by_cases hgr : GroupOk a 40 100 (rs i)
            · have h64 : ∀ r ∈ rs i, r.2 = 64 := fun r hr => (hgr.2.1 r hr).2.2.2
              have hraw : rawsOf (psOf (rs i) (vs i)) = rs i := psOf_raws h64
              have hlen37 : (rs i).length ≤ 37 := by have := hgr.1; rw [room40] at this; omega
              have hplen : (psOf (rs i) (vs i)).length = (rs i).length := by simp [psOf]
              have hok : GroupOk a 40 100 (rawsOf (psOf (rs i) (vs i))) := by rw [hraw]; exact hgr
              have hgf := gfits_of ha (by omega) (by omega) hok
              have hp0w : PutsAt w [] (.slice la (rs i).length lc) (psOf (rs i) (vs i)) := psOf_puts HPI.out.1 h64 (by omega) (by simp)
              have hpF : PutsAt w4 X.F (.slice la (rs i).length lc) (psOf (rs i) (vs i)) := (psOf_puts HPI.out.1 h64 (by omega) (F := X.F) (fun y hy => ((H6.out.each (DRes b X.F X.S) (by simp)).2 y hy).1)).only H6.out.only (by simp)
              have hpB : ∀ p ∈ (psOf (rs i) (vs i)), IsB p.2 := fun p hp => by
                obtain ⟨j, hj⟩ := List.getElem?_of_mem hp
                obtain ⟨r, hr, rfl⟩ := psOf_at hj
                exact HPI.out.2 j r hr (h64 r (List.mem_of_getElem? hr))
              have cn0 := HC.out.n0
              have cn1 := HC.out.n1
              have cst := HC.out.st
              have CO := Lib.hid (has_commitL H6.out HL.out hpF ha (by omega) (by omega) cn0 (by omega) hok (by omega))
              clear hpF hraw
              have P0W := Lib.hid hp0w
              have PB := Lib.hid hpB
              have HOK := Lib.hid hok
              have HGF := Lib.hid hgf
              have HGR := Lib.hid hgr
              have PL := Lib.hid hplen
              clear hp0w hpB hok hgf hgr hplen h64
              go_wp2_with fail
              refine CO.out.mono ?_
              rintro e w5 ⟨F5, S5, st5, pd5, ⟨rfl, lg5, h5⟩ | ⟨rfl, off5, lg5, h5⟩⟩
              · have hn5 : S5.n = 100 := lg5.dn
                rw [PL.out] at st5 pd5
                clear CO
                have hd5 := h5.drew.dat
                have hb5 : w5.drew.heap[go]? = some (.cells #[.int .i64 (K i), .int .i64 (N i), .slice la (rs i).length lc, .slice ka (keep i).length kc] 35 (0, 0)) := h5.drew.blk (by simp)
                have c2d : w5.drew.cell? ⟨go, 2, none⟩ = some (.slice la (rs i).length lc) := by rw [cell_of_row _ _ _ _ _ _ hb5]; rfl
                have GR := Lib.hid (group_any (w := w5.drew) (HPI.out.1.raws.only h5.drew.only) a 100 ha (by omega))
                have H5 := Lib.hid h5
                clear h5 hb5 c2 c1 c3
                go_wp2_with fail
                refine wp_region_flowR Lat [0, 1, 0, 0, 1, 2, 0] (by kernel_rfl) (by kernel_rfl) Lat.refl Lat.trans ?_
                refine fr0 rfl (run_field35 (k := 2) (by omega) rfl rfl) ?_
                simp only [Act.put, List.setIfInBounds_toArray, List.set_cons_succ, List.set_cons_zero]
                refine fr1 (u := .slice la (rs i).length lc) rfl (fun x hx => run_load1 rfl rfl (hx.cell c2d) isAgg32x) ?_
                simp only [Act.put, List.setIfInBounds_toArray, List.set_cons_succ, List.set_cons_zero]
                refine fr0 rfl (fun _ => rfl) ?_
                simp only [Act.put, List.setIfInBounds_toArray, List.set_cons_succ, List.set_cons_zero]
                refine fr0 rfl (fun _ => rfl) ?_
                simp only [Act.put, List.setIfInBounds_toArray, List.set_cons_succ, List.set_cons_zero]
                refine fr1c (u := .int .i64 100) rfl (fun x hx => does_lenE (hd5.lat hx) hn5 rfl rfl) ?_
                simp only [Act.put, List.setIfInBounds_toArray, List.set_cons_succ, List.set_cons_zero]
                refine fr2c rfl (run_enter3 Try.call14 rfl rfl rfl rfl) GR.out ?_
                rintro e w6 ⟨r, rfl, hrr, o6⟩
                refine ⟨_, rfl, o6.lat, ?_⟩
                simp only [Act.put, List.setIfInBounds_toArray, List.set_cons_succ, List.set_cons_zero]
                refine fr0 rfl (run_not rfl rfl) ?_
                simp only [Act.put, List.setIfInBounds_toArray, List.set_cons_succ, List.set_cons_zero]
                refine frnil ?_
                show Exit.then _ _ _ _ _
                obtain rfl : r = true := by exact hrr.2 HGR.out
                have h6 := H5.out.drew.later o6
                have hb6 : w6.heap[go]? = some (.cells #[.int .i64 (K i), .int .i64 (N i), .slice la (rs i).length lc, .slice ka (keep i).length kc] 35 (0, 0)) := h6.blk (by simp)
                have c2 : w6.cell? ⟨go, 2, none⟩ = some (.slice la (rs i).length lc) := by rw [cell_of_row _ _ _ _ _ _ hb6]; rfl
                clear hb6 GR H5 hd5 c2d o6 hrr
                have hps := HGF.out.outside
                have WI := Lib.hid (with_any (h6.pull (L1 := [_, _]) (L2 := [_])) P0W.out a ha ha1 (rowsF_len ha ha1 _) hps)
                clear h6
                go_wp2_with fail
                refine WI.out.mono ?_
                rintro e w7 ⟨G7, v7, rfl, h7⟩
                rw [with_rows ha ha1 _ _ hps] at h7
                have fin : CRel w a b (i + 1) (pv X.wb) v7 (.int .i64 (X.n + 1)) u12 (.bool false) (.bool false) w7 :=
                  CRel.mk ⟨X.n + 1, updL X.f (psOf (rs i) (vs i)), S5, F5, X.wb, G7, v7⟩ ⟨by simp only; omega, by simp only; omega, by simp only; omega, by simp only; omega, updL_isB HC.out.isB _ PB.out, ((h7.pull (L1 := [_]) (L2 := [_, _])).pull (L1 := [_, _]) (L2 := [_])).swap.firsts (L := [_, _, _]) (L2 := [_])⟩ (.inl ⟨lg5, rfl, rfl⟩)
                have FIN := Lib.hid fin
                clear WI h7 fin
                go_wp2
                go_meet
                exact FIN.out
              · have hn5 : S5.n = 100 := (lg5 []).nn
                rw [PL.out] at st5 pd5
                clear CO
                have hd5 := h5.drew.dat
                have hb5 : w5.drew.heap[go]? = some (.cells #[.int .i64 (K i), .int .i64 (N i), .slice la (rs i).length lc, .slice ka (keep i).length kc] 35 (0, 0)) := h5.drew.blk (by simp)
                have c2d : w5.drew.cell? ⟨go, 2, none⟩ = some (.slice la (rs i).length lc) := by rw [cell_of_row _ _ _ _ _ _ hb5]; rfl
                have GR := Lib.hid (group_any (w := w5.drew) (HPI.out.1.raws.only h5.drew.only) a 100 ha (by omega))
                have H5 := Lib.hid h5
                clear h5 hb5 c2 c1 c3
                go_wp2_with fail
                refine wp_region_flowR Lat [0, 1, 0, 0, 1, 2, 0] (by kernel_rfl) (by kernel_rfl) Lat.refl Lat.trans ?_
                refine fr0 rfl (run_field35 (k := 2) (by omega) rfl rfl) ?_
                simp only [Act.put, List.setIfInBounds_toArray, List.set_cons_succ, List.set_cons_zero]
                refine fr1 (u := .slice la (rs i).length lc) rfl (fun x hx => run_load1 rfl rfl (hx.cell c2d) isAgg32x) ?_
                simp only [Act.put, List.setIfInBounds_toArray, List.set_cons_succ, List.set_cons_zero]
                refine fr0 rfl (fun _ => rfl) ?_
                simp only [Act.put, List.setIfInBounds_toArray, List.set_cons_succ, List.set_cons_zero]
                refine fr0 rfl (fun _ => rfl) ?_
                simp only [Act.put, List.setIfInBounds_toArray, List.set_cons_succ, List.set_cons_zero]
                refine fr1c (u := .int .i64 100) rfl (fun x hx => does_lenE (hd5.lat hx) hn5 rfl rfl) ?_
                simp only [Act.put, List.setIfInBounds_toArray, List.set_cons_succ, List.set_cons_zero]
                refine fr2c rfl (run_enter3 Try.call14 rfl rfl rfl rfl) GR.out ?_
                rintro e w6 ⟨r, rfl, hrr, o6⟩
                refine ⟨_, rfl, o6.lat, ?_⟩
                simp only [Act.put, List.setIfInBounds_toArray, List.set_cons_succ, List.set_cons_zero]
                refine fr0 rfl (run_not rfl rfl) ?_
                simp only [Act.put, List.setIfInBounds_toArray, List.set_cons_succ, List.set_cons_zero]
                refine frnil ?_
                show Exit.then _ _ _ _ _
                obtain rfl : r = true := by exact hrr.2 HGR.out
                have h6 := H5.out.drew.later o6
                have hb6 : w6.heap[go]? = some (.cells #[.int .i64 (K i), .int .i64 (N i), .slice la (rs i).length lc, .slice ka (keep i).length kc] 35 (0, 0)) := h6.blk (by simp)
                have c2 : w6.cell? ⟨go, 2, none⟩ = some (.slice la (rs i).length lc) := by rw [cell_of_row _ _ _ _ _ _ hb6]; rfl
                clear hb6 GR H5 hd5 c2d o6 hrr
                have fin : CRel w a b (i + 1) (pv X.wb) X.hv (.int .i64 X.n) (.slice la (rs i).length lc) (.bool true) (.bool false) w6 :=
                  CRel.mk ⟨X.n, X.f, S5, F5, X.wb, X.G, X.hv⟩ ⟨by simp only; omega, by simp only; omega, by simp only; omega, by simp only; omega, HC.out.isB, h6.firsts (L := [_, _, _]) (L2 := [_])⟩ (.inr (.inl ⟨off5, rfl, rfl, _, P0W.out, HOK.out, PB.out, lg5⟩))
                have FIN := Lib.hid fin
                clear h6 fin
                go_wp2
                go_meet
                exact FIN.out
            · have CO := Lib.hid (has_commit_no H6.out (HPI.out.1.raws.only H6.out.only) ha (by omega) (by omega) (by omega) (by rw [HL.out.dn]; exact hgr))
              go_wp2_with fail
              refine CO.out.mono ?_
              rintro e w5 ⟨rfl, h5⟩
              have hn5 : X.S.n = 100 := HL.out.dn
              clear CO
              have hd5 := h5.drew.dat
              have hb5 : w5.drew.heap[go]? = some (.cells #[.int .i64 (K i), .int .i64 (N i), .slice la (rs i).length lc, .slice ka (keep i).length kc] 35 (0, 0)) := h5.drew.blk (by simp)
              have c2d : w5.drew.cell? ⟨go, 2, none⟩ = some (.slice la (rs i).length lc) := by rw [cell_of_row _ _ _ _ _ _ hb5]; rfl
              have GR := Lib.hid (group_any (w := w5.drew) (HPI.out.1.raws.only h5.drew.only) a 100 ha (by omega))
              have H5 := Lib.hid h5
              clear h5 hb5 c2 c1 c3
              go_wp2_with fail
              refine wp_region_flowR Lat [0, 1, 0, 0, 1, 2, 0] (by kernel_rfl) (by kernel_rfl) Lat.refl Lat.trans ?_
              refine fr0 rfl (run_field35 (k := 2) (by omega) rfl rfl) ?_
              simp only [Act.put, List.setIfInBounds_toArray, List.set_cons_succ, List.set_cons_zero]
              refine fr1 (u := .slice la (rs i).length lc) rfl (fun x hx => run_load1 rfl rfl (hx.cell c2d) isAgg32x) ?_
              simp only [Act.put, List.setIfInBounds_toArray, List.set_cons_succ, List.set_cons_zero]
              refine fr0 rfl (fun _ => rfl) ?_
              simp only [Act.put, List.setIfInBounds_toArray, List.set_cons_succ, List.set_cons_zero]
              refine fr0 rfl (fun _ => rfl) ?_
              simp only [Act.put, List.setIfInBounds_toArray, List.set_cons_succ, List.set_cons_zero]
              refine fr1c (u := .int .i64 100) rfl (fun x hx => does_lenE (hd5.lat hx) hn5 rfl rfl) ?_
              simp only [Act.put, List.setIfInBounds_toArray, List.set_cons_succ, List.set_cons_zero]
              refine fr2c rfl (run_enter3 Try.call14 rfl rfl rfl rfl) GR.out ?_
              rintro e w6 ⟨r, rfl, hrr, o6⟩
              refine ⟨_, rfl, o6.lat, ?_⟩
              simp only [Act.put, List.setIfInBounds_toArray, List.set_cons_succ, List.set_cons_zero]
              refine fr0 rfl (run_not rfl rfl) ?_
              simp only [Act.put, List.setIfInBounds_toArray, List.set_cons_succ, List.set_cons_zero]
              refine frnil ?_
              show Exit.then _ _ _ _ _
              obtain rfl : r = false := by cases r; rfl; exact absurd (hrr.1 rfl) hgr
              have h6 := H5.out.drew.later o6
              have hb6 : w6.heap[go]? = some (.cells #[.int .i64 (K i), .int .i64 (N i), .slice la (rs i).length lc, .slice ka (keep i).length kc] 35 (0, 0)) := h6.blk (by simp)
              have c2 : w6.cell? ⟨go, 2, none⟩ = some (.slice la (rs i).length lc) := by rw [cell_of_row _ _ _ _ _ _ hb6]; rfl
              clear hb6 GR H5 hd5 c2d o6 hrr
              have fin : CRel w a b (i + 1) (pv X.wb) X.hv (.int .i64 X.n) u12 (.bool false) (.bool false) w6 :=
                CRel.mk X ⟨HC.out.n0, HC.out.next.n1, HC.out.next.st, HC.out.pd, HC.out.isB, h6.firsts (L := [_, _, _]) (L2 := [_])⟩ (.inl ⟨HL.out, rfl, rfl⟩)
              have FIN := Lib.hid fin
              clear h6 fin
              go_wp2
              go_meet
              exact FIN.out
          · as_aux_lemma =>
            by_cases hgr : GroupOk a 40 100 (rs i)
            · have h64 : ∀ r ∈ rs i, r.2 = 64 := fun r hr => (hgr.2.1 r hr).2.2.2
              have hraw : rawsOf (psOf (rs i) (vs i)) = rs i := psOf_raws h64
              have hlen37 : (rs i).length ≤ 37 := by have := hgr.1; rw [room40] at this; omega
              have hplen : (psOf (rs i) (vs i)).length = (rs i).length := by simp [psOf]
              have hok : GroupOk a 40 100 (rawsOf (psOf (rs i) (vs i))) := by rw [hraw]; exact hgr
              have hgf := gfits_of ha (by omega) (by omega) hok
              have hp0w : PutsAt w [] (.slice la (rs i).length lc) (psOf (rs i) (vs i)) := psOf_puts HPI.out.1 h64 (by omega) (by simp)
              have hpF : PutsAt w4 X.F (.slice la (rs i).length lc) (psOf (rs i) (vs i)) := (psOf_puts HPI.out.1 h64 (by omega) (F := X.F) (fun y hy => ((H6.out.each (DRes b X.F X.S) (by simp)).2 y hy).1)).only H6.out.only (by simp)
              have hpB : ∀ p ∈ (psOf (rs i) (vs i)), IsB p.2 := fun p hp => by
                obtain ⟨j, hj⟩ := List.getElem?_of_mem hp
                obtain ⟨r, hr, rfl⟩ := psOf_at hj
                exact HPI.out.2 j r hr (h64 r (List.mem_of_getElem? hr))
              have cn0 := HC.out.n0
              have cn1 := HC.out.n1
              have cst := HC.out.st
              have CO := Lib.hid (has_commitL H6.out HL.out hpF ha (by omega) (by omega) cn0 (by omega) hok (by omega))
              clear hpF hraw
              have P0W := Lib.hid hp0w
              have PB := Lib.hid hpB
              have HOK := Lib.hid hok
              have HGF := Lib.hid hgf
              have HGR := Lib.hid hgr
              have PL := Lib.hid hplen
              clear hp0w hpB hok hgf hgr hplen h64
              go_wp2_with fail
              refine CO.out.mono ?_
              rintro e w5 ⟨F5, S5, st5, pd5, ⟨rfl, lg5, h5⟩ | ⟨rfl, off5, lg5, h5⟩⟩
              · have hn5 : S5.n = 100 := lg5.dn
                rw [PL.out] at st5 pd5
                clear CO
                have hd5 := h5.drew.dat
                have hb5 : w5.drew.heap[go]? = some (.cells #[.int .i64 (K i), .int .i64 (N i), .slice la (rs i).length lc, .slice ka (keep i).length kc] 35 (0, 0)) := h5.drew.blk (by simp)
                have c2d : w5.drew.cell? ⟨go, 2, none⟩ = some (.slice la (rs i).length lc) := by rw [cell_of_row _ _ _ _ _ _ hb5]; rfl
                have GR := Lib.hid (group_any (w := w5.drew) (HPI.out.1.raws.only h5.drew.only) a 100 ha (by omega))
                have H5 := Lib.hid h5
                clear h5 hb5 c2 c1 c3
                go_wp2_with fail
                refine wp_region_flowR Lat [0, 1, 0, 0, 1, 2, 0] (by kernel_rfl) (by kernel_rfl) Lat.refl Lat.trans ?_
                refine fr0 rfl (run_field35 (k := 2) (by omega) rfl rfl) ?_
                simp only [Act.put, List.setIfInBounds_toArray, List.set_cons_succ, List.set_cons_zero]
                refine fr1 (u := .slice la (rs i).length lc) rfl (fun x hx => run_load1 rfl rfl (hx.cell c2d) isAgg32x) ?_
                simp only [Act.put, List.setIfInBounds_toArray, List.set_cons_succ, List.set_cons_zero]
                refine fr0 rfl (fun _ => rfl) ?_
                simp only [Act.put, List.setIfInBounds_toArray, List.set_cons_succ, List.set_cons_zero]
                refine fr0 rfl (fun _ => rfl) ?_
                simp only [Act.put, List.setIfInBounds_toArray, List.set_cons_succ, List.set_cons_zero]
                refine fr1c (u := .int .i64 100) rfl (fun x hx => does_lenE (hd5.lat hx) hn5 rfl rfl) ?_
                simp only [Act.put, List.setIfInBounds_toArray, List.set_cons_succ, List.set_cons_zero]
                refine fr2c rfl (run_enter3 Try.call14 rfl rfl rfl rfl) GR.out ?_
                rintro e w6 ⟨r, rfl, hrr, o6⟩
                refine ⟨_, rfl, o6.lat, ?_⟩
                simp only [Act.put, List.setIfInBounds_toArray, List.set_cons_succ, List.set_cons_zero]
                refine fr0 rfl (run_not rfl rfl) ?_
                simp only [Act.put, List.setIfInBounds_toArray, List.set_cons_succ, List.set_cons_zero]
                refine frnil ?_
                show Exit.then _ _ _ _ _
                obtain rfl : r = true := by exact hrr.2 HGR.out
                have h6 := H5.out.drew.later o6
                have hb6 : w6.heap[go]? = some (.cells #[.int .i64 (K i), .int .i64 (N i), .slice la (rs i).length lc, .slice ka (keep i).length kc] 35 (0, 0)) := h6.blk (by simp)
                have c2 : w6.cell? ⟨go, 2, none⟩ = some (.slice la (rs i).length lc) := by rw [cell_of_row _ _ _ _ _ _ hb6]; rfl
                clear hb6 GR H5 hd5 c2d o6 hrr
                have hps := HGF.out.outside
                have WI := Lib.hid (with_any (h6.pull (L1 := [_, _]) (L2 := [_])) P0W.out a ha ha1 (rowsF_len ha ha1 _) hps)
                clear h6
                go_wp2_with fail
                refine WI.out.mono ?_
                rintro e w7 ⟨G7, v7, rfl, h7⟩
                rw [with_rows ha ha1 _ _ hps] at h7
                have fin : CRel w a b (i + 1) (pv X.wb) v7 (.int .i64 (X.n + 1)) u12 (.bool false) (.bool false) w7 :=
                  CRel.mk ⟨X.n + 1, updL X.f (psOf (rs i) (vs i)), S5, F5, X.wb, G7, v7⟩ ⟨by simp only; omega, by simp only; omega, by simp only; omega, by simp only; omega, updL_isB HC.out.isB _ PB.out, ((h7.pull (L1 := [_]) (L2 := [_, _])).pull (L1 := [_, _]) (L2 := [_])).swap.firsts (L := [_, _, _]) (L2 := [_])⟩ (.inl ⟨lg5, rfl, rfl⟩)
                have FIN := Lib.hid fin
                clear WI h7 fin
                go_wp2
                go_meet
                exact FIN.out
              · have hn5 : S5.n = 100 := (lg5 []).nn
                rw [PL.out] at st5 pd5
                clear CO
                have hd5 := h5.drew.dat
                have hb5 : w5.drew.heap[go]? = some (.cells #[.int .i64 (K i), .int .i64 (N i), .slice la (rs i).length lc, .slice ka (keep i).length kc] 35 (0, 0)) := h5.drew.blk (by simp)
                have c2d : w5.drew.cell? ⟨go, 2, none⟩ = some (.slice la (rs i).length lc) := by rw [cell_of_row _ _ _ _ _ _ hb5]; rfl
                have GR := Lib.hid (group_any (w := w5.drew) (HPI.out.1.raws.only h5.drew.only) a 100 ha (by omega))
                have H5 := Lib.hid h5
                clear h5 hb5 c2 c1 c3
                go_wp2_with fail
                refine wp_region_flowR Lat [0, 1, 0, 0, 1, 2, 0] (by kernel_rfl) (by kernel_rfl) Lat.refl Lat.trans ?_
                refine fr0 rfl (run_field35 (k := 2) (by omega) rfl rfl) ?_
                simp only [Act.put, List.setIfInBounds_toArray, List.set_cons_succ, List.set_cons_zero]
                refine fr1 (u := .slice la (rs i).length lc) rfl (fun x hx => run_load1 rfl rfl (hx.cell c2d) isAgg32x) ?_
                simp only [Act.put, List.setIfInBounds_toArray, List.set_cons_succ, List.set_cons_zero]
                refine fr0 rfl (fun _ => rfl) ?_
                simp only [Act.put, List.setIfInBounds_toArray, List.set_cons_succ, List.set_cons_zero]
                refine fr0 rfl (fun _ => rfl) ?_
                simp only [Act.put, List.setIfInBounds_toArray, List.set_cons_succ, List.set_cons_zero]
                refine fr1c (u := .int .i64 100) rfl (fun x hx => does_lenE (hd5.lat hx) hn5 rfl rfl) ?_
                simp only [Act.put, List.setIfInBounds_toArray, List.set_cons_succ, List.set_cons_zero]
                refine fr2c rfl (run_enter3 Try.call14 rfl rfl rfl rfl) GR.out ?_
                rintro e w6 ⟨r, rfl, hrr, o6⟩
                refine ⟨_, rfl, o6.lat, ?_⟩
                simp only [Act.put, List.setIfInBounds_toArray, List.set_cons_succ, List.set_cons_zero]
                refine fr0 rfl (run_not rfl rfl) ?_
                simp only [Act.put, List.setIfInBounds_toArray, List.set_cons_succ, List.set_cons_zero]
                refine frnil ?_
                show Exit.then _ _ _ _ _
                obtain rfl : r = true := by exact hrr.2 HGR.out
                have h6 := H5.out.drew.later o6
                have hb6 : w6.heap[go]? = some (.cells #[.int .i64 (K i), .int .i64 (N i), .slice la (rs i).length lc, .slice ka (keep i).length kc] 35 (0, 0)) := h6.blk (by simp)
                have c2 : w6.cell? ⟨go, 2, none⟩ = some (.slice la (rs i).length lc) := by rw [cell_of_row _ _ _ _ _ _ hb6]; rfl
                clear hb6 GR H5 hd5 c2d o6 hrr
                have fin : CRel w a b (i + 1) (pv X.wb) X.hv (.int .i64 X.n) (.slice la (rs i).length lc) (.bool true) (.bool false) w6 :=
                  CRel.mk ⟨X.n, X.f, S5, F5, X.wb, X.G, X.hv⟩ ⟨by simp only; omega, by simp only; omega, by simp only; omega, by simp only; omega, HC.out.isB, h6.firsts (L := [_, _, _]) (L2 := [_])⟩ (.inr (.inl ⟨off5, rfl, rfl, _, P0W.out, HOK.out, PB.out, lg5⟩))
                have FIN := Lib.hid fin
                clear h6 fin
                go_wp2
                go_meet
                exact FIN.out
            · have CO := Lib.hid (has_commit_no H6.out (HPI.out.1.raws.only H6.out.only) ha (by omega) (by omega) (by omega) (by rw [HL.out.dn]; exact hgr))
              go_wp2_with fail
              refine CO.out.mono ?_
              rintro e w5 ⟨rfl, h5⟩
              have hn5 : X.S.n = 100 := HL.out.dn
              clear CO
              have hd5 := h5.drew.dat
              have hb5 : w5.drew.heap[go]? = some (.cells #[.int .i64 (K i), .int .i64 (N i), .slice la (rs i).length lc, .slice ka (keep i).length kc] 35 (0, 0)) := h5.drew.blk (by simp)
              have c2d : w5.drew.cell? ⟨go, 2, none⟩ = some (.slice la (rs i).length lc) := by rw [cell_of_row _ _ _ _ _ _ hb5]; rfl
              have GR := Lib.hid (group_any (w := w5.drew) (HPI.out.1.raws.only h5.drew.only) a 100 ha (by omega))
              have H5 := Lib.hid h5
              clear h5 hb5 c2 c1 c3
              go_wp2_with fail
              refine wp_region_flowR Lat [0, 1, 0, 0, 1, 2, 0] (by kernel_rfl) (by kernel_rfl) Lat.refl Lat.trans ?_
              refine fr0 rfl (run_field35 (k := 2) (by omega) rfl rfl) ?_
              simp only [Act.put, List.setIfInBounds_toArray, List.set_cons_succ, List.set_cons_zero]
              refine fr1 (u := .slice la (rs i).length lc) rfl (fun x hx => run_load1 rfl rfl (hx.cell c2d) isAgg32x) ?_
              simp only [Act.put, List.setIfInBounds_toArray, List.set_cons_succ, List.set_cons_zero]
              refine fr0 rfl (fun _ => rfl) ?_
              simp only [Act.put, List.setIfInBounds_toArray, List.set_cons_succ, List.set_cons_zero]
              refine fr0 rfl (fun _ => rfl) ?_
              simp only [Act.put, List.setIfInBounds_toArray, List.set_cons_succ, List.set_cons_zero]
              refine fr1c (u := .int .i64 100) rfl (fun x hx => does_lenE (hd5.lat hx) hn5 rfl rfl) ?_
              simp only [Act.put, List.setIfInBounds_toArray, List.set_cons_succ, List.set_cons_zero]
              refine fr2c rfl (run_enter3 Try.call14 rfl rfl rfl rfl) GR.out ?_
              rintro e w6 ⟨r, rfl, hrr, o6⟩
              refine ⟨_, rfl, o6.lat, ?_⟩
              simp only [Act.put, List.setIfInBounds_toArray, List.set_cons_succ, List.set_cons_zero]
              refine fr0 rfl (run_not rfl rfl) ?_
              simp only [Act.put, List.setIfInBounds_toArray, List.set_cons_succ, List.set_cons_zero]
              refine frnil ?_
              show Exit.then _ _ _ _ _
              obtain rfl : r = false := by cases r; rfl; exact absurd (hrr.1 rfl) hgr
              have h6 := H5.out.drew.later o6
              have hb6 : w6.heap[go]? = some (.cells #[.int .i64 (K i), .int .i64 (N i), .slice la (rs i).length lc, .slice ka (keep i).length kc] 35 (0, 0)) := h6.blk (by simp)
              have c2 : w6.cell? ⟨go, 2, none⟩ = some (.slice la (rs i).length lc) := by rw [cell_of_row _ _ _ _ _ _ hb6]; rfl
              clear hb6 GR H5 hd5 c2d o6 hrr
              have fin : CRel w a b (i + 1) (pv X.wb) X.hv (.int .i64 X.n) u12 (.bool false) (.bool false) w6 :=
                CRel.mk X ⟨HC.out.n0, HC.out.next.n1, HC.out.next.st, HC.out.pd, HC.out.isB, h6.firsts (L := [_, _, _]) (L2 := [_])⟩ (.inl ⟨HL.out, rfl, rfl⟩)
              have FIN := Lib.hid fin
              clear h6 fin
              go_wp2
              go_meet
              exact FIN.out
          · as_aux_lemma =>
            by_cases hgr : GroupOk a 40 100 (rs i)
            · have h64 : ∀ r ∈ rs i, r.2 = 64 := fun r hr => (hgr.2.1 r hr).2.2.2
              have hraw : rawsOf (psOf (rs i) (vs i)) = rs i := psOf_raws h64
              have hlen37 : (rs i).length ≤ 37 := by have := hgr.1; rw [room40] at this; omega
              have hplen : (psOf (rs i) (vs i)).length = (rs i).length := by simp [psOf]
              have hok : GroupOk a 40 100 (rawsOf (psOf (rs i) (vs i))) := by rw [hraw]; exact hgr
              have hgf := gfits_of ha (by omega) (by omega) hok
              have hp0w : PutsAt w [] (.slice la (rs i).length lc) (psOf (rs i) (vs i)) := psOf_puts HPI.out.1 h64 (by omega) (by simp)
              have hpF : PutsAt w4 X.F (.slice la (rs i).length lc) (psOf (rs i) (vs i)) := (psOf_puts HPI.out.1 h64 (by omega) (F := X.F) (fun y hy => ((H6.out.each (DRes b X.F X.S) (by simp)).2 y hy).1)).only H6.out.only (by simp)
              have hpB : ∀ p ∈ (psOf (rs i) (vs i)), IsB p.2 := fun p hp => by
                obtain ⟨j, hj⟩ := List.getElem?_of_mem hp
                obtain ⟨r, hr, rfl⟩ := psOf_at hj
                exact HPI.out.2 j r hr (h64 r (List.mem_of_getElem? hr))
              have cn0 := HC.out.n0
              have cn1 := HC.out.n1
              have cst := HC.out.st
              have CO := Lib.hid (has_commitL H6.out HL.out hpF ha (by omega) (by omega) cn0 (by omega) hok (by omega))
              clear hpF hraw
              have P0W := Lib.hid hp0w
              have PB := Lib.hid hpB
              have HOK := Lib.hid hok
              have HGF := Lib.hid hgf
              have HGR := Lib.hid hgr
              have PL := Lib.hid hplen
              clear hp0w hpB hok hgf hgr hplen h64
              go_wp2_with fail
              refine CO.out.mono ?_
              rintro e w5 ⟨F5, S5, st5, pd5, ⟨rfl, lg5, h5⟩ | ⟨rfl, off5, lg5, h5⟩⟩
              · have hn5 : S5.n = 100 := lg5.dn
                rw [PL.out] at st5 pd5
                clear CO
                have hd5 := h5.drew.dat
                have hb5 : w5.drew.heap[go]? = some (.cells #[.int .i64 (K i), .int .i64 (N i), .slice la (rs i).length lc, .slice ka (keep i).length kc] 35 (0, 0)) := h5.drew.blk (by simp)
                have c2d : w5.drew.cell? ⟨go, 2, none⟩ = some (.slice la (rs i).length lc) := by rw [cell_of_row _ _ _ _ _ _ hb5]; rfl
                have GR := Lib.hid (group_any (w := w5.drew) (HPI.out.1.raws.only h5.drew.only) a 100 ha (by omega))
                have H5 := Lib.hid h5
                clear h5 hb5 c2 c1 c3
                go_wp2_with fail
                refine wp_region_flowR Lat [0, 1, 0, 0, 1, 2, 0] (by kernel_rfl) (by kernel_rfl) Lat.refl Lat.trans ?_
                refine fr0 rfl (run_field35 (k := 2) (by omega) rfl rfl) ?_
                simp only [Act.put, List.setIfInBounds_toArray, List.set_cons_succ, List.set_cons_zero]
                refine fr1 (u := .slice la (rs i).length lc) rfl (fun x hx => run_load1 rfl rfl (hx.cell c2d) isAgg32x) ?_
                simp only [Act.put, List.setIfInBounds_toArray, List.set_cons_succ, List.set_cons_zero]
                refine fr0 rfl (fun _ => rfl) ?_
                simp only [Act.put, List.setIfInBounds_toArray, List.set_cons_succ, List.set_cons_zero]
                refine fr0 rfl (fun _ => rfl) ?_
                simp only [Act.put, List.setIfInBounds_toArray, List.set_cons_succ, List.set_cons_zero]
                refine fr1c (u := .int .i64 100) rfl (fun x hx => does_lenE (hd5.lat hx) hn5 rfl rfl) ?_
                simp only [Act.put, List.setIfInBounds_toArray, List.set_cons_succ, List.set_cons_zero]
                refine fr2c rfl (run_enter3 Try.call14 rfl rfl rfl rfl) GR.out ?_
                rintro e w6 ⟨r, rfl, hrr, o6⟩
                refine ⟨_, rfl, o6.lat, ?_⟩
                simp only [Act.put, List.setIfInBounds_toArray, List.set_cons_succ, List.set_cons_zero]
                refine fr0 rfl (run_not rfl rfl) ?_
                simp only [Act.put, List.setIfInBounds_toArray, List.set_cons_succ, List.set_cons_zero]
                refine frnil ?_
                show Exit.then _ _ _ _ _
                obtain rfl : r = true := by exact hrr.2 HGR.out
                have h6 := H5.out.drew.later o6
                have hb6 : w6.heap[go]? = some (.cells #[.int .i64 (K i), .int .i64 (N i), .slice la (rs i).length lc, .slice ka (keep i).length kc] 35 (0, 0)) := h6.blk (by simp)
                have c2 : w6.cell? ⟨go, 2, none⟩ = some (.slice la (rs i).length lc) := by rw [cell_of_row _ _ _ _ _ _ hb6]; rfl
                clear hb6 GR H5 hd5 c2d o6 hrr
                have hps := HGF.out.outside
                have WI := Lib.hid (with_any (h6.pull (L1 := [_, _]) (L2 := [_])) P0W.out a ha ha1 (rowsF_len ha ha1 _) hps)
                clear h6
                go_wp2_with fail
                refine WI.out.mono ?_
                rintro e w7 ⟨G7, v7, rfl, h7⟩
                rw [with_rows ha ha1 _ _ hps] at h7
                have fin : CRel w a b (i + 1) (pv X.wb) v7 (.int .i64 (X.n + 1)) u12 (.bool false) (.bool false) w7 :=
                  CRel.mk ⟨X.n + 1, updL X.f (psOf (rs i) (vs i)), S5, F5, X.wb, G7, v7⟩ ⟨by simp only; omega, by simp only; omega, by simp only; omega, by simp only; omega, updL_isB HC.out.isB _ PB.out, ((h7.pull (L1 := [_]) (L2 := [_, _])).pull (L1 := [_, _]) (L2 := [_])).swap.firsts (L := [_, _, _]) (L2 := [_])⟩ (.inl ⟨lg5, rfl, rfl⟩)
                have FIN := Lib.hid fin
                clear WI h7 fin
                go_wp2
                go_meet
                exact FIN.out
              · have hn5 : S5.n = 100 := (lg5 []).nn
                rw [PL.out] at st5 pd5
                clear CO
                have hd5 := h5.drew.dat
                have hb5 : w5.drew.heap[go]? = some (.cells #[.int .i64 (K i), .int .i64 (N i), .slice la (rs i).length lc, .slice ka (keep i).length kc] 35 (0, 0)) := h5.drew.blk (by simp)
                have c2d : w5.drew.cell? ⟨go, 2, none⟩ = some (.slice la (rs i).length lc) := by rw [cell_of_row _ _ _ _ _ _ hb5]; rfl
                have GR := Lib.hid (group_any (w := w5.drew) (HPI.out.1.raws.only h5.drew.only) a 100 ha (by omega))
                have H5 := Lib.hid h5
                clear h5 hb5 c2 c1 c3
                go_wp2_with fail
                refine wp_region_flowR Lat [0, 1, 0, 0, 1, 2, 0] (by kernel_rfl) (by kernel_rfl) Lat.refl Lat.trans ?_
                refine fr0 rfl (run_field35 (k := 2) (by omega) rfl rfl) ?_
                simp only [Act.put, List.setIfInBounds_toArray, List.set_cons_succ, List.set_cons_zero]
                refine fr1 (u := .slice la (rs i).length lc) rfl (fun x hx => run_load1 rfl rfl (hx.cell c2d) isAgg32x) ?_
                simp only [Act.put, List.setIfInBounds_toArray, List.set_cons_succ, List.set_cons_zero]
                refine fr0 rfl (fun _ => rfl) ?_
                simp only [Act.put, List.setIfInBounds_toArray, List.set_cons_succ, List.set_cons_zero]
                refine fr0 rfl (fun _ => rfl) ?_
                simp only [Act.put, List.setIfInBounds_toArray, List.set_cons_succ, List.set_cons_zero]
                refine fr1c (u := .int .i64 100) rfl (fun x hx => does_lenE (hd5.lat hx) hn5 rfl rfl) ?_
                simp only [Act.put, List.setIfInBounds_toArray, List.set_cons_succ, List.set_cons_zero]
                refine fr2c rfl (run_enter3 Try.call14 rfl rfl rfl rfl) GR.out ?_
                rintro e w6 ⟨r, rfl, hrr, o6⟩
                refine ⟨_, rfl, o6.lat, ?_⟩
                simp only [Act.put, List.setIfInBounds_toArray, List.set_cons_succ, List.set_cons_zero]
                refine fr0 rfl (run_not rfl rfl) ?_
                simp only [Act.put, List.setIfInBounds_toArray, List.set_cons_succ, List.set_cons_zero]
                refine frnil ?_
                show Exit.then _ _ _ _ _
                obtain rfl : r = true := by exact hrr.2 HGR.out
                have h6 := H5.out.drew.later o6
                have hb6 : w6.heap[go]? = some (.cells #[.int .i64 (K i), .int .i64 (N i), .slice la (rs i).length lc, .slice ka (keep i).length kc] 35 (0, 0)) := h6.blk (by simp)
                have c2 : w6.cell? ⟨go, 2, none⟩ = some (.slice la (rs i).length lc) := by rw [cell_of_row _ _ _ _ _ _ hb6]; rfl
                clear hb6 GR H5 hd5 c2d o6 hrr
                have fin : CRel w a b (i + 1) (pv X.wb) X.hv (.int .i64 X.n) (.slice la (rs i).length lc) (.bool true) (.bool false) w6 :=
                  CRel.mk ⟨X.n, X.f, S5, F5, X.wb, X.G, X.hv⟩ ⟨by simp only; omega, by simp only; omega, by simp only; omega, by simp only; omega, HC.out.isB, h6.firsts (L := [_, _, _]) (L2 := [_])⟩ (.inr (.inl ⟨off5, rfl, rfl, _, P0W.out, HOK.out, PB.out, lg5⟩))
                have FIN := Lib.hid fin
                clear h6 fin
                go_wp2
                go_meet
                exact FIN.out
            · have CO := Lib.hid (has_commit_no H6.out (HPI.out.1.raws.only H6.out.only) ha (by omega) (by omega) (by omega) (by rw [HL.out.dn]; exact hgr))
              go_wp2_with fail
              refine CO.out.mono ?_
              rintro e w5 ⟨rfl, h5⟩
              have hn5 : X.S.n = 100 := HL.out.dn
              clear CO
              have hd5 := h5.drew.dat
              have hb5 : w5.drew.heap[go]? = some (.cells #[.int .i64 (K i), .int .i64 (N i), .slice la (rs i).length lc, .slice ka (keep i).length kc] 35 (0, 0)) := h5.drew.blk (by simp)
              have c2d : w5.drew.cell? ⟨go, 2, none⟩ = some (.slice la (rs i).length lc) := by rw [cell_of_row _ _ _ _ _ _ hb5]; rfl
              have GR := Lib.hid (group_any (w := w5.drew) (HPI.out.1.raws.only h5.drew.only) a 100 ha (by omega))
              have H5 := Lib.hid h5
              clear h5 hb5 c2 c1 c3
              go_wp2_with fail
              refine wp_region_flowR Lat [0, 1, 0, 0, 1, 2, 0] (by kernel_rfl) (by kernel_rfl) Lat.refl Lat.trans ?_
              refine fr0 rfl (run_field35 (k := 2) (by omega) rfl rfl) ?_
              simp only [Act.put, List.setIfInBounds_toArray, List.set_cons_succ, List.set_cons_zero]
              refine fr1 (u := .slice la (rs i).length lc) rfl (fun x hx => run_load1 rfl rfl (hx.cell c2d) isAgg32x) ?_
              simp only [Act.put, List.setIfInBounds_toArray, List.set_cons_succ, List.set_cons_zero]
              refine fr0 rfl (fun _ => rfl) ?_
              simp only [Act.put, List.setIfInBounds_toArray, List.set_cons_succ, List.set_cons_zero]
              refine fr0 rfl (fun _ => rfl) ?_
              simp only [Act.put, List.setIfInBounds_toArray, List.set_cons_succ, List.set_cons_zero]
              refine fr1c (u := .int .i64 100) rfl (fun x hx => does_lenE (hd5.lat hx) hn5 rfl rfl) ?_
              simp only [Act.put, List.setIfInBounds_toArray, List.set_cons_succ, List.set_cons_zero]
              refine fr2c rfl (run_enter3 Try.call14 rfl rfl rfl rfl) GR.out ?_
              rintro e w6 ⟨r, rfl, hrr, o6⟩
              refine ⟨_, rfl, o6.lat, ?_⟩
              simp only [Act.put, List.setIfInBounds_toArray, List.set_cons_succ, List.set_cons_zero]
              refine fr0 rfl (run_not rfl rfl) ?_
              simp only [Act.put, List.setIfInBounds_toArray, List.set_cons_succ, List.set_cons_zero]
              refine frnil ?_
              show Exit.then _ _ _ _ _
              obtain rfl : r = false := by cases r; rfl; exact absurd (hrr.1 rfl) hgr
              have h6 := H5.out.drew.later o6
              have hb6 : w6.heap[go]? = some (.cells #[.int .i64 (K i), .int .i64 (N i), .slice la (rs i).length lc, .slice ka (keep i).length kc] 35 (0, 0)) := h6.blk (by simp)
              have c2 : w6.cell? ⟨go, 2, none⟩ = some (.slice la (rs i).length lc) := by rw [cell_of_row _ _ _ _ _ _ hb6]; rfl
              clear hb6 GR H5 hd5 c2d o6 hrr
              have fin : CRel w a b (i + 1) (pv X.wb) X.hv (.int .i64 X.n) u12 (.bool false) (.bool false) w6 :=
                CRel.mk X ⟨HC.out.n0, HC.out.next.n1, HC.out.next.st, HC.out.pd, HC.out.isB, h6.firsts (L := [_, _, _]) (L2 := [_])⟩ (.inl ⟨HL.out, rfl, rfl⟩)
              have FIN := Lib.hid fin
              clear h6 fin
              go_wp2
              go_meet
              exact FIN.out
          · as_aux_lemma =>
            have OP := Lib.hid (has_openL H6.out HL.out ha (by omega) (by omega) HC.out.n0 (by have := HC.out.n1; omega))
            go_wp2_with fail
            refine OP.out.mono ?_
            rintro e w5 ⟨wb5, rfl, h5⟩
            have fin : CRel w a b (i + 1) (pv wb5) X.hv (.int .i64 X.n) u12 (.bool false) (.bool false) w5 :=
              CRel.mk ⟨X.n, X.f, X.S, X.F, wb5, X.G, X.hv⟩ ⟨HC.out.n0, HC.out.next.n1, HC.out.next.st, HC.out.pd, HC.out.isB, ((h5.swap.pull (L1 := [_, _]) (L2 := [_, _])).drop.firsts (L := [_, _, _]) (L2 := [_]))⟩ (.inl ⟨HL.out, rfl, rfl⟩)
            have FIN := Lib.hid fin
            clear OP h5 fin
            go_wp2
            go_meet
            exact FIN.out
          · as_aux_lemma =>
            have FU := Lib.hid (has_fuse H6.out (N i) nb1)
            go_wp2_with fail
            refine FU.out.mono ?_
            rintro e w5 ⟨rfl, F5, h5⟩
            have fin : CRel w a b (i + 1) (pv X.wb) X.hv (.int .i64 X.n) u12 (.bool false) (.bool false) w5 :=
              CRel.mk ⟨X.n, X.f, X.S.fused (N i), F5, X.wb, X.G, X.hv⟩ ⟨HC.out.n0, HC.out.next.n1, by have := HC.out.next.st; simpa [fused_steps] using this, by have := HC.out.pd; simpa [fused_pend] using this, HC.out.isB, h5.firsts (L := [_, _, _]) (L2 := [_])⟩ (.inl ⟨HL.out.fuse _, rfl, rfl⟩)
            have FIN := Lib.hid fin
            clear FU h5 fin
            go_wp2
            go_meet
            exact FIN.out
          · as_aux_lemma =>
            have cn0 := HC.out.n0
            have cn1 := HC.out.n1
            have cst := HC.out.st
            have kp : ∀ (wx : World) (F : List Nat) (S : St) (Rs : List Res), Has w wx (DRes b F S :: Rs) → KeepAt wx F (.slice ka (keep i).length kc) (keep i) := fun wx F S Rs h => (HKE.out F (fun y hy => ((h.each (DRes b F S) (by simp)).2 y hy).1)).grow h.only
            have KP := Lib.hid kp
            clear kp
            have B1 := Lib.hid (has_boot H6.out (KP.out _ _ _ _ H6.out) (by have := HC.out.pd; omega))
            go_wp2_with fail
            refine B1.out.mono ?_
            rintro e w5 ⟨rfl, F5, h5⟩
            have hb5 : w5.heap[go]? = some (.cells #[.int .i64 (K i), .int .i64 (N i), .slice la (rs i).length lc, .slice ka (keep i).length kc] 35 (0, 0)) := h5.blk (by simp)
            have c1 : w5.cell? ⟨go, 1, none⟩ = some (.int .i64 (N i)) := by rw [cell_of_row _ _ _ _ _ _ hb5]; rfl
            have FU := Lib.hid (has_fuse h5 (N i) nb1)
            clear B1 h5 hb5
            go_wp2_with fail
            refine FU.out.mono ?_
            rintro e w6 ⟨rfl, F6, h6⟩
            have q6 : LogIs ((X.S.booted (keep i)).fused (N i)) a 40 X.n 100 X.f ∨ LogIs ((X.S.booted (keep i)).fused (N i)) a 40 X.n 100 X.f := .inl ((HL.out.boot _).fuse _)
            have OA := Lib.hid (open_any_is h6 q6 ha ha1 cn0 (by omega) cn0 (by omega))
            have hst6 : ((X.S.booted (keep i)).fused (N i)).steps = X.S.steps := by rw [fused_steps]; rfl
            rw [hst6] at OA
            clear FU h6 q6 c1
            go_wp2_with fail
            refine OA.out.mono ?_
            rintro e w7 ⟨v7, F7, S7, rfl, st7, pd7, lg7, h7⟩
            have hb7 : w7.heap[go]? = some (.cells #[.int .i64 (K i), .int .i64 (N i), .slice la (rs i).length lc, .slice ka (keep i).length kc] 35 (0, 0)) := h7.blk (by simp)
            have c3 : w7.cell? ⟨go, 3, none⟩ = some (.slice ka (keep i).length kc) := by rw [cell_of_row _ _ _ _ _ _ hb7]; rfl
            have B2 := Lib.hid (has_boot h7 (KP.out _ _ _ _ h7) (by omega))
            have LG7 := Lib.hid (lg7 (keep i))
            clear OA h7 hb7 lg7
            go_wp2_with fail
            refine B2.out.mono ?_
            rintro e w8 ⟨rfl, F8, h8⟩
            have OD := Lib.hid (open_done_two h8 LG7.out ha ha1 cn0 (by omega) cn0 (by omega))
            have hst8 : (S7.booted (keep i)).steps = S7.steps := rfl
            rw [hst8] at OD
            clear B2 h8 c3 hst8 hst6
            go_wp2_with fail
            refine OD.out.mono ?_
            rintro e w9 ⟨wb9, F9, S9, n9, f9, rfl, st9, lg9, hR, h9⟩
            have pd9 : S9.pend.length ≤ 200 := by rw [lg9.calm.pend]; simp
            have GS := Lib.hid (groups_any (h9.walAt (wb := wb9) (b := b) (a := a) (s := 40) (g := n9) (by simp)))
            clear OD
            obtain ⟨hn9, rfl⟩ := hR
            obtain rfl : n9 = X.n := by rcases hn9 with h | h <;> exact h
            have fin : CRel w a b (i + 1) (pv wb9) X.hv (.int .i64 X.n) u12 (.bool false) (.bool false) w9 :=
              CRel.mk ⟨X.n, X.f, S9, F9, wb9, X.G, X.hv⟩ ⟨by simp only; omega, by simp only; omega, by simp only; omega, pd9, HC.out.isB, ((h9.swap.pull (L1 := [_, _]) (L2 := [_, _])).drop.firsts (L := [_, _, _]) (L2 := [_]))⟩ (.inl ⟨lg9, rfl, rfl⟩)
            have FIN := Lib.hid fin
            clear fin
            clear h9
            go_wp2_with (go_at_call 21; refine GS.out.mono ?_; rintro e w' ⟨rfl, rfl⟩)
            go_meet
            exact FIN.out
          · as_aux_lemma =>
            by_cases hN7 : N i = 7
            · have c1' : w4.cell? ⟨go, 1, none⟩ = some (.int .i64 7) := by rw [← hN7]; exact c1
              have FO := Lib.hid (has_formatL H6.out HL.out ha (by omega) (by omega) (by have := HC.out.st; omega))
              clear c1 c2 c3 nb0 nb1 hN7
              go_wp2_with fail
              refine FO.out.mono ?_
              rintro e w5 ⟨F5, S5, st5, pd5, h5, ⟨rfl, lg5⟩ | ⟨rfl, off5, lg5⟩⟩
              · have OP := Lib.hid (has_openL h5 lg5 ha (by omega) (by omega) (by omega) (by omega))
                clear FO
                go_wp2_with fail
                refine OP.out.mono ?_
                rintro e w6 ⟨wb6, rfl, h6⟩
                have fin : CRel w a b (i + 1) (pv wb6) X.hv (.int .i64 0) u12 (.bool false) (.bool false) w6 :=
                  CRel.mk ⟨0, X.f, S5, F5, wb6, X.G, X.hv⟩ ⟨by simp, by simp only; omega, by have := HC.out.st; simp only; omega, by simp only; omega, HC.out.isB, ((h6.swap.pull (L1 := [_, _]) (L2 := [_, _])).drop.firsts (L := [_, _, _]) (L2 := [_]))⟩ (.inl ⟨lg5, rfl, rfl⟩)
                have FIN := Lib.hid fin
                clear OP h5 h6 fin
                go_wp2
                go_meet
                exact FIN.out
              · have fin : CRel w a b (i + 1) (pv X.wb) X.hv (.int .i64 X.n) u12 (.bool false) (.bool true) w5 :=
                  CRel.mk ⟨X.n, X.f, S5, F5, X.wb, X.G, X.hv⟩ ⟨HC.out.n0, HC.out.next.n1, by have := HC.out.st; simp only; omega, by simp only; omega, HC.out.isB, h5.firsts (L := [_, _, _]) (L2 := [_])⟩ (.inr (.inr ⟨off5, rfl, rfl, lg5⟩))
                have FIN := Lib.hid fin
                clear FO h5 fin
                go_wp2
                go_meet
                exact FIN.out
            · have fin : CRel w a b (i + 1) (pv X.wb) X.hv (.int .i64 X.n) u12 (.bool false) (.bool false) w4 := CRel.mk X HC.out.next (.inl ⟨HL.out, rfl, rfl⟩)
              have FIN := Lib.hid fin
              have hNb : (N i != 7) = true := by simp [hN7]
              clear fin
              go_wp2
              go_meet
              exact FIN.out
        case rest =>
          as_aux_lemma =>
          clear H6 HC ON HPI HKE
          obtain ⟨Y, rfl, rfl, rfl, hCy, hMy⟩ := hcut
          rename World => wy
          have ON := Lib.hid (on_any hCy.has.dat)
          have fin : CRel w a b (i + 1) (pv Y.wb) Y.hv (.int .i64 Y.n) u12 u13 u14 wy := CRel.mk Y hCy hMy
          have FIN := Lib.hid fin
          by_cases hony : Y.S.on = true
          · have hLy : LogIs Y.S a 40 Y.n 100 Y.f := by
              rcases hMy with h | ⟨h, _⟩ | ⟨h, _⟩
              · exact h.1
              · rw [hony] at h; cases h
              · rw [hony] at h; cases h
            rw [hony] at ON
            have RO := Lib.hid (rows_any hCy.has hony a ha (by omega))
            have HCY := Lib.hid hCy
            have HLY := Lib.hid hLy
            have HMY := Lib.hid hMy
            clear hCy hMy fin hLy hony
            go_upto_region 79 with (go_at_call 12; refine ON.out.mono ?_; rintro e w' ⟨rfl, rfl⟩)
            go_wp2_with fail
            refine RO.out.mono ?_
            rintro e wz ⟨Gz, vz, rfl, hz⟩
            rw [rows_of_log HLY.out] at hz
            have q1 := hz.qat (G := Gz) (v := vz) (vs := rowsF a Y.f) (by simp)
            have q2 := hz.qat (G := Y.G) (v := Y.hv) (vs := rowsF a Y.f) (by simp)
            have isb : ∀ c ∈ rowsF a Y.f, IsB c := fun c hc => by obtain ⟨x, _, _, _, rfl⟩ := rowsF_mem hc; exact HCY.out.isB x
            have SA := Lib.hid (same_any q1 q2 isb isb (by rw [rowsF_len ha ha1]; omega))
            have HZ := Lib.hid hz
            clear RO hz q1 q2 isb
            go_wp2_with fail
            refine SA.out.mono ?_
            rintro e wv ⟨r, rfl, hr, oz⟩
            obtain rfl : r = true := hr.2 rfl
            have hv := HZ.out.later oz
            have GS := Lib.hid (groups_any (hv.walAt (wb := Y.wb) (b := b) (a := a) (s := 40) (g := Y.n) (by simp)))
            have fin : CRel w a b (i + 1) (pv Y.wb) Y.hv (.int .i64 Y.n) u12 u13 u14 wv :=
              ⟨Y, rfl, rfl, rfl, ⟨HCY.out.n0, HCY.out.n1, HCY.out.st, HCY.out.pd, HCY.out.isB, hv.drop⟩, HMY.out⟩
            have FIN2 := Lib.hid fin
            clear SA HZ hv fin FIN
            go_wp2_with (go_at_call 21; refine GS.out.mono ?_; rintro e w' ⟨rfl, rfl⟩)
            go_roundw
            case rel => exact ⟨i + 1, by omega, by go_num, FIN2.out⟩
            case measure => simp [intOf]; omega
          · have hoffy : Y.S.on = false := by cases h : Y.S.on; rfl; exact absurd h hony
            rw [hoffy] at ON
            clear hCy hMy fin hony hoffy
            go_wp2_with (go_at_call 12; refine ON.out.mono ?_; rintro e w' ⟨rfl, rfl⟩)
            go_roundw
            case rel => exact ⟨i + 1, by omega, by go_num, FIN.out⟩
            case measure => simp [intOf]; omega
      · have hoff : X.S.on = false := by cases h : X.S.on; rfl; exact absurd h hon
        rw [hoff] at ON
        by_cases hk6 : κ = 6
        · subst hk6
          go_upto_block 2 with (go_at_call 12; refine ON.out.mono ?_; rintro e w' ⟨rfl, rfl⟩)
          go_cut [8, 9, 11, 12, 13, 14, 18, 19, 20, 21, 22, 23, 24, 25, 26] (fun v8 v9 v11 v12 v13 v14 _ _ _ _ _ _ _ _ _ wx => CRel w a b (i + 1) v8 v9 v11 v12 v13 v14 wx)
          case first =>
            rcases HM.out with ⟨h, _⟩ | ⟨_, rfl, rfl, ps, hp0w, hok, hpB, hLL⟩ | ⟨_, rfl, rfl, hLL⟩
            · exact absurd h.calm.on hon
            · have HL := Lib.hid hLL
              have P0W := Lib.hid hp0w
              have HOK := Lib.hid hok
              have PB := Lib.hid hpB
              clear hLL hp0w hok hpB HM
              as_aux_lemma =>
              have cn0 := HC.out.n0
              have cn1 := HC.out.n1
              have cst := HC.out.st
              have kp : ∀ (wx : World) (F : List Nat) (S : St) (Rs : List Res), Has w wx (DRes b F S :: Rs) → KeepAt wx F (.slice ka (keep i).length kc) (keep i) := fun wx F S Rs h => (HKE.out F (fun y hy => ((h.each (DRes b F S) (by simp)).2 y hy).1)).grow h.only
              have KP := Lib.hid kp
              clear kp
              have B1 := Lib.hid (has_boot H6.out (KP.out _ _ _ _ H6.out) (by have := HC.out.pd; omega))
              go_wp2_with fail
              refine B1.out.mono ?_
              rintro e w5 ⟨rfl, F5, h5⟩
              have hb5 : w5.heap[go]? = some (.cells #[.int .i64 (K i), .int .i64 (N i), .slice la (rs i).length lc, .slice ka (keep i).length kc] 35 (0, 0)) := h5.blk (by simp)
              have c1 : w5.cell? ⟨go, 1, none⟩ = some (.int .i64 (N i)) := by rw [cell_of_row _ _ _ _ _ _ hb5]; rfl
              have FU := Lib.hid (has_fuse h5 (N i) nb1)
              clear B1 h5 hb5
              go_wp2_with fail
              refine FU.out.mono ?_
              rintro e w6 ⟨rfl, F6, h6⟩
              have q6 : LogOut ((X.S.booted (keep i)).fused (N i)) a 40 X.n 100 X.f ps := (HL.out (keep i)).fuse _
              have hst6 : ((X.S.booted (keep i)).fused (N i)).steps = X.S.steps := by rw [fused_steps]; rfl
              have OA := Lib.hid (open_any_out h6 q6 ha ha1 cn0 (by omega) HOK.out PB.out (by rw [hst6]; omega))
              have hst6 : ((X.S.booted (keep i)).fused (N i)).steps = X.S.steps := by rw [fused_steps]; rfl
              rw [hst6] at OA
              clear FU h6 q6 c1
              go_wp2_with fail
              refine OA.out.mono ?_
              rintro e w7 ⟨v7, F7, S7, rfl, st7, pd7, lg7, h7⟩
              have hb7 : w7.heap[go]? = some (.cells #[.int .i64 (K i), .int .i64 (N i), .slice la (rs i).length lc, .slice ka (keep i).length kc] 35 (0, 0)) := h7.blk (by simp)
              have c3 : w7.cell? ⟨go, 3, none⟩ = some (.slice ka (keep i).length kc) := by rw [cell_of_row _ _ _ _ _ _ hb7]; rfl
              have B2 := Lib.hid (has_boot h7 (KP.out _ _ _ _ h7) (by omega))
              have LG7 := Lib.hid (lg7 (keep i))
              clear OA h7 hb7 lg7
              go_wp2_with fail
              refine B2.out.mono ?_
              rintro e w8 ⟨rfl, F8, h8⟩
              have OD := Lib.hid (open_done_out h8 LG7.out rfl ha ha1 cn0 (by omega) HOK.out PB.out (by show S7.steps ≤ _; omega))
              have hst8 : (S7.booted (keep i)).steps = S7.steps := rfl
              rw [hst8] at OD
              clear B2 h8 c3 hst8 hst6
              go_wp2_with fail
              refine OD.out.mono ?_
              rintro e w9 ⟨wb9, F9, S9, n9, f9, rfl, st9, lg9, hR, h9⟩
              have pd9 : S9.pend.length ≤ 200 := by rw [lg9.calm.pend]; simp
              have GS := Lib.hid (groups_any (h9.walAt (wb := wb9) (b := b) (a := a) (s := 40) (g := n9) (by simp)))
              clear OD
              rcases hR with ⟨rfl, rfl⟩ | ⟨rfl, rfl⟩
              · have fin : CRel w a b (i + 1) (pv wb9) X.hv (.int .i64 X.n) u12 (.bool false) (.bool false) w9 :=
                  CRel.mk ⟨X.n, X.f, S9, F9, wb9, X.G, X.hv⟩ ⟨by simp only; omega, by simp only; omega, by simp only; omega, pd9, HC.out.isB, ((h9.swap.pull (L1 := [_, _]) (L2 := [_, _])).drop.firsts (L := [_, _, _]) (L2 := [_]))⟩ (.inl ⟨lg9, rfl, rfl⟩)
                have FIN := Lib.hid fin
                clear fin
                have hzb : (X.n == X.n + 1) = false := by rw [beq_eq_false_iff_ne]; omega
                clear h9
                go_wp2_with (go_at_call 21; refine GS.out.mono ?_; rintro e w' ⟨rfl, rfl⟩)
                go_meet
                exact FIN.out
              · have hps := (gfits_of ha (by omega) (by omega) HOK.out).outside
                have WI := Lib.hid (with_any (h9.pull (L1 := [_, _, _]) (L2 := [_])) P0W.out a ha ha1 (rowsF_len ha ha1 _) hps)
                clear h9
                go_wp2_with (first | (go_at_call 21; refine GS.out.mono ?_; rintro e w' ⟨rfl, rfl⟩) | (go_at_call 16; refine WI.out.mono ?_; rintro e w10 ⟨G10, v10, rfl, h10⟩; rw [with_rows ha ha1 _ _ hps] at h10; have H10 := Lib.hid h10; clear h10))
                have h10 := H10.out
                have fin : CRel w a b (i + 1) (pv wb9) v10 (.int .i64 (X.n + 1)) u12 (.bool false) (.bool false) w10 :=
                  CRel.mk ⟨(X.n + 1), (updL X.f ps), S9, F9, wb9, G10, v10⟩ ⟨by simp only; omega, by simp only; omega, by simp only; omega, pd9, updL_isB HC.out.isB _ PB.out, ((((h10.pull (L1 := [_, _, _]) (L2 := [_])).drop).pull (L1 := [_, _]) (L2 := [_])).pull (L1 := [_, _]) (L2 := [_])).swap.firsts (L := [_, _, _]) (L2 := [_])⟩ (.inl ⟨lg9, rfl, rfl⟩)
                have FIN := Lib.hid fin
                clear fin
                go_meet
                exact FIN.out
            · have HL := Lib.hid hLL
              clear hLL HM
              as_aux_lemma =>
              have cn0 := HC.out.n0
              have cn1 := HC.out.n1
              have cst := HC.out.st
              have kp : ∀ (wx : World) (F : List Nat) (S : St) (Rs : List Res), Has w wx (DRes b F S :: Rs) → KeepAt wx F (.slice ka (keep i).length kc) (keep i) := fun wx F S Rs h => (HKE.out F (fun y hy => ((h.each (DRes b F S) (by simp)).2 y hy).1)).grow h.only
              have KP := Lib.hid kp
              clear kp
              have B1 := Lib.hid (has_boot H6.out (KP.out _ _ _ _ H6.out) (by have := HC.out.pd; omega))
              go_wp2_with fail
              refine B1.out.mono ?_
              rintro e w5 ⟨rfl, F5, h5⟩
              have hb5 : w5.heap[go]? = some (.cells #[.int .i64 (K i), .int .i64 (N i), .slice la (rs i).length lc, .slice ka (keep i).length kc] 35 (0, 0)) := h5.blk (by simp)
              have c1 : w5.cell? ⟨go, 1, none⟩ = some (.int .i64 (N i)) := by rw [cell_of_row _ _ _ _ _ _ hb5]; rfl
              have FU := Lib.hid (has_fuse h5 (N i) nb1)
              clear B1 h5 hb5
              go_wp2_with fail
              refine FU.out.mono ?_
              rintro e w6 ⟨rfl, F6, h6⟩
              have q6 : LogIs ((X.S.booted (keep i)).fused (N i)) a 40 X.n 100 X.f ∨ LogIs ((X.S.booted (keep i)).fused (N i)) a 40 0 100 X.f := (HL.out (keep i)).imp (fun h => h.fuse _) (fun h => h.fuse _)
              have OA := Lib.hid (open_any_is h6 q6 ha ha1 cn0 (by omega) (by omega) (by omega))
              have hst6 : ((X.S.booted (keep i)).fused (N i)).steps = X.S.steps := by rw [fused_steps]; rfl
              rw [hst6] at OA
              clear FU h6 q6 c1
              go_wp2_with fail
              refine OA.out.mono ?_
              rintro e w7 ⟨v7, F7, S7, rfl, st7, pd7, lg7, h7⟩
              have hb7 : w7.heap[go]? = some (.cells #[.int .i64 (K i), .int .i64 (N i), .slice la (rs i).length lc, .slice ka (keep i).length kc] 35 (0, 0)) := h7.blk (by simp)
              have c3 : w7.cell? ⟨go, 3, none⟩ = some (.slice ka (keep i).length kc) := by rw [cell_of_row _ _ _ _ _ _ hb7]; rfl
              have B2 := Lib.hid (has_boot h7 (KP.out _ _ _ _ h7) (by omega))
              have LG7 := Lib.hid (lg7 (keep i))
              clear OA h7 hb7 lg7
              go_wp2_with fail
              refine B2.out.mono ?_
              rintro e w8 ⟨rfl, F8, h8⟩
              have OD := Lib.hid (open_done_two h8 LG7.out ha ha1 cn0 (by omega) (by omega) (by omega))
              have hst8 : (S7.booted (keep i)).steps = S7.steps := rfl
              rw [hst8] at OD
              clear B2 h8 c3 hst8 hst6
              go_wp2_with fail
              refine OD.out.mono ?_
              rintro e w9 ⟨wb9, F9, S9, n9, f9, rfl, st9, lg9, hR, h9⟩
              have pd9 : S9.pend.length ≤ 200 := by rw [lg9.calm.pend]; simp
              have GS := Lib.hid (groups_any (h9.walAt (wb := wb9) (b := b) (a := a) (s := 40) (g := n9) (by simp)))
              clear OD
              obtain ⟨hn9, rfl⟩ := hR
              by_cases hz9 : n9 = 0
              · subst hz9
                have fin : CRel w a b (i + 1) (pv wb9) X.hv (.int .i64 0) u12 (.bool false) (.bool false) w9 :=
                  CRel.mk ⟨0, X.f, S9, F9, wb9, X.G, X.hv⟩ ⟨by simp only; omega, by simp only; omega, by simp only; omega, pd9, HC.out.isB, ((h9.swap.pull (L1 := [_, _]) (L2 := [_, _])).drop.firsts (L := [_, _, _]) (L2 := [_]))⟩ (.inl ⟨lg9, rfl, rfl⟩)
                have FIN := Lib.hid fin
                clear fin
                clear h9
                go_wp2_with (go_at_call 21; refine GS.out.mono ?_; rintro e w' ⟨rfl, rfl⟩)
                go_meet
                exact FIN.out
              · obtain rfl : n9 = X.n := by rcases hn9 with h | h; exact h; exact absurd h hz9
                have fin : CRel w a b (i + 1) (pv wb9) X.hv (.int .i64 X.n) u12 (.bool false) (.bool false) w9 :=
                  CRel.mk ⟨X.n, X.f, S9, F9, wb9, X.G, X.hv⟩ ⟨by simp only; omega, by simp only; omega, by simp only; omega, pd9, HC.out.isB, ((h9.swap.pull (L1 := [_, _]) (L2 := [_, _])).drop.firsts (L := [_, _, _]) (L2 := [_]))⟩ (.inl ⟨lg9, rfl, rfl⟩)
                have FIN := Lib.hid fin
                clear fin
                have hzb : (X.n == 0) = false := by simp [hz9]
                clear h9
                go_wp2_with (go_at_call 21; refine GS.out.mono ?_; rintro e w' ⟨rfl, rfl⟩)
                go_meet
                exact FIN.out
          case rest =>
            as_aux_lemma =>
            clear H6 HC ON HPI HKE
            obtain ⟨Y, rfl, rfl, rfl, hCy, hMy⟩ := hcut
            rename World => wy
            have ON := Lib.hid (on_any hCy.has.dat)
            have fin : CRel w a b (i + 1) (pv Y.wb) Y.hv (.int .i64 Y.n) u12 u13 u14 wy := CRel.mk Y hCy hMy
            have FIN := Lib.hid fin
            by_cases hony : Y.S.on = true
            · have hLy : LogIs Y.S a 40 Y.n 100 Y.f := by
                rcases hMy with h | ⟨h, _⟩ | ⟨h, _⟩
                · exact h.1
                · rw [hony] at h; cases h
                · rw [hony] at h; cases h
              rw [hony] at ON
              have RO := Lib.hid (rows_any hCy.has hony a ha (by omega))
              have HCY := Lib.hid hCy
              have HLY := Lib.hid hLy
              have HMY := Lib.hid hMy
              clear hCy hMy fin hLy hony
              go_upto_region 79 with (go_at_call 12; refine ON.out.mono ?_; rintro e w' ⟨rfl, rfl⟩)
              go_wp2_with fail
              refine RO.out.mono ?_
              rintro e wz ⟨Gz, vz, rfl, hz⟩
              rw [rows_of_log HLY.out] at hz
              have q1 := hz.qat (G := Gz) (v := vz) (vs := rowsF a Y.f) (by simp)
              have q2 := hz.qat (G := Y.G) (v := Y.hv) (vs := rowsF a Y.f) (by simp)
              have isb : ∀ c ∈ rowsF a Y.f, IsB c := fun c hc => by obtain ⟨x, _, _, _, rfl⟩ := rowsF_mem hc; exact HCY.out.isB x
              have SA := Lib.hid (same_any q1 q2 isb isb (by rw [rowsF_len ha ha1]; omega))
              have HZ := Lib.hid hz
              clear RO hz q1 q2 isb
              go_wp2_with fail
              refine SA.out.mono ?_
              rintro e wv ⟨r, rfl, hr, oz⟩
              obtain rfl : r = true := hr.2 rfl
              have hv := HZ.out.later oz
              have GS := Lib.hid (groups_any (hv.walAt (wb := Y.wb) (b := b) (a := a) (s := 40) (g := Y.n) (by simp)))
              have fin : CRel w a b (i + 1) (pv Y.wb) Y.hv (.int .i64 Y.n) u12 u13 u14 wv :=
                ⟨Y, rfl, rfl, rfl, ⟨HCY.out.n0, HCY.out.n1, HCY.out.st, HCY.out.pd, HCY.out.isB, hv.drop⟩, HMY.out⟩
              have FIN2 := Lib.hid fin
              clear SA HZ hv fin FIN
              go_wp2_with (go_at_call 21; refine GS.out.mono ?_; rintro e w' ⟨rfl, rfl⟩)
              go_roundw
              case rel => exact ⟨i + 1, by omega, by go_num, FIN2.out⟩
              case measure => simp [intOf]; omega
            · have hoffy : Y.S.on = false := by cases h : Y.S.on; rfl; exact absurd h hony
              rw [hoffy] at ON
              clear hCy hMy fin hony hoffy
              go_wp2_with (go_at_call 12; refine ON.out.mono ?_; rintro e w' ⟨rfl, rfl⟩)
              go_roundw
              case rel => exact ⟨i + 1, by omega, by go_num, FIN.out⟩
              case measure => simp [intOf]; omega
        · have fin : CRel w a b (i + 1) (pv X.wb) X.hv (.int .i64 X.n) u12 u13 u14 w4 := CRel.mk X HC.out.next HM.out
          have FIN := Lib.hid fin
          have hkb : (κ != 6) = true := by simp [hk6]
          clear fin
          go_wp2_with (go_at_call 12; refine ON.out.mono ?_; rintro e w' ⟨rfl, rfl⟩)
          go_roundw
          case rel => exact ⟨i + 1, by omega, by go_num, FIN.out⟩
          case measure => simp [intOf]; omega
    · have HO := Lib.hid hC.has.only
      clear hC hM
      by_cases hL : len ≤ 60
      · have hiL : i = len := by omega
        clear hlt hi
        subst hiL
        go_wp2
        go_ret
        exact ⟨rfl, HO.out⟩
      · have hiL : i = 60 := by omega
        clear hlt hi
        subst hiL
        go_wp2
        go_ret
        exact ⟨rfl, HO.out⟩
end Go.Proofs.Ytfkpehefofihmaa
