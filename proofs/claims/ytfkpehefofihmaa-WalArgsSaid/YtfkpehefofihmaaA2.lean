/- WalArgs, walked for a log of three sectors -/
import Derived.Test.YtfkpehefofihmaaA0
set_option linter.unusedSimpArgs false
set_option linter.unusedVariables false
set_option maxRecDepth 8000
namespace Go.Proofs.Ytfkpehefofihmaa
open Go.RowKit

set_option maxHeartbeats 8000000 in
theorem args_c1 (w : World) (n at' many : Int) (h1 : 1 ≤ n) (h2 : n ≤ 8192) (hm : 3 ≤ many ∧ many ≤ 3) (ha : 0 ≤ at') (hx : at' ≤ n - many) :
    Calls Try.prog 4 #[.int .i64 n, .int .i64 at', .int .i64 many] w fun e w' => e = .returned (.bool true) ∧ Only [] w w' := by
  have SH := Lib.hid (shown_any w)
  obtain ⟨f1, f2, f3, f4, f5⟩ := room_facts (m := many) (by omega) (by omega)
  have hbs := buildSlice32_0
  go_enter Try.func4, Try.ntmps4
  go_wp2_with fail
  refine SH.out.mono ?_
  rintro e w1 ⟨rfl, o1⟩
  have NE := Lib.hid (has_new ((Has.start w).later o1) n h1 h2)
  clear SH o1
  go_wp2_with fail
  refine NE.out.mono ?_
  rintro e w2 ⟨b, F, rfl, hh⟩
  rw [new_quiet] at hh
  have RO := Lib.hid (room_any many w2 (by omega))
  have OP := Lib.hid (has_open_none hh rfl ha (s := many) (by omega) (by simp only [quiet]; omega) (now_none n 0 at'))
  clear NE hh
  go_wp2_with (go_at_call 24; refine RO.out.mono ?_; rintro e w' ⟨rfl, rfl⟩)
  refine OP.out.mono ?_
  rintro e w3 ⟨rfl, hh⟩
  have FO := Lib.hid (has_format hh ha (s := many) (by omega) (by omega) (by omega) (by omega))
  clear OP RO hh
  go_wp2_with fail
  refine FO.out.mono ?_
  rintro e w4 ⟨rfl, F4, hh⟩
  have hf : (updF (fun _ => none) at' (headA at' many 0 0)) at' = some (headA at' many 0 0) := by simp [updF]
  generalize updF (fun _ => none) at' (headA at' many 0 0) = f at *
  have HF := Lib.hid hf
  have OP := Lib.hid (has_open (g := 0) hh rfl ha (s := many) (by omega) (by simp only [quiet]; omega) (by omega) (by omega) (by rw [show (quiet n (0 + 1 + 1) f).now = f from rfl, hf, Option.getD_some]))
  clear FO hh hf
  go_wp2_with fail
  refine OP.out.mono ?_
  rintro e w5 ⟨wb, rfl, hh⟩
  have hh := hh.swap
  have GS := Lib.hid (groups_any (hh.walAt (wb := wb) (b := b) (a := at') (s := many) (g := 0) (by simp)))
  have H5 := Lib.hid hh
  clear OP hh
  go_wp2_with (go_at_call 21; refine GS.out.mono ?_; rintro e w' ⟨rfl, rfl⟩)
  have O3 := Lib.hid (open_no H5.out.dat at' (many - 1) (by omega) (by omega) (by omega) (by omega) (by simp only [quiet]; omega))
  refine O3.out.mono ?_
  rintro e w6 ⟨rfl, rfl⟩
  have hh := H5.out
  clear O3
  have H6 := Lib.hid hh
  clear H5 GS hh
  go_wp2
  have h7 := (has_nil H6.out)
  go_loopw [21, 20] (fun i c wr => ∃ (k : Nat) (G : List Nat), (k : Int) ≤ n ∧ i = .int .i64 k ∧ ((outs at' many k).length : Int) ≤ roomF many + 1 ∧ Has w wr (LRes G c (outs at' many k) :: DRes b F4 (quiet n (0 + 1 + 1) f) :: WRes wb b at' many 0 :: [])) (fun i _ _ => n.toNat - (intOf i).toNat)
  case atStart => exact ⟨0, _, by omega, rfl, by simp [outs]; omega, h7⟩
  case round =>
    obtain ⟨k, G, hk, rfl, hlen, hh⟩ := hrel
    obtain ⟨la, lc, hc⟩ := (hh.lat (G := G) (v := u20) (ps := outs at' many k) (by simp)).slice
    subst hc
    by_cases hgo : (k : Int) < n ∧ ((outs at' many k).length : Int) ≤ roomF many
    · obtain ⟨hkn, hle⟩ := hgo
      cases hio : isOut at' many k with
      | true =>
        obtain ⟨v3, w3, hrun, G3, h3⟩ := has_append hh (k : Int) (fullB ((k : Int) % 256) 7) (fullB_ok _ _) (by omega) 32
        have e3 : outs at' many k ++ [((k : Int), fullB ((k : Int) % 256) 7)] = outs at' many (k + 1) := (outs_in at' many k hio).symm
        rw [e3] at h3
        have RUN := Lib.hid hrun
        have H3 := Lib.hid h3
        have hl3 : (outs at' many (k + 1)).length = (outs at' many k).length + 1 := by rw [← e3]; simp
        clear hh hrun h3 e3
        simp only [isOut, decide_eq_true_eq] at hio
        by_cases hlow : (k : Int) < at'
        · go_wp2_with (first | (go_at_call 25; refine (full_any _ _ _).mono ?_; rintro e w' ⟨rfl, rfl⟩) | (refine wpL_value rfl (run_builtin_append rfl rfl rfl RUN.out) ?_))
          go_roundw
          case rel => exact ⟨k + 1, G3, by omega, by go_num, by omega, H3.out⟩
          case measure => simp [intOf]; omega
        · go_wp2_with (first | (go_at_call 25; refine (full_any _ _ _).mono ?_; rintro e w' ⟨rfl, rfl⟩) | (refine wpL_value rfl (run_builtin_append rfl rfl rfl RUN.out) ?_))
          go_roundw
          case rel => exact ⟨k + 1, G3, by omega, by go_num, by omega, H3.out⟩
          case measure => simp [intOf]; omega
      | false =>
        have H3 := Lib.hid hh
        have e3 := outs_out at' many k hio
        simp only [isOut, decide_eq_false_iff_not] at hio
        clear hh
        go_wp2
        go_roundw
        case rel => exact ⟨k + 1, G, by omega, by go_num, by rw [e3]; exact hlen, by rw [e3]; exact H3.out⟩
        case measure => simp [intOf]; omega
    · have hge : ¬ ((k : Int) < n ∧ ((outs at' many k).length : Int) ≤ roomF many) := hgo
      by_cases hkn : (k : Int) < n
      · have hlg : roomF many < ((outs at' many k).length : Int) := by omega
        have hD := hh.swap.swap2
        have hl := hD.lat (G := G) (v := .slice la (outs at' many k).length lc) (ps := outs at' many k) (by simp)
        have hap : ∀ x ∈ F4, x ∉ G := fun x hx => hh.swap.apart2 x hx
        have PU := hl.puts hap (by omega)
        have CN := Lib.hid (has_commit_no hD (PU.raws (fun p hp => by obtain ⟨j, hj, _, rfl⟩ := outs_mem hp; simp only [outP]; omega)) ha (by omega) (by omega) (by omega) (fun hg => by have := hg.1; simp only [rawsOf, List.length_map] at this; omega))
        have hcl := hl.cap_le
        obtain ⟨p0, hp0⟩ : ∃ p, (outs at' many k)[0]? = some p := ⟨_, List.getElem?_eq_getElem (by omega)⟩
        obtain ⟨g0, cap0, gb0, e0, -⟩ := hl.cells hp0
        simp only [Value.slice.injEq] at e0
        obtain ⟨rfl, -, rfl⟩ := e0
        have KEEP := Lib.hid hap
        clear hh hD hl PU hap
        go_wp2_with fail
        refine CN.out.mono ?_
        rintro e w6b ⟨rfl, hD⟩
        have GS6 := Lib.hid (groups_any (hD.walAt (wb := wb) (b := b) (a := at') (s := many) (g := 0) (by simp)))
        have HD := Lib.hid hD
        clear CN hD
        obtain ⟨M, hMdef⟩ : ∃ M : Nat, roomF many = (M : Int) := ⟨(roomF many).toNat, by omega⟩
        have hMt : (roomF many).toNat = M := by omega
        go_wp2_with (go_at_call 21; refine GS6.out.mono ?_; rintro e w' ⟨rfl, rfl⟩)
        have hD := HD.out
        have hl := hD.lat (G := G) (v := .slice (some ⟨g0, 0, none⟩) (outs at' many k).length lc) (ps := outs at' many k) (by simp)
        have PU := hl.puts_take (m := M) (cap' := lc) KEEP.out (by omega) (by omega)
        have hM : M ≤ (outs at' many k).length := by omega
        have hC := has_commit (ps := (outs at' many k).take M) hD PU ha (by omega) (by omega) (by omega) (by omega) (outs_group (n := n) (by omega) (by rw [Nat.min_eq_left hM]; omega)) (by omega) (by omega)
        have hgok : GroupOk at' many n (rawsOf ((outs at' many k).take M)) := outs_group (n := n) (by omega) (by rw [Nat.min_eq_left hM]; omega)
        have HGOK := Lib.hid hgok
        have HC := Lib.hid hC
        clear hC hgok hD hl PU
        go_wp2_with fail
        refine HC.out.mono ?_
        rintro e w7 ⟨rfl, k7, F7, k70, k71, h7⟩
        have H7 := Lib.hid h7
        clear HC h7 k71 k70
        go_wp2
        go_loopw [24] (fun x wr => ∃ i : Nat, i ≤ M ∧ x = .int .i64 i ∧ Has w wr (DRes b F7 (quiet n k7 (putLog f at' many 0 ((outs at' many k).take M))) :: WRes wb b at' many (0 + 1) :: LRes G (.slice (some ⟨g0, 0, none⟩) (outs at' many k).length lc) (outs at' many k) :: [])) (fun x _ => M - (intOf x).toNat)
        case atStart => exact ⟨0, by omega, rfl, H7.out⟩
        case round =>
          obtain ⟨i, hi, rfl, hh⟩ := hrel
          by_cases hlt : i < M
          · obtain ⟨p, hp⟩ : ∃ p, (outs at' many k)[i]? = some p := ⟨_, List.getElem?_eq_getElem (by omega)⟩
            have hpt : p ∈ (outs at' many k).take M := List.mem_of_getElem? (i := i) (by rw [List.getElem?_take, if_pos hlt]; exact hp)
            obtain ⟨j, hj, hio, rfl⟩ := outs_mem (List.mem_of_getElem? hp)
            obtain ⟨g, cap', gb, e, hg, hgs, hgb, c0, c1, ok, hb⟩ := (hh.lat (G := G) (v := .slice (some ⟨g0, 0, none⟩) (outs at' many k).length lc) (ps := outs at' many k) (by simp)).cells hp
            cases e
            have hnow := putLog_at (f := f) (g := 0) (by omega) HGOK.out hpt
            have RD := Lib.hid (read_ok hh.dat (j : Int) (by rw [St.reach, if_neg (by simp [quiet]), if_neg (by simp only [quiet]; omega)]))
            rw [show (quiet n k7 (putLog f at' many 0 ((outs at' many k).take M))).now (j : Int) = some (fullB ((j : Int) % 256) 7) from hnow, Option.getD_some, fullB_sec] at RD
            have c0' : wr.cell? ⟨g0, i * 2, none⟩ = some (.int .i64 (j : Int)) := by rw [← Nat.zero_add (i * 2)]; exact c0
            have hH := hh
            have HH := Lib.hid hh
            have hsz : wr.heap.size = wr.heap.size := rfl
            have HGS := Lib.hid hgs
            clear hh hH hnow hb ok c1 hp hpt hsz hgs
            rename World => w8
            go_wp2_with (go_at_call 26; refine RD.out.mono ?_; rintro e w' ⟨rfl, rfl⟩)
            have hyb : (w8.alloc (.cells (sec (fullL ((j : Int) % 256) 7)) 88)).drew.heap[w8.heap.size]? = some (.cells (sec (fullL ((j : Int) % 256) 7)) 88 (0, 0)) := heap_alloc_last w8 _
            have hcj : (w8.alloc (.cells (sec (fullL ((j : Int) % 256) 7)) 88)).drew.cell? ⟨g0, 0 + i * 2, none⟩ = some (.int .i64 (j : Int)) := (World.cell?_alloc_lt w8 _ _ HGS.out).trans c0
            have H9 := Lib.hid (HH.out.alloc' (.cells (sec (fullL ((j : Int) % 256) 7)) 88)).drew
            clear RD HH c0 c0'
            refine wp_region_flowR Lat [0, 0, 0, 0, 1, 0, 0, 0, 0, 1, 0, 2, 1, 0, 0] (by kernel_rfl) (by kernel_rfl) Lat.refl Lat.trans ?_
            generalize (w8.alloc (.cells (sec (fullL ((j : Int) % 256) 7)) 88)).drew = w9 at *
            refine fr0 rfl (fun _ => rfl) ?_
            simp only [Act.put, List.setIfInBounds_toArray, List.set_cons_succ, List.set_cons_zero]
            refine fr0 (u := .bool false) rfl (fun w => (run_neq36 rfl rfl rfl w).trans rfl) ?_
            simp only [Act.put, List.setIfInBounds_toArray, List.set_cons_succ, List.set_cons_zero]
            refine fr0 (u := .bool false) rfl (fun _ => rfl) ?_
            simp only [Act.put, List.setIfInBounds_toArray, List.set_cons_succ, List.set_cons_zero]
            refine fr0 (by kernel_rfl) (fun _ => rfl) ?_
            simp only [Act.put, List.setIfInBounds_toArray, List.set_cons_succ, List.set_cons_zero]
            refine fr1 (u := .string (strOf (fullL ((j : Int) % 256) 7))) (by kernel_rfl) (fun x hx => run_str (fullL_len _ _) rfl rfl (hx.at hyb)) ?_
            simp only [Act.put, List.setIfInBounds_toArray, List.set_cons_succ, List.set_cons_zero]
            refine fr0 (by kernel_rfl) (fun _ => rfl) ?_
            simp only [Act.put, List.setIfInBounds_toArray, List.set_cons_succ, List.set_cons_zero]
            refine fr0 (by kernel_rfl) (fun _ => rfl) ?_
            simp only [Act.put, List.setIfInBounds_toArray, List.set_cons_succ, List.set_cons_zero]
            refine fr0 (u := .pointer (some ⟨g0, 0 + i * 2, none⟩)) (by kernel_rfl) (run_index32 (n := M) (by omega) rfl rfl rfl) ?_
            simp only [Act.put, List.setIfInBounds_toArray, List.set_cons_succ, List.set_cons_zero]
            refine fr0 (u := .pointer (some ⟨g0, 0 + i * 2, none⟩)) (by kernel_rfl) (run_field54m rfl rfl) ?_
            simp only [Act.put, List.setIfInBounds_toArray, List.set_cons_succ, List.set_cons_zero]
            refine fr1 (u := .int .i64 (j : Int)) (by kernel_rfl) (fun x hx => run_load1 rfl rfl (hx.cell hcj) isAgg3) ?_
            simp only [Act.put, List.setIfInBounds_toArray, List.set_cons_succ, List.set_cons_zero]
            refine fr0 (u := .int .u8 ((j : Int) % 256)) (by kernel_rfl) (run_conv35 rfl rfl) ?_
            simp only [Act.put, List.setIfInBounds_toArray, List.set_cons_succ, List.set_cons_zero]
            refine fr2 (u := .slice (some ⟨w9.heap.size, 0, none⟩) 64 64) (w' := w9.alloc (.cells (fullB ((j : Int) % 256) 7) 5)) (by kernel_rfl) (Lat.alloc _ _) (does_full rfl rfl rfl) ?_
            have hz := heap_alloc_last w9 (.cells (fullB ((j : Int) % 256) 7) 5)
            rw [fullB_sec] at hz ⊢
            simp only [Act.put, List.setIfInBounds_toArray, List.set_cons_succ, List.set_cons_zero]
            refine fr1 (u := .string (strOf (fullL ((j : Int) % 256) 7))) (by kernel_rfl) (fun x hx => run_str (fullL_len _ _) rfl rfl (hx.at hz)) ?_
            simp only [Act.put, List.setIfInBounds_toArray, List.set_cons_succ, List.set_cons_zero]
            refine fr0 (u := .bool false) (by kernel_rfl) (run_neqS rfl rfl rfl) ?_
            simp only [Act.put, List.setIfInBounds_toArray, List.set_cons_succ, List.set_cons_zero]
            refine fr0 (u := .bool false) rfl (fun _ => rfl) ?_
            simp only [Act.put, List.setIfInBounds_toArray, List.set_cons_succ, List.set_cons_zero]
            refine frnil ?_
            show Exit.then _ _ _ _ _
            have H10 := Lib.hid (H9.out.alloc' (.cells (sec (fullL ((j : Int) % 256) 7)) 5))
            clear hyb hcj hz H9
            go_wp2
            go_roundw
            case rel => exact ⟨i + 1, by omega, by go_num, H10.out⟩
            case measure => simp [intOf]; omega
          · have hiM : i = M := by omega
            have GS := Lib.hid (groups_any (hh.walAt (wb := wb) (b := b) (a := at') (s := many) (g := 0 + 1) (by simp)))
            have O := Lib.hid hh.only
            subst hiM
            clear hh
            go_wp2_with (go_at_call 21; refine GS.out.mono ?_; rintro e w' ⟨rfl, rfl⟩)
            go_ret
            exact ⟨rfl, O.out⟩
      · by_cases hlr : ((outs at' many k).length : Int) ≤ roomF many
        · have hD := hh.swap.swap2
          have hl := hD.lat (G := G) (v := .slice la (outs at' many k).length lc) (ps := outs at' many k) (by simp)
          have hap : ∀ x ∈ F4, x ∉ G := fun x hx => hh.swap.apart2 x hx
          have PU := hl.puts_take (cap' := lc) hap (by omega) (Nat.le_refl _)
          obtain ⟨M, hM0⟩ : ∃ M : Nat, (outs at' many k).length = M := ⟨_, rfl⟩
          rw [hM0] at PU
          have hM : M ≤ (outs at' many k).length := by omega
          have hC := has_commit (ps := (outs at' many k).take M) hD PU ha (by omega) (by omega) (by omega) (by omega) (outs_group (n := n) (by omega) (by rw [Nat.min_eq_left hM]; omega)) (by omega) (by omega)
          have hgok : GroupOk at' many n (rawsOf ((outs at' many k).take M)) := outs_group (n := n) (by omega) (by rw [Nat.min_eq_left hM]; omega)
          have HGOK := Lib.hid hgok
          have HC := Lib.hid hC
          clear hC hgok hD hh hl hap PU
          go_wp2_with fail
          refine HC.out.mono ?_
          rintro e w7 ⟨rfl, k7, F7, k70, k71, h7⟩
          have H7 := Lib.hid h7
          clear HC h7 k71 k70
          go_wp2
          go_loopw [24] (fun x wr => ∃ i : Nat, i ≤ M ∧ x = .int .i64 i ∧ Has w wr (DRes b F7 (quiet n k7 (putLog f at' many 0 ((outs at' many k).take M))) :: WRes wb b at' many (0 + 1) :: LRes G (.slice la (outs at' many k).length lc) (outs at' many k) :: [])) (fun x _ => M - (intOf x).toNat)
          case atStart => exact ⟨0, by omega, rfl, H7.out⟩
          case round =>
            obtain ⟨i, hi, rfl, hh⟩ := hrel
            by_cases hlt : i < M
            · obtain ⟨p, hp⟩ : ∃ p, (outs at' many k)[i]? = some p := ⟨_, List.getElem?_eq_getElem (by omega)⟩
              have hpt : p ∈ (outs at' many k).take M := List.mem_of_getElem? (i := i) (by rw [List.getElem?_take, if_pos hlt]; exact hp)
              obtain ⟨j, hj, hio, rfl⟩ := outs_mem (List.mem_of_getElem? hp)
              obtain ⟨g, cap', gb, e, hg, hgs, hgb, c0, c1, ok, hb⟩ := (hh.lat (G := G) (v := .slice la (outs at' many k).length lc) (ps := outs at' many k) (by simp)).cells hp
              simp only [Value.slice.injEq] at e
              obtain ⟨rfl, -, rfl⟩ := e
              have hnow := putLog_at (f := f) (g := 0) (by omega) HGOK.out hpt
              have RD := Lib.hid (read_ok hh.dat (j : Int) (by rw [St.reach, if_neg (by simp [quiet]), if_neg (by simp only [quiet]; omega)]))
              rw [show (quiet n k7 (putLog f at' many 0 ((outs at' many k).take M))).now (j : Int) = some (fullB ((j : Int) % 256) 7) from hnow, Option.getD_some, fullB_sec] at RD
              have c0' : wr.cell? ⟨g, i * 2, none⟩ = some (.int .i64 (j : Int)) := by rw [← Nat.zero_add (i * 2)]; exact c0
              have hH := hh
              have HH := Lib.hid hh
              have hsz : wr.heap.size = wr.heap.size := rfl
              have HGS := Lib.hid hgs
              clear hh hH hnow hb ok c1 hp hpt hsz hgs
              rename World => w8
              go_wp2_with (go_at_call 26; refine RD.out.mono ?_; rintro e w' ⟨rfl, rfl⟩)
              have hyb : (w8.alloc (.cells (sec (fullL ((j : Int) % 256) 7)) 88)).drew.heap[w8.heap.size]? = some (.cells (sec (fullL ((j : Int) % 256) 7)) 88 (0, 0)) := heap_alloc_last w8 _
              have hcj : (w8.alloc (.cells (sec (fullL ((j : Int) % 256) 7)) 88)).drew.cell? ⟨g, 0 + i * 2, none⟩ = some (.int .i64 (j : Int)) := (World.cell?_alloc_lt w8 _ _ HGS.out).trans c0
              have H9 := Lib.hid (HH.out.alloc' (.cells (sec (fullL ((j : Int) % 256) 7)) 88)).drew
              clear RD HH c0 c0'
              refine wp_region_flowR Lat [0, 0, 0, 0, 1, 0, 0, 0, 0, 1, 0, 2, 1, 0, 0] (by kernel_rfl) (by kernel_rfl) Lat.refl Lat.trans ?_
              generalize (w8.alloc (.cells (sec (fullL ((j : Int) % 256) 7)) 88)).drew = w9 at *
              refine fr0 rfl (fun _ => rfl) ?_
              simp only [Act.put, List.setIfInBounds_toArray, List.set_cons_succ, List.set_cons_zero]
              refine fr0 (u := .bool false) rfl (fun w => (run_neq36 rfl rfl rfl w).trans rfl) ?_
              simp only [Act.put, List.setIfInBounds_toArray, List.set_cons_succ, List.set_cons_zero]
              refine fr0 (u := .bool false) rfl (fun _ => rfl) ?_
              simp only [Act.put, List.setIfInBounds_toArray, List.set_cons_succ, List.set_cons_zero]
              refine fr0 (by kernel_rfl) (fun _ => rfl) ?_
              simp only [Act.put, List.setIfInBounds_toArray, List.set_cons_succ, List.set_cons_zero]
              refine fr1 (u := .string (strOf (fullL ((j : Int) % 256) 7))) (by kernel_rfl) (fun x hx => run_str (fullL_len _ _) rfl rfl (hx.at hyb)) ?_
              simp only [Act.put, List.setIfInBounds_toArray, List.set_cons_succ, List.set_cons_zero]
              refine fr0 (by kernel_rfl) (fun _ => rfl) ?_
              simp only [Act.put, List.setIfInBounds_toArray, List.set_cons_succ, List.set_cons_zero]
              refine fr0 (by kernel_rfl) (fun _ => rfl) ?_
              simp only [Act.put, List.setIfInBounds_toArray, List.set_cons_succ, List.set_cons_zero]
              refine fr0 (u := .pointer (some ⟨g, 0 + i * 2, none⟩)) (by kernel_rfl) (run_index32 (n := M) (by omega) rfl rfl rfl) ?_
              simp only [Act.put, List.setIfInBounds_toArray, List.set_cons_succ, List.set_cons_zero]
              refine fr0 (u := .pointer (some ⟨g, 0 + i * 2, none⟩)) (by kernel_rfl) (run_field54m rfl rfl) ?_
              simp only [Act.put, List.setIfInBounds_toArray, List.set_cons_succ, List.set_cons_zero]
              refine fr1 (u := .int .i64 (j : Int)) (by kernel_rfl) (fun x hx => run_load1 rfl rfl (hx.cell hcj) isAgg3) ?_
              simp only [Act.put, List.setIfInBounds_toArray, List.set_cons_succ, List.set_cons_zero]
              refine fr0 (u := .int .u8 ((j : Int) % 256)) (by kernel_rfl) (run_conv35 rfl rfl) ?_
              simp only [Act.put, List.setIfInBounds_toArray, List.set_cons_succ, List.set_cons_zero]
              refine fr2 (u := .slice (some ⟨w9.heap.size, 0, none⟩) 64 64) (w' := w9.alloc (.cells (fullB ((j : Int) % 256) 7) 5)) (by kernel_rfl) (Lat.alloc _ _) (does_full rfl rfl rfl) ?_
              have hz := heap_alloc_last w9 (.cells (fullB ((j : Int) % 256) 7) 5)
              rw [fullB_sec] at hz ⊢
              simp only [Act.put, List.setIfInBounds_toArray, List.set_cons_succ, List.set_cons_zero]
              refine fr1 (u := .string (strOf (fullL ((j : Int) % 256) 7))) (by kernel_rfl) (fun x hx => run_str (fullL_len _ _) rfl rfl (hx.at hz)) ?_
              simp only [Act.put, List.setIfInBounds_toArray, List.set_cons_succ, List.set_cons_zero]
              refine fr0 (u := .bool false) (by kernel_rfl) (run_neqS rfl rfl rfl) ?_
              simp only [Act.put, List.setIfInBounds_toArray, List.set_cons_succ, List.set_cons_zero]
              refine fr0 (u := .bool false) rfl (fun _ => rfl) ?_
              simp only [Act.put, List.setIfInBounds_toArray, List.set_cons_succ, List.set_cons_zero]
              refine frnil ?_
              show Exit.then _ _ _ _ _
              have H10 := Lib.hid (H9.out.alloc' (.cells (sec (fullL ((j : Int) % 256) 7)) 5))
              clear hyb hcj hz H9
              go_wp2
              go_roundw
              case rel => exact ⟨i + 1, by omega, by go_num, H10.out⟩
              case measure => simp [intOf]; omega
            · have hiM : i = M := by omega
              have GS := Lib.hid (groups_any (hh.walAt (wb := wb) (b := b) (a := at') (s := many) (g := 0 + 1) (by simp)))
              have O := Lib.hid hh.only
              subst hiM
              clear hh
              go_wp2_with (go_at_call 21; refine GS.out.mono ?_; rintro e w' ⟨rfl, rfl⟩)
              go_ret
              exact ⟨rfl, O.out⟩
        · have hlg : roomF many < ((outs at' many k).length : Int) := by omega
          have hD := hh.swap.swap2
          have hl := hD.lat (G := G) (v := .slice la (outs at' many k).length lc) (ps := outs at' many k) (by simp)
          have hap : ∀ x ∈ F4, x ∉ G := fun x hx => hh.swap.apart2 x hx
          have PU := hl.puts hap (by omega)
          have CN := Lib.hid (has_commit_no hD (PU.raws (fun p hp => by obtain ⟨j, hj, _, rfl⟩ := outs_mem hp; simp only [outP]; omega)) ha (by omega) (by omega) (by omega) (fun hg => by have := hg.1; simp only [rawsOf, List.length_map] at this; omega))
          have hcl := hl.cap_le
          obtain ⟨p0, hp0⟩ : ∃ p, (outs at' many k)[0]? = some p := ⟨_, List.getElem?_eq_getElem (by omega)⟩
          obtain ⟨g0, cap0, gb0, e0, -⟩ := hl.cells hp0
          simp only [Value.slice.injEq] at e0
          obtain ⟨rfl, -, rfl⟩ := e0
          have KEEP := Lib.hid hap
          clear hh hD hl PU hap
          go_wp2_with fail
          refine CN.out.mono ?_
          rintro e w6b ⟨rfl, hD⟩
          have GS6 := Lib.hid (groups_any (hD.walAt (wb := wb) (b := b) (a := at') (s := many) (g := 0) (by simp)))
          have HD := Lib.hid hD
          clear CN hD
          obtain ⟨M, hMdef⟩ : ∃ M : Nat, roomF many = (M : Int) := ⟨(roomF many).toNat, by omega⟩
          have hMt : (roomF many).toNat = M := by omega
          go_wp2_with (go_at_call 21; refine GS6.out.mono ?_; rintro e w' ⟨rfl, rfl⟩)
          have hD := HD.out
          have hl := hD.lat (G := G) (v := .slice (some ⟨g0, 0, none⟩) (outs at' many k).length lc) (ps := outs at' many k) (by simp)
          have PU := hl.puts_take (m := M) (cap' := lc) KEEP.out (by omega) (by omega)
          have hM : M ≤ (outs at' many k).length := by omega
          have hC := has_commit (ps := (outs at' many k).take M) hD PU ha (by omega) (by omega) (by omega) (by omega) (outs_group (n := n) (by omega) (by rw [Nat.min_eq_left hM]; omega)) (by omega) (by omega)
          have hgok : GroupOk at' many n (rawsOf ((outs at' many k).take M)) := outs_group (n := n) (by omega) (by rw [Nat.min_eq_left hM]; omega)
          have HGOK := Lib.hid hgok
          have HC := Lib.hid hC
          clear hC hgok hD hl PU
          go_wp2_with fail
          refine HC.out.mono ?_
          rintro e w7 ⟨rfl, k7, F7, k70, k71, h7⟩
          have H7 := Lib.hid h7
          clear HC h7 k71 k70
          go_wp2
          go_loopw [24] (fun x wr => ∃ i : Nat, i ≤ M ∧ x = .int .i64 i ∧ Has w wr (DRes b F7 (quiet n k7 (putLog f at' many 0 ((outs at' many k).take M))) :: WRes wb b at' many (0 + 1) :: LRes G (.slice (some ⟨g0, 0, none⟩) (outs at' many k).length lc) (outs at' many k) :: [])) (fun x _ => M - (intOf x).toNat)
          case atStart => exact ⟨0, by omega, rfl, H7.out⟩
          case round =>
            obtain ⟨i, hi, rfl, hh⟩ := hrel
            by_cases hlt : i < M
            · obtain ⟨p, hp⟩ : ∃ p, (outs at' many k)[i]? = some p := ⟨_, List.getElem?_eq_getElem (by omega)⟩
              have hpt : p ∈ (outs at' many k).take M := List.mem_of_getElem? (i := i) (by rw [List.getElem?_take, if_pos hlt]; exact hp)
              obtain ⟨j, hj, hio, rfl⟩ := outs_mem (List.mem_of_getElem? hp)
              obtain ⟨g, cap', gb, e, hg, hgs, hgb, c0, c1, ok, hb⟩ := (hh.lat (G := G) (v := .slice (some ⟨g0, 0, none⟩) (outs at' many k).length lc) (ps := outs at' many k) (by simp)).cells hp
              cases e
              have hnow := putLog_at (f := f) (g := 0) (by omega) HGOK.out hpt
              have RD := Lib.hid (read_ok hh.dat (j : Int) (by rw [St.reach, if_neg (by simp [quiet]), if_neg (by simp only [quiet]; omega)]))
              rw [show (quiet n k7 (putLog f at' many 0 ((outs at' many k).take M))).now (j : Int) = some (fullB ((j : Int) % 256) 7) from hnow, Option.getD_some, fullB_sec] at RD
              have c0' : wr.cell? ⟨g0, i * 2, none⟩ = some (.int .i64 (j : Int)) := by rw [← Nat.zero_add (i * 2)]; exact c0
              have hH := hh
              have HH := Lib.hid hh
              have hsz : wr.heap.size = wr.heap.size := rfl
              have HGS := Lib.hid hgs
              clear hh hH hnow hb ok c1 hp hpt hsz hgs
              rename World => w8
              go_wp2_with (go_at_call 26; refine RD.out.mono ?_; rintro e w' ⟨rfl, rfl⟩)
              have hyb : (w8.alloc (.cells (sec (fullL ((j : Int) % 256) 7)) 88)).drew.heap[w8.heap.size]? = some (.cells (sec (fullL ((j : Int) % 256) 7)) 88 (0, 0)) := heap_alloc_last w8 _
              have hcj : (w8.alloc (.cells (sec (fullL ((j : Int) % 256) 7)) 88)).drew.cell? ⟨g0, 0 + i * 2, none⟩ = some (.int .i64 (j : Int)) := (World.cell?_alloc_lt w8 _ _ HGS.out).trans c0
              have H9 := Lib.hid (HH.out.alloc' (.cells (sec (fullL ((j : Int) % 256) 7)) 88)).drew
              clear RD HH c0 c0'
              refine wp_region_flowR Lat [0, 0, 0, 0, 1, 0, 0, 0, 0, 1, 0, 2, 1, 0, 0] (by kernel_rfl) (by kernel_rfl) Lat.refl Lat.trans ?_
              generalize (w8.alloc (.cells (sec (fullL ((j : Int) % 256) 7)) 88)).drew = w9 at *
              refine fr0 rfl (fun _ => rfl) ?_
              simp only [Act.put, List.setIfInBounds_toArray, List.set_cons_succ, List.set_cons_zero]
              refine fr0 (u := .bool false) rfl (fun w => (run_neq36 rfl rfl rfl w).trans rfl) ?_
              simp only [Act.put, List.setIfInBounds_toArray, List.set_cons_succ, List.set_cons_zero]
              refine fr0 (u := .bool false) rfl (fun _ => rfl) ?_
              simp only [Act.put, List.setIfInBounds_toArray, List.set_cons_succ, List.set_cons_zero]
              refine fr0 (by kernel_rfl) (fun _ => rfl) ?_
              simp only [Act.put, List.setIfInBounds_toArray, List.set_cons_succ, List.set_cons_zero]
              refine fr1 (u := .string (strOf (fullL ((j : Int) % 256) 7))) (by kernel_rfl) (fun x hx => run_str (fullL_len _ _) rfl rfl (hx.at hyb)) ?_
              simp only [Act.put, List.setIfInBounds_toArray, List.set_cons_succ, List.set_cons_zero]
              refine fr0 (by kernel_rfl) (fun _ => rfl) ?_
              simp only [Act.put, List.setIfInBounds_toArray, List.set_cons_succ, List.set_cons_zero]
              refine fr0 (by kernel_rfl) (fun _ => rfl) ?_
              simp only [Act.put, List.setIfInBounds_toArray, List.set_cons_succ, List.set_cons_zero]
              refine fr0 (u := .pointer (some ⟨g0, 0 + i * 2, none⟩)) (by kernel_rfl) (run_index32 (n := M) (by omega) rfl rfl rfl) ?_
              simp only [Act.put, List.setIfInBounds_toArray, List.set_cons_succ, List.set_cons_zero]
              refine fr0 (u := .pointer (some ⟨g0, 0 + i * 2, none⟩)) (by kernel_rfl) (run_field54m rfl rfl) ?_
              simp only [Act.put, List.setIfInBounds_toArray, List.set_cons_succ, List.set_cons_zero]
              refine fr1 (u := .int .i64 (j : Int)) (by kernel_rfl) (fun x hx => run_load1 rfl rfl (hx.cell hcj) isAgg3) ?_
              simp only [Act.put, List.setIfInBounds_toArray, List.set_cons_succ, List.set_cons_zero]
              refine fr0 (u := .int .u8 ((j : Int) % 256)) (by kernel_rfl) (run_conv35 rfl rfl) ?_
              simp only [Act.put, List.setIfInBounds_toArray, List.set_cons_succ, List.set_cons_zero]
              refine fr2 (u := .slice (some ⟨w9.heap.size, 0, none⟩) 64 64) (w' := w9.alloc (.cells (fullB ((j : Int) % 256) 7) 5)) (by kernel_rfl) (Lat.alloc _ _) (does_full rfl rfl rfl) ?_
              have hz := heap_alloc_last w9 (.cells (fullB ((j : Int) % 256) 7) 5)
              rw [fullB_sec] at hz ⊢
              simp only [Act.put, List.setIfInBounds_toArray, List.set_cons_succ, List.set_cons_zero]
              refine fr1 (u := .string (strOf (fullL ((j : Int) % 256) 7))) (by kernel_rfl) (fun x hx => run_str (fullL_len _ _) rfl rfl (hx.at hz)) ?_
              simp only [Act.put, List.setIfInBounds_toArray, List.set_cons_succ, List.set_cons_zero]
              refine fr0 (u := .bool false) (by kernel_rfl) (run_neqS rfl rfl rfl) ?_
              simp only [Act.put, List.setIfInBounds_toArray, List.set_cons_succ, List.set_cons_zero]
              refine fr0 (u := .bool false) rfl (fun _ => rfl) ?_
              simp only [Act.put, List.setIfInBounds_toArray, List.set_cons_succ, List.set_cons_zero]
              refine frnil ?_
              show Exit.then _ _ _ _ _
              have H10 := Lib.hid (H9.out.alloc' (.cells (sec (fullL ((j : Int) % 256) 7)) 5))
              clear hyb hcj hz H9
              go_wp2
              go_roundw
              case rel => exact ⟨i + 1, by omega, by go_num, H10.out⟩
              case measure => simp [intOf]; omega
            · have hiM : i = M := by omega
              have GS := Lib.hid (groups_any (hh.walAt (wb := wb) (b := b) (a := at') (s := many) (g := 0 + 1) (by simp)))
              have O := Lib.hid hh.only
              subst hiM
              clear hh
              go_wp2_with (go_at_call 21; refine GS.out.mono ?_; rintro e w' ⟨rfl, rfl⟩)
              go_ret
              exact ⟨rfl, O.out⟩


end Go.Proofs.Ytfkpehefofihmaa
