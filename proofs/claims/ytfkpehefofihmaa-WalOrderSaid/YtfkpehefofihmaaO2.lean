/- WalOrder, walked for more than 30 groups. -/
import Derived.Test.YtfkpehefofihmaaO0
set_option linter.unusedSimpArgs false
set_option linter.unusedVariables false
set_option maxRecDepth 8000
namespace Go.Proofs.Ytfkpehefofihmaa
open Go.RowKit

set_option maxHeartbeats 8000000 in
theorem order_1 (w : World) (ad : Option Addr) (len cap : Nat) (ra : Nat → Option Addr) (rl rc : Nat → Nat) (z : Nat → Nat → Int) (kv : Value) (keep : List Int) (hin : RowsIn w ad len ra rl rc z) (hkeep : ∀ F : List Nat, (∀ y ∈ F, w.heap.size ≤ y) → KeepAt w F kv keep) (hsz : 30 < len) :
    Calls Try.prog 5 #[.slice ad len cap, kv] w fun e w' => e = .returned (.bool true) ∧ Only [] w w' := by
  have SH := Lib.hid (shown_any w)
  have hsm := hin.small
  have HIN := Lib.hid hin
  have HK := Lib.hid hkeep
  have hbs := buildSlice32_0
  clear hin hkeep
  go_enter Try.func5, Try.ntmps5
  go_wp2_with fail
  refine SH.out.mono ?_
  rintro e w1 ⟨rfl, o1⟩
  have G := Lib.hid (ground_any ((Has.start w).later o1) 0 (by omega) (by omega))
  clear SH o1
  go_wp2_with fail
  refine G.out.mono ?_
  rintro e w2 ⟨b, F, wb, rfl, h⟩
  have hf0 : updF (fun _ => none) 0 (headA 0 40 0 0) 0 = some (headA 0 40 0 0) := by simp [updF]
  have hfx : ∀ t : Nat, updF (fun _ => none) 0 (headA 0 40 0 0) (40 + (t : Int)) = none := fun t => by rw [updF, if_neg (by omega)]
  generalize updF (fun _ => none) 0 (headA 0 40 0 0) = f at *
  have H := Lib.hid h.swap
  clear G h
  go_wp2_with (first | (refine wpL_build0 build58 rfl rfl ?_) | (refine wpL_alloc0 zero58 rfl rfl ?_) | (refine wpL_store0 info58 (zeros_size 60) (zeros_size 60) (zeros_one 60) rfl rfl rfl rfl ?_))
  have h00 : Has w (w2.alloc (.cells (zeros 60) 58)) (DRes b F (quiet 100 2 f) :: WRes wb b 0 40 ((0 : Nat) : Int) :: BRes w2.heap.size (.cells (zeros 60) 58) :: []) := ((H.out.alloc (.cells (zeros 60) 58)).pull (L1 := [_, _]) (L2 := [])).pull (L1 := [_, _]) (L2 := [])
  have h0 : OInv w (w2.alloc (.cells (zeros 60) 58)) b wb w2.heap.size 0 ⟨fun _ => 0, zeros 60, f, 2, F⟩ :=
    ⟨zeros_is 60, fun t ht => ⟨by simp, by simp, by simp [hfx t]⟩, hf0, by simp, by simp, h00⟩
  have H0 := Lib.hid h0
  clear h0 h00 hf0 hfx H
  go_loopw [9] (fun x wr => ∃ (i : Nat) (X : OSt), i ≤ 30 ∧ x = .int .i64 i ∧ OInv w wr b wb w2.heap.size i X) (fun x _ => 30 - (intOf x).toNat)
  case atStart => exact ⟨0, _, by omega, rfl, H0.out⟩
  case round =>
    rename World => wA
    obtain ⟨i, X, hi, rfl, hh⟩ := hrel
    by_cases hlt : i < 30
    · obtain ⟨g, off, rfl, hg, hc, hbi⟩ := HIN.out.each i (by omega)
      have hsmi := hbi.1
      have hi30 : i < 30 := by omega
      have st := IInv.start hh
      have HST := Lib.hid st
      have OLD := Lib.hid hh.old
      have HC := Lib.hid hc
      have HBI := Lib.hid hbi
      clear hh hc hbi st
      go_wp2_with (first | (refine wpL_build0 build59 rfl rfl ?_) | (refine wpL_alloc0 zero59 rfl rfl ?_) | (refine wpL_store0 info59 (nays_size 60) (nays_size 60) (nays_one 60) rfl rfl (by rw [World.size_alloc]; rfl) rfl ?_))
      by_cases hM : rl i ≤ 30
      · go_loopw [12, 10] (fun y c wr => ∃ (j : Nat) (xs : List Nat) (A B : Array Value) (G : List Nat), j ≤ (rl i) ∧ y = .int .i64 j ∧ IInv w wr b wb w2.heap.size (wA.heap.size + 1) i j X c xs A B G) (fun y _ _ => (rl i) - (intOf y).toNat)
        case atStart => exact ⟨0, [], _, _, _, by omega, rfl, HST.out⟩
        case round =>
          obtain ⟨j, xs, A, B, G, hj, rfl, hI⟩ := hrel
          have on := hI.has.only
          have hc1 : wr.cell? ⟨g, off + i, none⟩ = some (.slice (ra i) (rl i) (rc i)) := (World.cell?_of_block (on.block g hg (by simp))).trans HC.out
          by_cases hjl : j < (rl i)
          · obtain ⟨z0, z1, g2, o2, hra, hg2, hz⟩ := HBI.out.2 j (by omega)
            have hz1 : wr.cell? ⟨g2, o2 + j, none⟩ = some (.int .u8 (z i j)) := (World.cell?_of_block (on.block g2 hg2 (by simp))).trans hz
            rw [hra] at hc1
            obtain ⟨t, hzt, ht⟩ : ∃ t : Nat, z i j % 60 = (t : Int) ∧ t < 60 := ⟨(z i j % 60).toNat, by omega, by omega⟩
            have hm1 : ((i : Int) + 1) % 256 = (i : Int) + 1 := by omega
            have hm2 : (t : Int) % 256 = (t : Int) := by omega
            have bS : wr.heap[wA.heap.size + 1]? = some (.cells B 59 (0, 0)) := hI.has.blk (by simp)
            have bH : wr.heap[w2.heap.size]? = some (.cells A 58 (0, 0)) := hI.has.blk (by simp)
            have cS : wr.cell? ⟨wA.heap.size + 1, t, none⟩ = some (.bool (decide (t ∈ xs))) := by rw [cell_of_row _ _ _ _ _ _ bS]; exact hI.flag.cell t ht
            have cH : wr.cell? ⟨w2.heap.size, t, none⟩ = some (.int .u8 (if t ∈ xs then (i : Int) + 1 else X.H t)) := by rw [cell_of_row _ _ _ _ _ _ bH]; exact hI.row.cell t ht
            have fS : wr.frozen? ⟨wA.heap.size + 1, t, none⟩ = false := by simp [World.frozen?, bS]
            have fH : wr.frozen? ⟨w2.heap.size, t, none⟩ = false := by simp [World.frozen?, bH]
            have hne : wA.heap.size + 1 ≠ w2.heap.size := fun e => by rw [e, bH] at bS; simp at bS
            have HI := Lib.hid hI
            by_cases htx : t ∈ xs
            · rw [decide_eq_true htx] at cS
              clear hI bS bH hz on cH fS fH hra
              go_wp2
              go_roundw
              case rel => exact ⟨j + 1, xs, A, B, G, by omega, by go_num, HI.out.skip⟩
              case measure => simp [intOf]; omega
            · rw [decide_eq_false htx] at cS
              rw [if_neg htx] at cH
              obtain ⟨v3, w3, hrun, A3, B3, G3, h3⟩ := HI.out.add ht htx (by omega)
              have RUN := Lib.hid hrun
              have H3 := Lib.hid h3
              clear hI bS bH hz on hra hrun h3 HI
              go_wp2_with (first | (go_at_call 25; refine (full_any _ _ _).mono ?_; rintro e w' ⟨rfl, rfl⟩) | (refine wpL_value rfl (run_builtin_append rfl rfl rfl RUN.out) ?_))
              go_roundw
              case rel => exact ⟨j + 1, _, A3, B3, G3, by omega, by go_num, H3.out⟩
              case measure => simp [intOf]; omega
          · have hjM : j = (rl i) := by omega
            have hll := hI.len
            have hD := (hI.has.pull (L1 := [_, _, _, _]) (L2 := [])).pull (L1 := [_, _, _, _]) (L2 := [])
            have hap : ∀ x ∈ X.F, x ∉ G := fun x hx => hD.apartD (s := LRes G u10 (grp 40 ((i : Int) + 1) (fun t => (t : Int)) xs)) (by simp) x hx
            have hla := hI.has.lat (G := G) (v := u10) (ps := grp 40 ((i : Int) + 1) (fun t => (t : Int)) xs) (by simp)
            obtain ⟨la, lc, hlv⟩ := hla.slice
            subst hlv
            have hglen : (grp 40 ((i : Int) + 1) (fun t => (t : Int)) xs).length = xs.length := by simp [grp]
            have PU := hla.puts hap (by omega)
            have hok : GroupOk 0 40 100 (rawsOf (grp 40 ((i : Int) + 1) (fun t => (t : Int)) xs)) := grp_ok (m := 60) hI.nodup hI.lt (by omega) (by omega) (by omega) (by rw [room40]; omega)
            have CO := Lib.hid (has_commit hD PU (by omega) (by omega) (by omega) (by omega) (by omega) hok OLD.out.k0 (by have := OLD.out.k1; omega))
            have HI := Lib.hid hI
            have HLL := Lib.hid hll
            clear hI hD hap hla PU hok on hglen hll
            subst hjM
            go_wp2_with fail
            refine CO.out.mono ?_
            rintro e w4 ⟨rfl, k4, F4, k40, k41, h4⟩
            have GS := Lib.hid (groups_any (h4.walAt (wb := wb) (b := b) (a := 0) (s := 40) (g := (i : Int) + 1) (by simp)))
            have h5 := HI.out.done (by omega) (by omega) OLD.out k40 k41 h4
            have H5 := Lib.hid h5
            clear CO h4 h5 HI
            go_wp2_with (go_at_call 21; refine GS.out.mono ?_; rintro e w' ⟨rfl, rfl⟩)
            go_roundw
            case rel => exact ⟨i + 1, _, by omega, by go_num, H5.out⟩
            case measure => simp [intOf]; omega
      · go_loopw [12, 10] (fun y c wr => ∃ (j : Nat) (xs : List Nat) (A B : Array Value) (G : List Nat), j ≤ 30 ∧ y = .int .i64 j ∧ IInv w wr b wb w2.heap.size (wA.heap.size + 1) i j X c xs A B G) (fun y _ _ => 30 - (intOf y).toNat)
        case atStart => exact ⟨0, [], _, _, _, by omega, rfl, HST.out⟩
        case round =>
          obtain ⟨j, xs, A, B, G, hj, rfl, hI⟩ := hrel
          have on := hI.has.only
          have hc1 : wr.cell? ⟨g, off + i, none⟩ = some (.slice (ra i) (rl i) (rc i)) := (World.cell?_of_block (on.block g hg (by simp))).trans HC.out
          by_cases hjl : j < 30
          · obtain ⟨z0, z1, g2, o2, hra, hg2, hz⟩ := HBI.out.2 j (by omega)
            have hz1 : wr.cell? ⟨g2, o2 + j, none⟩ = some (.int .u8 (z i j)) := (World.cell?_of_block (on.block g2 hg2 (by simp))).trans hz
            rw [hra] at hc1
            obtain ⟨t, hzt, ht⟩ : ∃ t : Nat, z i j % 60 = (t : Int) ∧ t < 60 := ⟨(z i j % 60).toNat, by omega, by omega⟩
            have hm1 : ((i : Int) + 1) % 256 = (i : Int) + 1 := by omega
            have hm2 : (t : Int) % 256 = (t : Int) := by omega
            have bS : wr.heap[wA.heap.size + 1]? = some (.cells B 59 (0, 0)) := hI.has.blk (by simp)
            have bH : wr.heap[w2.heap.size]? = some (.cells A 58 (0, 0)) := hI.has.blk (by simp)
            have cS : wr.cell? ⟨wA.heap.size + 1, t, none⟩ = some (.bool (decide (t ∈ xs))) := by rw [cell_of_row _ _ _ _ _ _ bS]; exact hI.flag.cell t ht
            have cH : wr.cell? ⟨w2.heap.size, t, none⟩ = some (.int .u8 (if t ∈ xs then (i : Int) + 1 else X.H t)) := by rw [cell_of_row _ _ _ _ _ _ bH]; exact hI.row.cell t ht
            have fS : wr.frozen? ⟨wA.heap.size + 1, t, none⟩ = false := by simp [World.frozen?, bS]
            have fH : wr.frozen? ⟨w2.heap.size, t, none⟩ = false := by simp [World.frozen?, bH]
            have hne : wA.heap.size + 1 ≠ w2.heap.size := fun e => by rw [e, bH] at bS; simp at bS
            have HI := Lib.hid hI
            by_cases htx : t ∈ xs
            · rw [decide_eq_true htx] at cS
              clear hI bS bH hz on cH fS fH hra
              go_wp2
              go_roundw
              case rel => exact ⟨j + 1, xs, A, B, G, by omega, by go_num, HI.out.skip⟩
              case measure => simp [intOf]; omega
            · rw [decide_eq_false htx] at cS
              rw [if_neg htx] at cH
              obtain ⟨v3, w3, hrun, A3, B3, G3, h3⟩ := HI.out.add ht htx (by omega)
              have RUN := Lib.hid hrun
              have H3 := Lib.hid h3
              clear hI bS bH hz on hra hrun h3 HI
              go_wp2_with (first | (go_at_call 25; refine (full_any _ _ _).mono ?_; rintro e w' ⟨rfl, rfl⟩) | (refine wpL_value rfl (run_builtin_append rfl rfl rfl RUN.out) ?_))
              go_roundw
              case rel => exact ⟨j + 1, _, A3, B3, G3, by omega, by go_num, H3.out⟩
              case measure => simp [intOf]; omega
          · have hjM : j = 30 := by omega
            have hll := hI.len
            have hD := (hI.has.pull (L1 := [_, _, _, _]) (L2 := [])).pull (L1 := [_, _, _, _]) (L2 := [])
            have hap : ∀ x ∈ X.F, x ∉ G := fun x hx => hD.apartD (s := LRes G u10 (grp 40 ((i : Int) + 1) (fun t => (t : Int)) xs)) (by simp) x hx
            have hla := hI.has.lat (G := G) (v := u10) (ps := grp 40 ((i : Int) + 1) (fun t => (t : Int)) xs) (by simp)
            obtain ⟨la, lc, hlv⟩ := hla.slice
            subst hlv
            have hglen : (grp 40 ((i : Int) + 1) (fun t => (t : Int)) xs).length = xs.length := by simp [grp]
            have PU := hla.puts hap (by omega)
            have hok : GroupOk 0 40 100 (rawsOf (grp 40 ((i : Int) + 1) (fun t => (t : Int)) xs)) := grp_ok (m := 60) hI.nodup hI.lt (by omega) (by omega) (by omega) (by rw [room40]; omega)
            have CO := Lib.hid (has_commit hD PU (by omega) (by omega) (by omega) (by omega) (by omega) hok OLD.out.k0 (by have := OLD.out.k1; omega))
            have HI := Lib.hid hI
            have HLL := Lib.hid hll
            clear hI hD hap hla PU hok on hglen hll
            subst hjM
            go_wp2_with fail
            refine CO.out.mono ?_
            rintro e w4 ⟨rfl, k4, F4, k40, k41, h4⟩
            have GS := Lib.hid (groups_any (h4.walAt (wb := wb) (b := b) (a := 0) (s := 40) (g := (i : Int) + 1) (by simp)))
            have h5 := HI.out.done (by omega) (by omega) OLD.out k40 k41 h4
            have H5 := Lib.hid h5
            clear CO h4 h5 HI
            go_wp2_with (go_at_call 21; refine GS.out.mono ?_; rintro e w' ⟨rfl, rfl⟩)
            go_roundw
            case rel => exact ⟨i + 1, _, by omega, by go_num, H5.out⟩
            case measure => simp [intOf]; omega
    · have hiN : i = 30 := by omega
      have hD := hh.has
      have hkp : KeepAt wA X.F kv keep := (HK.out X.F (fun y hy => ((hD.each (DRes b X.F (quiet 100 X.k X.f)) (by simp)).2 y hy).1)).grow hD.only
      have BO := Lib.hid (has_boot hD hkp (by simp [quiet]))
      have HH := Lib.hid hh
      subst hiN
      clear hh hD hkp
      go_wp2_with fail
      refine BO.out.mono ?_
      rintro e w4 ⟨rfl, F4, h4⟩
      rw [booted_quiet0] at h4
      have OP := Lib.hid (has_open h4 rfl (a := 0) (s := 40) (g := ((30 : Nat) : Int)) (by omega) (by omega) (by simp [quiet]) (by omega) (by omega) (by rw [show (quiet 100 X.k X.f).now = X.f from rfl, HH.out.head, Option.getD_some]))
      clear BO h4
      go_wp2_with fail
      refine OP.out.mono ?_
      rintro e w5 ⟨wb5, rfl, h5⟩
      have GS := Lib.hid (groups_any (h5.walAt (wb := wb5) (b := b) (a := 0) (s := 40) (g := ((30 : Nat) : Int)) (by simp)))
      have H5 := Lib.hid (h5.pull (L1 := [_]) (L2 := [_, _]))
      clear OP h5
      go_wp2_with (go_at_call 21; refine GS.out.mono ?_; rintro e w' ⟨rfl, rfl⟩)
      have hmk := make64
      go_loopw [17] (fun x wr => ∃ t : Nat, t ≤ 60 ∧ x = .int .i64 t ∧ Has w wr (DRes b F4 (quiet 100 X.k X.f) :: WRes wb5 b 0 40 ((30 : Nat) : Int) :: WRes wb b 0 40 ((30 : Nat) : Int) :: BRes w2.heap.size (.cells X.A 58) :: [])) (fun x _ => 60 - (intOf x).toNat)
      case atStart => exact ⟨0, by omega, rfl, H5.out⟩
      case round =>
        obtain ⟨t, ht, rfl, hE⟩ := hrel
        by_cases htl : t < 60
        · obtain ⟨r1, r2, r3⟩ := HH.out.rel t htl
          have bH : wr.heap[w2.heap.size]? = some (.cells X.A 58 (0, 0)) := hE.blk (by simp)
          have cH : wr.cell? ⟨w2.heap.size, t, none⟩ = some (.int .u8 (X.H t)) := by rw [cell_of_row _ _ _ _ _ _ bH]; exact HH.out.row.cell t htl
          have hszH : w2.heap.size < wr.heap.size := (Array.getElem?_eq_some_iff.1 bH).1
          have RD := Lib.hid (read_ok hE.dat (40 + (t : Int)) (by rw [St.reach, if_neg (by simp [quiet]), if_neg (by simp only [quiet]; omega)]))
          rw [show (quiet 100 X.k X.f).now = X.f from rfl, r3] at RD
          have HE := Lib.hid hE
          have hm2 : (t : Int) % 256 = (t : Int) := by omega
          clear hE bH r3
          by_cases hz : X.H t = 0
          · rw [if_pos hz, Option.getD_none, sec_zero] at RD
            rw [hz] at cH
            clear hz
            have hY : ((wr.alloc (.cells (sec (List.replicate 64 0)) 88)).alloc (.cells Z 5)).heap[wr.heap.size]? = some (.cells (sec (List.replicate 64 0)) 88 (0, 0)) := by rw [Below.heap_alloc _ _ _ (by simp)]; exact heap_alloc_last wr _
            have hW : ((wr.alloc (.cells (sec (List.replicate 64 0)) 88)).alloc (.cells Z 5)).heap[wr.heap.size + 1]? = some (.cells (sec (List.replicate 64 0)) 5 (0, 0)) := by
              rw [← sec_zero]
              have := heap_alloc_last (wr.alloc (.cells Z 88)) (.cells Z 5)
              rw [World.size_alloc] at this
              exact this
            have HY := Lib.hid hY
            have HW := Lib.hid hW
            clear hY hW
            go_wp2_with (first | (go_at_call 26; refine RD.out.mono ?_; rintro e w' ⟨rfl, rfl⟩) | (refine wpL_valueW (by kernel_rfl) (run_str (l := List.replicate 64 0) (by simp) rfl rfl HY.out) ?_) | (refine wpL_valueW (by kernel_rfl) (run_str (l := List.replicate 64 0) (by simp) rfl rfl HW.out) ?_))
            go_roundw
            case rel => exact ⟨t + 1, by omega, by go_num, (HE.out.alloc' _).alloc' _⟩
            case measure => simp [intOf]; omega
          · rw [if_neg hz, Option.getD_some, fullB_sec] at RD
            have hpos : 0 < X.H t := by omega
            have hY : (((wr.alloc (.cells (sec (fullL (X.H t) (t : Int))) 88)).alloc (.cells Z 5)).alloc (.cells (fullB (X.H t) (t : Int)) 5)).heap[wr.heap.size]? = some (.cells (sec (fullL (X.H t) (t : Int))) 88 (0, 0)) := by rw [Below.heap_alloc _ _ _ (by simp; omega), Below.heap_alloc _ _ _ (by simp)]; exact heap_alloc_last wr _
            have hW : (((wr.alloc (.cells (sec (fullL (X.H t) (t : Int))) 88)).alloc (.cells Z 5)).alloc (.cells (fullB (X.H t) (t : Int)) 5)).heap[wr.heap.size + 1 + 1]? = some (.cells (sec (fullL (X.H t) (t : Int))) 5 (0, 0)) := by
              have := heap_alloc_last ((wr.alloc (.cells (sec (fullL (X.H t) (t : Int))) 88)).alloc (.cells Z 5)) (.cells (fullB (X.H t) (t : Int)) 5)
              simp only [World.size_alloc] at this
              rw [this, fullB_sec]
            have HY := Lib.hid hY
            have HW := Lib.hid hW
            clear hY hW hz
            go_wp2_with (first | (go_at_call 26; refine RD.out.mono ?_; rintro e w' ⟨rfl, rfl⟩) | (go_at_call 25; refine (full_any _ _ _).mono ?_; rintro e w' ⟨rfl, rfl⟩) | (refine wpL_valueW (by kernel_rfl) (run_str (fullL_len _ _) rfl rfl HY.out) ?_) | (refine wpL_valueW (by kernel_rfl) (run_str (fullL_len _ _) rfl rfl HW.out) ?_))
            go_roundw
            case rel => exact ⟨t + 1, by omega, by go_num, ((HE.out.alloc' _).alloc' _).alloc' _⟩
            case measure => simp [intOf]; omega
        · have hte : t = 60 := by omega
          subst hte
          have O := Lib.hid hE.only
          clear hE
          go_wp2
          go_ret
          exact ⟨rfl, O.out⟩

end Go.Proofs.Ytfkpehefofihmaa
