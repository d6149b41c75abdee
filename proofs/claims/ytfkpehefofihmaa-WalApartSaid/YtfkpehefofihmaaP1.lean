/- WalApart, walked. -/
import Derived.Test.YtfkpehefofihmaaP0
set_option linter.unusedSimpArgs false
set_option linter.unusedVariables false
set_option maxRecDepth 8000
namespace Go.Proofs.Ytfkpehefofihmaa
open Go.RowKit

set_option maxHeartbeats 8000000 in
theorem apart_any (w : World) (ad : Option Addr) (len cap : Nat) (ra : Nat → Option Addr) (rl rc : Nat → Nat) (z : Nat → Nat → Int) (hin : RowsIn w ad len ra rl rc z) :
    Calls Try.prog 6 #[.slice ad len cap] w fun e w' => e = .returned (.bool true) ∧ Only [] w w' := by
  have SH := Lib.hid (shown_any w)
  have hsm := hin.small
  have HIN := Lib.hid hin
  have hbs := buildSlice32_0
  clear hin
  go_enter Try.func6, Try.ntmps6
  go_wp2_with fail
  refine SH.out.mono ?_
  rintro e w1 ⟨rfl, o1⟩
  have NW := Lib.hid (has_new ((Has.start w).later o1) 120 (by omega) (by omega))
  clear SH o1
  go_wp2_with fail
  refine NW.out.mono ?_
  rintro e w2 ⟨b, F, rfl, h⟩
  have hq : St.new 120 = quiet 120 0 (fun _ => none) := rfl
  rw [hq] at h
  have h1 := (h.alloc (.cells #[.int .i64 0, .int .i64 40] 61)).alloc (.cells #[.pointer none, .pointer none] 62)
  have H := Lib.hid (h1.pull (L1 := [_, _]) (L2 := []))
  clear NW h hq h1
  go_wp2_with (first | (refine wpL_build0 build62 rfl rfl ?_) | (refine wpL_alloc0 zero61 rfl rfl ?_) | (refine wpL_alloc0 zero62 rfl rfl ?_) | (refine wpL_store0 info61 rfl rfl rfl rfl rfl rfl rfl ?_) | (refine wpL_store0 info62 rfl rfl rfl rfl rfl (by rw [World.size_alloc]; rfl) rfl ?_))
  go_loopw [8] (fun x wr => ∃ (j : Nat) (F : List Nat) (k : Int) (f : Int → Option (Array Value)) (Rs : List Res) (wa wb : Value), j ≤ 2 ∧ x = .int .i64 j ∧ Has w wr (DRes b F (quiet 120 k f) :: BRes (w2.heap.size + 1) (.cells #[wa, wb] 62) :: BRes w2.heap.size (.cells #[.int .i64 0, .int .i64 40] 61) :: Rs) ∧ 0 ≤ k ∧ k = 2 * j ∧
      (1 ≤ j → f 0 = some (headA 0 40 0 0)) ∧ (2 ≤ j → f 40 = some (headA 40 40 0 0)) ∧ ((j = 0 ∧ Rs = []) ∨ (j = 1 ∧ ∃ x0, wa = pv x0 ∧ Rs = [WRes x0 b 0 40 0]) ∨ (j = 2 ∧ ∃ x0 x1, wa = pv x0 ∧ wb = pv x1 ∧ Rs = [WRes x1 b 40 40 0, WRes x0 b 0 40 0]))) (fun x _ => 2 - (intOf x).toNat)
  case atStart => exact ⟨0, F, 0, fun _ => none, [], .pointer none, .pointer none, by omega, rfl, by simpa using H.out, by omega, by simp, by omega, by omega, .inl ⟨rfl, rfl⟩⟩
  case round =>
    obtain ⟨j, F1, k, f, Rs, wa, wb, hj, rfl, hh, hk0, hk, hf0, hf1, hcase⟩ := hrel
    clear H
    have bS : wr.heap[w2.heap.size + 1]? = some (.cells #[wa, wb] 62 (0, 0)) := hh.blk (by simp)
    have bP : wr.heap[w2.heap.size]? = some (.cells #[.int .i64 0, .int .i64 40] 61 (0, 0)) := hh.blk (by simp)
    rcases hcase with ⟨rfl, rfl⟩ | ⟨rfl, x0, rfl, rfl⟩ | ⟨rfl, x0, x1, rfl, rfl, rfl⟩
    · have cP : wr.cell? ⟨w2.heap.size, 0, none⟩ = some (.int .i64 0) := by rw [cell_of_row _ _ _ _ _ _ bP]; rfl
      have FO := Lib.hid (has_format hh (a := 0) (s := 40) (by omega) (by omega) (by omega) (by omega) (by omega))
      clear bS bP
      go_wp2_with fail
      refine FO.out.mono ?_
      rintro e w3 ⟨rfl, F3, h3⟩
      have bP : w3.heap[w2.heap.size]? = some (.cells #[.int .i64 0, .int .i64 40] 61 (0, 0)) := h3.blk (by simp)
      have cP : w3.cell? ⟨w2.heap.size, 0, none⟩ = some (.int .i64 0) := by rw [cell_of_row _ _ _ _ _ _ bP]; rfl
      have OP := Lib.hid (has_open (g := 0) h3 rfl (a := 0) (s := 40) (by omega) (by omega) (by simp only [quiet]; omega) (by omega) (by omega) (by simp [quiet, updF]))
      clear bP h3 FO
      go_wp2_with fail
      refine OP.out.mono ?_
      rintro e w4 ⟨wb4, rfl, h4⟩
      have bS : w4.heap[w2.heap.size + 1]? = some (.cells #[wa, wb] 62 (0, 0)) := h4.blk (by simp)
      have cS : w4.cell? ⟨w2.heap.size + 1, 0, none⟩ = some wa := by rw [cell_of_row _ _ _ _ _ _ bS]; rfl
      have fS : w4.frozen? ⟨w2.heap.size + 1, 0, none⟩ = false := by simp [World.frozen?, bS]
      have h5 := (h4.pull (L1 := [_, _]) (L2 := [_])).setb 0 (pv wb4)
      have h6 := h5.pull (L1 := [_, _, _]) (L2 := [])
      have h7 := h6.pull (L1 := [_]) (L2 := [_, _])
      have h8 := h7.pull (L1 := [_, _, _]) (L2 := [])
      have H8 := Lib.hid h8
      clear bS h4 OP h5 h6 h7 h8
      go_wp2
      go_roundw
      case rel => exact ⟨1, F3, k + 1 + 1, updF f 0 (headA 0 40 0 0), _, pv wb4, wb, by omega, by go_num, H8.out, by omega, by omega, by simp [updF], by omega, .inr (.inl ⟨rfl, wb4, rfl, rfl⟩)⟩
      case measure => simp [intOf]
    · have cP : wr.cell? ⟨w2.heap.size, 1, none⟩ = some (.int .i64 40) := by rw [cell_of_row _ _ _ _ _ _ bP]; rfl
      have FO := Lib.hid (has_format hh (a := 40) (s := 40) (by omega) (by omega) (by omega) (by omega) (by omega))
      clear bS bP
      go_wp2_with fail
      refine FO.out.mono ?_
      rintro e w3 ⟨rfl, F3, h3⟩
      have bP : w3.heap[w2.heap.size]? = some (.cells #[.int .i64 0, .int .i64 40] 61 (0, 0)) := h3.blk (by simp)
      have cP : w3.cell? ⟨w2.heap.size, 1, none⟩ = some (.int .i64 40) := by rw [cell_of_row _ _ _ _ _ _ bP]; rfl
      have OP := Lib.hid (has_open (g := 0) h3 rfl (a := 40) (s := 40) (by omega) (by omega) (by simp only [quiet]; omega) (by omega) (by omega) (by simp [quiet, updF]))
      clear bP h3 FO
      go_wp2_with fail
      refine OP.out.mono ?_
      rintro e w4 ⟨wb4, rfl, h4⟩
      have bS : w4.heap[w2.heap.size + 1]? = some (.cells #[pv x0, wb] 62 (0, 0)) := h4.blk (by simp)
      have cS : w4.cell? ⟨w2.heap.size + 1, 1, none⟩ = some wb := by rw [cell_of_row _ _ _ _ _ _ bS]; rfl
      have fS : w4.frozen? ⟨w2.heap.size + 1, 1, none⟩ = false := by simp [World.frozen?, bS]
      have h5 := (h4.pull (L1 := [_, _]) (L2 := [_, _])).setb 1 (pv wb4)
      have h6 := h5.pull (L1 := [_, _, _]) (L2 := [_])
      have h7 := h6.pull (L1 := [_]) (L2 := [_, _, _])
      have h8 := h7.pull (L1 := [_, _, _]) (L2 := [_])
      have H8 := Lib.hid h8
      clear bS h4 OP h5 h6 h7 h8
      go_wp2
      go_roundw
      case rel => exact ⟨2, F3, k + 1 + 1, updF f 40 (headA 40 40 0 0), _, pv x0, pv wb4, by omega, by go_num, H8.out, by omega, by omega, (fun _ => by rw [updF, if_neg (by omega)]; exact hf0 (by omega)), by simp [updF], .inr (.inr ⟨rfl, x0, wb4, rfl, rfl, rfl⟩)⟩
      case measure => simp [intOf]
    · have h1 := (hh.alloc (.cells #[.int .i64 0, .int .i64 0] 61)).alloc (.cells (zeros 40) 63)
      rw [World.size_alloc] at h1
      -- has, n, disk, ws, places, log 1, log 0
      have h2 := h1.pull (L1 := [_]) (L2 := [_, _, _, _, _])
      have h3 := h2.pull (L1 := [_, _, _]) (L2 := [_, _, _])
      have h4 := h3.pull (L1 := [_, _, _, _]) (L2 := [_, _])
      have h5 := h4.pull (L1 := [_, _, _]) (L2 := [_, _, _])
      have h6 := h5.pull (L1 := [_, _, _, _, _]) (L2 := [_])
      have h7 := h6.pull (L1 := [_, _, _, _, _, _]) (L2 := [])
      have h8 := h7.pull (L1 := [_, _, _, _, _, _]) (L2 := [])
      have h0 : PInv w ((wr.alloc (.cells #[.int .i64 0, .int .i64 0] 61)).alloc (.cells (zeros 40) 63)) b (wr.heap.size + 1) w2.heap.size (w2.heap.size + 1) wr.heap.size 0 ⟨fun _ => 0, zeros 40, f, k, F1, 0, 0, x0, x1⟩ :=
        ⟨zeros_is 40, ⟨fun t ht => ⟨by simp, by simp, by simp⟩, hf0 (by omega), hf1 (by omega), hk0, by simp only; omega, by simp, by simp⟩, h8⟩
      have H0 := Lib.hid h0
      clear h0 h1 h2 h3 h4 h5 h6 h7 h8 hh bS bP
      rename World => wB
      go_wp2_with (first | (refine wpL_build0 build61 rfl rfl ?_) | (refine wpL_build0 build63 rfl rfl ?_) | (refine wpL_alloc0 zero61 rfl rfl ?_) | (refine wpL_alloc0 zero63 rfl rfl ?_) | (refine wpL_store0 info61 rfl rfl rfl rfl rfl rfl rfl ?_) | (refine wpL_store0 info63 (zeros_size 40) (zeros_size 40) (zeros_one 40) rfl rfl (by rw [World.size_alloc]; rfl) rfl ?_))
      go_loopw [14] (fun x wr => ∃ (i : Nat) (X : PSt), i ≤ min len 30 ∧ x = .int .i64 i ∧ PInv w wr b (wB.heap.size + 1) w2.heap.size (w2.heap.size + 1) wB.heap.size i X) (fun x _ => min len 30 - (intOf x).toNat)
      case atStart => exact ⟨0, _, by omega, rfl, H0.out⟩
      case round =>
        rename World => wA
        obtain ⟨i, X, hi, rfl, hh⟩ := hrel
        by_cases hlt : i < min len 30
        · obtain ⟨g, off, rfl, hg, hc, hbi⟩ := HIN.out.each i (by omega)
          have hsmi := hbi.1
          have hi30 : i < 30 := by omega
          have hil : i < len := by omega
          rcases (by omega : (i : Int) % 2 = 0 ∨ (i : Int) % 2 = 1) with hp | hp
          · as_aux_lemma =>
            -- disk, log 0, log 1, has, places, ws, n
            have hs := hh.has.pull (L1 := [_, _, _]) (L2 := [_, _, _])
            have st := JInv.start (i := i) (H := X.H) 80 0 hh.row hs
            have HST := Lib.hid st
            have OLD := Lib.hid hh.old
            have HC := Lib.hid hc
            have HBI := Lib.hid hbi
            clear hh hc hbi st hs
            go_wp2_with (first | (refine wpL_build0 build64 rfl rfl ?_) | (refine wpL_alloc0 zero64 rfl rfl ?_) | (refine wpL_store0 info64 (nays_size 20) (nays_size 20) (nays_one 20) rfl rfl (by rw [World.size_alloc]; rfl) rfl ?_))
            go_loopw [18, 16] (fun y c wr => ∃ (j : Nat) (xs : List Nat) (A B : Array Value) (G : List Nat), j ≤ min (rl i) 20 ∧ y = .int .i64 j ∧ JInv w wr (wB.heap.size + 1) (wA.heap.size + 1) i j 80 0 X.H c xs A B G (DRes b X.F (quiet 120 X.k X.f) :: WRes X.wb0 b 0 40 X.g0 :: WRes X.wb1 b 40 40 X.g1 :: BRes w2.heap.size (.cells #[.int .i64 0, .int .i64 40] 61) :: BRes (w2.heap.size + 1) (.cells #[pv X.wb0, pv X.wb1] 62) :: BRes wB.heap.size (.cells #[.int .i64 X.g0, .int .i64 X.g1] 61) :: [])) (fun y _ _ => min (rl i) 20 - (intOf y).toNat)
            case atStart => exact ⟨0, [], _, _, _, by omega, rfl, HST.out⟩
            case round =>
              obtain ⟨j, xs, A, B, G, hj, rfl, hI⟩ := hrel
              have on := hI.has.only
              have hc1 : wr.cell? ⟨g, off + i, none⟩ = some (.slice (ra i) (rl i) (rc i)) := (World.cell?_of_block (on.block g hg (by simp))).trans HC.out
              by_cases hjl : j < min (rl i) 20
              · have hj1 : j < rl i := by omega
                have hj2 : j < 20 := by omega
                obtain ⟨z0, z1, g2, o2, hra, hg2, hz⟩ := HBI.out.2 j (by omega)
                have hz1 : wr.cell? ⟨g2, o2 + j, none⟩ = some (.int .u8 (z i j)) := (World.cell?_of_block (on.block g2 hg2 (by simp))).trans hz
                rw [hra] at hc1
                obtain ⟨t, hzt, ht⟩ : ∃ t : Nat, z i j % 20 = (t : Int) ∧ t < 20 := ⟨(z i j % 20).toNat, by omega, by omega⟩
                have hm1 : ((i : Int) + 1) % 256 = (i : Int) + 1 := by omega
                have bS : wr.heap[wA.heap.size + 1]? = some (.cells B 64 (0, 0)) := hI.has.blk (by simp)
                have bH : wr.heap[wB.heap.size + 1]? = some (.cells A 63 (0, 0)) := hI.has.blk (by simp)
                have cS : wr.cell? ⟨wA.heap.size + 1, t, none⟩ = some (.bool (decide (t ∈ xs))) := by rw [cell_of_row _ _ _ _ _ _ bS]; exact hI.flag.cell t ht
                have cH : wr.cell? ⟨wB.heap.size + 1, t, none⟩ = some (.int .u8 (if 0 ≤ t ∧ t - 0 ∈ xs then (i : Int) + 1 else X.H t)) := by rw [cell_of_row _ _ _ _ _ _ bH]; exact hI.row.cell t (by omega)
                have fS : wr.frozen? ⟨wA.heap.size + 1, t, none⟩ = false := by simp [World.frozen?, bS]
                have fH : wr.frozen? ⟨wB.heap.size + 1, t, none⟩ = false := by simp [World.frozen?, bH]
                have hne : wA.heap.size + 1 ≠ wB.heap.size + 1 := fun e => by rw [e, bH] at bS; simp at bS
                generalize (if 0 ≤ t ∧ t - 0 ∈ xs then (i : Int) + 1 else X.H t) = hv at cH
                have HI := Lib.hid hI
                by_cases htx : t ∈ xs
                · rw [decide_eq_true htx] at cS
                  clear hI bS bH hz on cH fS fH hra
                  go_wp2
                  go_roundw
                  case rel => exact ⟨j + 1, xs, A, B, G, by omega, by go_num, HI.out.skip⟩
                  case measure => simp [intOf]; omega
                · rw [decide_eq_false htx] at cS
                  obtain ⟨v3, w3, hrun, A3, B3, G3, h3⟩ := HI.out.add (q := t) (z := 80 + (t : Int)) ht htx (by omega) (by omega) (by omega) (by omega)
                  have RUN := Lib.hid hrun
                  have H3 := Lib.hid h3
                  clear hI bS bH hz on hra hrun h3 HI
                  go_wp2_with (first | (go_at_call 25; refine (full_any _ _ _).mono ?_; rintro e w' ⟨rfl, rfl⟩) | (refine wpL_value rfl (run_builtin_append rfl rfl rfl RUN.out) ?_))
                  go_roundw
                  case rel => exact ⟨j + 1, _, A3, B3, G3, by omega, by go_num, H3.out⟩
                  case measure => simp [intOf]; omega
              · have hjM : j = min (rl i) 20 := by omega
                have hll := hI.len
                -- list, flags, has, disk, me, other, places, ws, n
                have hD := (hI.has.pull (L1 := [_, _, _, _]) (L2 := [_, _, _, _])).pull (L1 := [_, _, _, _]) (L2 := [_, _, _, _])
                have hap : ∀ x ∈ X.F, x ∉ G := fun x hx => hD.apartD (s := LRes G u16 (grp 80 ((i : Int) + 1) (fun _ => 3) xs)) (by simp) x hx
                have hla := hI.has.lat (G := G) (v := u16) (ps := grp 80 ((i : Int) + 1) (fun _ => 3) xs) (by simp)
                obtain ⟨la, lc, hlv⟩ := hla.slice
                subst hlv
                have hglen : (grp 80 ((i : Int) + 1) (fun _ => 3) xs).length = xs.length := by simp [grp]
                have PU := hla.puts hap (by omega)
                have hok : GroupOk 0 40 120 (rawsOf (grp 80 ((i : Int) + 1) (fun _ => 3) xs)) := grp_ok (m := 20) hI.nodup hI.lt (by omega) (by omega) (by omega) (by rw [room40]; omega)
                have gb0 := OLD.out.b0
                have gb1 := OLD.out.b1
                have CO := Lib.hid (has_commit hD PU (by omega) (by omega) (by omega) (by omega) (by omega) hok OLD.out.k0 (by have := OLD.out.k1; omega))
                have bS : wr.heap[w2.heap.size + 1]? = some (.cells #[pv X.wb0, pv X.wb1] 62 (0, 0)) := hI.has.blk (by simp)
                have cS : wr.cell? ⟨w2.heap.size + 1, 0, none⟩ = some (pv X.wb0) := by rw [cell_of_row _ _ _ _ _ _ bS]; rfl
                have HI := Lib.hid hI
                have HLL := Lib.hid hll
                clear hI hD hap hla PU hok on hglen hll bS
                by_cases hM : rl i ≤ 20
                · have hjr : j = rl i := by omega
                  clear hjM hjl hj
                  subst hjr
                  go_wp2_with fail
                  refine CO.out.mono ?_
                  rintro e w4 ⟨rfl, k4, F4, k40, k41, h4⟩
                  -- disk, me, list, flags, has, other, places, ws, n
                  have hN := h4.pull (L1 := [_, _, _, _, _, _, _, _]) (L2 := [])
                  have hneN : wB.heap.size ≠ w2.heap.size := fun e => hN.apartD (s := BRes w2.heap.size (.cells #[.int .i64 0, .int .i64 40] 61)) (by simp) wB.heap.size (by simp [BRes]) (by simp [BRes, e])
                  have bN : w4.heap[wB.heap.size]? = some (.cells #[.int .i64 X.g0, .int .i64 X.g1] 61 (0, 0)) := hN.blk (by simp)
                  have cN : w4.cell? ⟨wB.heap.size, 0, none⟩ = some (.int .i64 X.g0) := by rw [cell_of_row _ _ _ _ _ _ bN]; rfl
                  have fN : w4.frozen? ⟨wB.heap.size, 0, none⟩ = false := by simp [World.frozen?, bN]
                  have bP : w4.heap[w2.heap.size]? = some (.cells #[.int .i64 0, .int .i64 40] 61 (0, 0)) := hN.blk (by simp)
                  have cP : w4.cell? ⟨w2.heap.size, 1, none⟩ = some (.int .i64 40) := by rw [cell_of_row _ _ _ _ _ _ bP]; rfl
                  have hN5 := hN.setb 0 (.int .i64 (X.g0 + 1))
                  have hN6 := hN5.pull (L1 := [_]) (L2 := [_, _, _, _, _, _, _])
                  have nod := HI.out.nodup
                  have hlt20 := HI.out.lt
                  have OLD' := fun A F wb => OLD.out.done0 nod hlt20 (Nat.le_trans HLL.out (by omega)) hi30 k40 k41 A F wb
                  have OP := Lib.hid (has_open hN6 rfl (a := 40) (s := 40) (g := X.g1) (by omega) (by omega) (by simp only [quiet]; omega) (by omega) (by omega) (by rw [show (quiet 120 k4 (putLog X.f 0 40 X.g0 (grp 80 ((i : Int) + 1) (fun _ => 3) xs))).now 40 = some (headA 40 40 X.g1 0) from (OLD' #[] [] 0).head1, Option.getD_some]))
                  have OLD2 := Lib.hid OLD'
                  clear CO h4 hN bN bP hN5 hN6 OLD' nod hlt20
                  go_wp2_with fail
                  refine OP.out.mono ?_
                  rintro e w6 ⟨wb6, rfl, h6⟩
                  -- new, disk, n, me, list, flags, has, other, places, ws
                  have hD6 := h6.drew
                  have g1 := hD6.walAt (wb := wb6) (b := b) (a := 40) (s := 40) (g := X.g1) (by simp)
                  have g2 := hD6.walAt (wb := X.wb0) (b := b) (a := 0) (s := 40) (g := X.g0 + 1) (by simp)
                  have bN : w6.drew.heap[wB.heap.size]? = some (.cells (#[.int .i64 X.g0, .int .i64 X.g1].setIfInBounds 0 (.int .i64 (X.g0 + 1))) 61 (0, 0)) := hD6.blk (by simp)
                  have cN0 : w6.drew.cell? ⟨wB.heap.size, 1, none⟩ = some (.int .i64 X.g1) := by rw [cell_of_row _ _ _ _ _ _ bN]; rfl
                  have cN1 : w6.drew.cell? ⟨wB.heap.size, 0, none⟩ = some (.int .i64 (X.g0 + 1)) := by rw [cell_of_row _ _ _ _ _ _ bN]; rfl
                  have bS : w6.drew.heap[(w2.heap.size + 1)]? = some (.cells #[pv X.wb0, pv X.wb1] 62 (0, 0)) := hD6.blk (by simp)
                  have cS : w6.drew.cell? ⟨(w2.heap.size + 1), 0, none⟩ = some (pv X.wb0) := by rw [cell_of_row _ _ _ _ _ _ bS]; rfl
                  have cSo : w6.drew.cell? ⟨(w2.heap.size + 1), 1, none⟩ = some (pv X.wb1) := by rw [cell_of_row _ _ _ _ _ _ bS]; rfl
                  have fS : w6.drew.frozen? ⟨(w2.heap.size + 1), 1, none⟩ = false := by simp [World.frozen?, bS]
                  have h7 := (hD6.pull (L1 := [_, _, _, _, _, _, _, _, _]) (L2 := [])).setb 1 (pv wb6)
                  -- ws, new, disk, n, me, list, flags, has, other, places
                  have h8 := h7.pull (L1 := [_, _, _]) (L2 := [_, _, _, _, _, _])
                  -- n, ws, new, disk, me, list, flags, has, other, places
                  have h9 := h8.swap
                  -- ws, n, new, disk, me, list, flags, has, other, places
                  have h10 := h9.pull (L1 := [_, _, _, _, _, _, _, _, _]) (L2 := [])
                  -- places, ws, n, new, disk, me, list, flags, has, other
                  have h11 := h10.pull (L1 := [_, _, _, _, _, _, _, _]) (L2 := [_])
                  -- has, places, ws, n, new, disk, me, list, flags, other
                  have h12 := h11.pull (L1 := [_, _, _, _]) (L2 := [_, _, _, _, _])
                  have h13 := h12.pull (L1 := [_, _, _, _, _, _]) (L2 := [_, _, _])
                  have h14 := h13.pull (L1 := [_, _, _, _, _, _]) (L2 := [_, _, _])
                  -- disk, log 0, log 1, has, places, ws, n, list, flags, other
                  have h15 := h14.firsts (L := [_, _, _, _, _, _, _]) (L2 := [_, _, _])
                  have fin : PInv w (w6.drew.setCell ⟨(w2.heap.size + 1), 1, none⟩ (pv wb6)) b (wB.heap.size + 1) w2.heap.size (w2.heap.size + 1) wB.heap.size (i + 1) ⟨fun t => if 0 ≤ t ∧ t - 0 ∈ xs then (i : Int) + 1 else X.H t, A, putLog X.f 0 40 X.g0 (grp 80 ((i : Int) + 1) (fun _ => 3) xs), k4, F4, X.g0 + 1, X.g1, X.wb0, wb6⟩ := ⟨HI.out.row, OLD2.out _ _ _, h15⟩
                  have FIN := Lib.hid fin
                  have G1 := Lib.hid g1
                  have G2 := Lib.hid g2
                  clear OP h6 hD6 bN bS h7 h8 h9 h10 h11 h12 h13 h14 h15 fin g1 g2 HI HLL OLD2 OLD HST cN fN cP
                  go_wp2_with fail
                  refine wp_region_flowR Lat [0, 0, 0, 0, 0, 0, 0, 0, 0, 0, 0, 0, 1, 0, 0, 0, 1, 0, 0, 0, 0, 0, 1, 1, 0, 0, 1, 0, 0] (by kernel_rfl) (by kernel_rfl) Lat.refl Lat.trans ?_
                  refine fr0 rfl (fun _ => rfl) ?_
                  simp only [Act.put, List.setIfInBounds_toArray, List.set_cons_succ, List.set_cons_zero]
                  refine fr0 (u := .bool false) rfl (fun w => (run_neq36 rfl rfl rfl w).trans rfl) ?_
                  simp only [Act.put, List.setIfInBounds_toArray, List.set_cons_succ, List.set_cons_zero]
                  refine fr0 rfl (fun _ => rfl) ?_
                  simp only [Act.put, List.setIfInBounds_toArray, List.set_cons_succ, List.set_cons_zero]
                  refine fr0 (by kernel_rfl) (fun _ => rfl) ?_
                  simp only [Act.put, List.setIfInBounds_toArray, List.set_cons_succ, List.set_cons_zero]
                  refine fr0 (u := .bool false) (by kernel_rfl) (run_eqlnil26 rfl rfl) ?_
                  simp only [Act.put, List.setIfInBounds_toArray, List.set_cons_succ, List.set_cons_zero]
                  refine fr0 (u := .bool false) rfl (fun _ => rfl) ?_
                  simp only [Act.put, List.setIfInBounds_toArray, List.set_cons_succ, List.set_cons_zero]
                  refine fr0 rfl (fun _ => rfl) ?_
                  simp only [Act.put, List.setIfInBounds_toArray, List.set_cons_succ, List.set_cons_zero]
                  refine fr0 (by kernel_rfl) (fun _ => rfl) ?_
                  simp only [Act.put, List.setIfInBounds_toArray, List.set_cons_succ, List.set_cons_zero]
                  refine fr0 (u := .bool false) (by kernel_rfl) (fun w => (run_neq36 rfl rfl rfl w).trans rfl) ?_
                  simp only [Act.put, List.setIfInBounds_toArray, List.set_cons_succ, List.set_cons_zero]
                  refine fr0 (u := .bool false) rfl (fun _ => rfl) ?_
                  simp only [Act.put, List.setIfInBounds_toArray, List.set_cons_succ, List.set_cons_zero]
                  refine fr0 rfl (fun _ => rfl) ?_
                  simp only [Act.put, List.setIfInBounds_toArray, List.set_cons_succ, List.set_cons_zero]
                  refine fr0 (by kernel_rfl) (fun _ => rfl) ?_
                  simp only [Act.put, List.setIfInBounds_toArray, List.set_cons_succ, List.set_cons_zero]
                  refine fr1c (u := .int .i64 X.g1) (by kernel_rfl) (fun x hx => does_groups (G1.out.lat hx) rfl rfl (groups_any (G1.out.lat hx))) ?_
                  simp only [Act.put, List.setIfInBounds_toArray, List.set_cons_succ, List.set_cons_zero]
                  refine fr0 (by kernel_rfl) (fun _ => rfl) ?_
                  simp only [Act.put, List.setIfInBounds_toArray, List.set_cons_succ, List.set_cons_zero]
                  refine fr0 (u := .int .i64 1) (by kernel_rfl) (fun w => (run_sub (by omega) (by omega) rfl rfl rfl w).trans rfl) ?_
                  simp only [Act.put, List.setIfInBounds_toArray, List.set_cons_succ, List.set_cons_zero]
                  refine fr0 (by kernel_rfl) (run_index61 (j := 1) (by omega) rfl rfl rfl) ?_
                  simp only [Act.put, List.setIfInBounds_toArray, List.set_cons_succ, List.set_cons_zero]
                  refine fr1 (u := .int .i64 X.g1) (by kernel_rfl) (fun x hx => run_load1 rfl rfl (hx.cell cN0) isAgg3) ?_
                  simp only [Act.put, List.setIfInBounds_toArray, List.set_cons_succ, List.set_cons_zero]
                  refine fr0 (u := .bool false) (by kernel_rfl) (fun w => (run_neq rfl rfl rfl w).trans (by simp)) ?_
                  simp only [Act.put, List.setIfInBounds_toArray, List.set_cons_succ, List.set_cons_zero]
                  refine fr0 (u := .bool false) rfl (fun _ => rfl) ?_
                  simp only [Act.put, List.setIfInBounds_toArray, List.set_cons_succ, List.set_cons_zero]
                  refine fr0 rfl (fun _ => rfl) ?_
                  simp only [Act.put, List.setIfInBounds_toArray, List.set_cons_succ, List.set_cons_zero]
                  refine fr0 (by kernel_rfl) (fun _ => rfl) ?_
                  simp only [Act.put, List.setIfInBounds_toArray, List.set_cons_succ, List.set_cons_zero]
                  refine fr0 (by kernel_rfl) (run_index62 (j := 0) (by omega) rfl rfl rfl) ?_
                  simp only [Act.put, List.setIfInBounds_toArray, List.set_cons_succ, List.set_cons_zero]
                  refine fr1 (u := pv X.wb0) (by kernel_rfl) (fun x hx => run_load1 rfl rfl (hx.cell cS) isAgg26) ?_
                  simp only [Act.put, List.setIfInBounds_toArray, List.set_cons_succ, List.set_cons_zero]
                  refine fr1c (u := .int .i64 (X.g0 + 1)) (by kernel_rfl) (fun x hx => does_groups (G2.out.lat hx) rfl rfl (groups_any (G2.out.lat hx))) ?_
                  simp only [Act.put, List.setIfInBounds_toArray, List.set_cons_succ, List.set_cons_zero]
                  refine fr0 (by kernel_rfl) (fun _ => rfl) ?_
                  simp only [Act.put, List.setIfInBounds_toArray, List.set_cons_succ, List.set_cons_zero]
                  refine fr0 (by kernel_rfl) (run_index61 (j := 0) (by omega) rfl rfl rfl) ?_
                  simp only [Act.put, List.setIfInBounds_toArray, List.set_cons_succ, List.set_cons_zero]
                  refine fr1 (u := .int .i64 (X.g0 + 1)) (by kernel_rfl) (fun x hx => run_load1 rfl rfl (hx.cell cN1) isAgg3) ?_
                  simp only [Act.put, List.setIfInBounds_toArray, List.set_cons_succ, List.set_cons_zero]
                  refine fr0 (u := .bool false) (by kernel_rfl) (fun w => (run_neq rfl rfl rfl w).trans (by simp)) ?_
                  simp only [Act.put, List.setIfInBounds_toArray, List.set_cons_succ, List.set_cons_zero]
                  refine fr0 (u := .bool false) rfl (fun _ => rfl) ?_
                  simp only [Act.put, List.setIfInBounds_toArray, List.set_cons_succ, List.set_cons_zero]
                  refine frnil ?_
                  show Exit.then _ _ _ _ _
                  generalize w6.drew = w7 at *
                  clear cN0 cN1 cS G1 G2
                  go_wp2
                  go_roundw
                  case rel => exact ⟨i + 1, _, by omega, by go_num, FIN.out⟩
                  case measure => simp [intOf]; omega
                · have hjr : j = 20 := by omega
                  clear hjM hjl hj
                  subst hjr
                  go_wp2_with fail
                  refine CO.out.mono ?_
                  rintro e w4 ⟨rfl, k4, F4, k40, k41, h4⟩
                  -- disk, me, list, flags, has, other, places, ws, n
                  have hN := h4.pull (L1 := [_, _, _, _, _, _, _, _]) (L2 := [])
                  have hneN : wB.heap.size ≠ w2.heap.size := fun e => hN.apartD (s := BRes w2.heap.size (.cells #[.int .i64 0, .int .i64 40] 61)) (by simp) wB.heap.size (by simp [BRes]) (by simp [BRes, e])
                  have bN : w4.heap[wB.heap.size]? = some (.cells #[.int .i64 X.g0, .int .i64 X.g1] 61 (0, 0)) := hN.blk (by simp)
                  have cN : w4.cell? ⟨wB.heap.size, 0, none⟩ = some (.int .i64 X.g0) := by rw [cell_of_row _ _ _ _ _ _ bN]; rfl
                  have fN : w4.frozen? ⟨wB.heap.size, 0, none⟩ = false := by simp [World.frozen?, bN]
                  have bP : w4.heap[w2.heap.size]? = some (.cells #[.int .i64 0, .int .i64 40] 61 (0, 0)) := hN.blk (by simp)
                  have cP : w4.cell? ⟨w2.heap.size, 1, none⟩ = some (.int .i64 40) := by rw [cell_of_row _ _ _ _ _ _ bP]; rfl
                  have hN5 := hN.setb 0 (.int .i64 (X.g0 + 1))
                  have hN6 := hN5.pull (L1 := [_]) (L2 := [_, _, _, _, _, _, _])
                  have nod := HI.out.nodup
                  have hlt20 := HI.out.lt
                  have OLD' := fun A F wb => OLD.out.done0 nod hlt20 (Nat.le_trans HLL.out (by omega)) hi30 k40 k41 A F wb
                  have OP := Lib.hid (has_open hN6 rfl (a := 40) (s := 40) (g := X.g1) (by omega) (by omega) (by simp only [quiet]; omega) (by omega) (by omega) (by rw [show (quiet 120 k4 (putLog X.f 0 40 X.g0 (grp 80 ((i : Int) + 1) (fun _ => 3) xs))).now 40 = some (headA 40 40 X.g1 0) from (OLD' #[] [] 0).head1, Option.getD_some]))
                  have OLD2 := Lib.hid OLD'
                  clear CO h4 hN bN bP hN5 hN6 OLD' nod hlt20
                  go_wp2_with fail
                  refine OP.out.mono ?_
                  rintro e w6 ⟨wb6, rfl, h6⟩
                  -- new, disk, n, me, list, flags, has, other, places, ws
                  have hD6 := h6.drew
                  have g1 := hD6.walAt (wb := wb6) (b := b) (a := 40) (s := 40) (g := X.g1) (by simp)
                  have g2 := hD6.walAt (wb := X.wb0) (b := b) (a := 0) (s := 40) (g := X.g0 + 1) (by simp)
                  have bN : w6.drew.heap[wB.heap.size]? = some (.cells (#[.int .i64 X.g0, .int .i64 X.g1].setIfInBounds 0 (.int .i64 (X.g0 + 1))) 61 (0, 0)) := hD6.blk (by simp)
                  have cN0 : w6.drew.cell? ⟨wB.heap.size, 1, none⟩ = some (.int .i64 X.g1) := by rw [cell_of_row _ _ _ _ _ _ bN]; rfl
                  have cN1 : w6.drew.cell? ⟨wB.heap.size, 0, none⟩ = some (.int .i64 (X.g0 + 1)) := by rw [cell_of_row _ _ _ _ _ _ bN]; rfl
                  have bS : w6.drew.heap[(w2.heap.size + 1)]? = some (.cells #[pv X.wb0, pv X.wb1] 62 (0, 0)) := hD6.blk (by simp)
                  have cS : w6.drew.cell? ⟨(w2.heap.size + 1), 0, none⟩ = some (pv X.wb0) := by rw [cell_of_row _ _ _ _ _ _ bS]; rfl
                  have cSo : w6.drew.cell? ⟨(w2.heap.size + 1), 1, none⟩ = some (pv X.wb1) := by rw [cell_of_row _ _ _ _ _ _ bS]; rfl
                  have fS : w6.drew.frozen? ⟨(w2.heap.size + 1), 1, none⟩ = false := by simp [World.frozen?, bS]
                  have h7 := (hD6.pull (L1 := [_, _, _, _, _, _, _, _, _]) (L2 := [])).setb 1 (pv wb6)
                  -- ws, new, disk, n, me, list, flags, has, other, places
                  have h8 := h7.pull (L1 := [_, _, _]) (L2 := [_, _, _, _, _, _])
                  -- n, ws, new, disk, me, list, flags, has, other, places
                  have h9 := h8.swap
                  -- ws, n, new, disk, me, list, flags, has, other, places
                  have h10 := h9.pull (L1 := [_, _, _, _, _, _, _, _, _]) (L2 := [])
                  -- places, ws, n, new, disk, me, list, flags, has, other
                  have h11 := h10.pull (L1 := [_, _, _, _, _, _, _, _]) (L2 := [_])
                  -- has, places, ws, n, new, disk, me, list, flags, other
                  have h12 := h11.pull (L1 := [_, _, _, _]) (L2 := [_, _, _, _, _])
                  have h13 := h12.pull (L1 := [_, _, _, _, _, _]) (L2 := [_, _, _])
                  have h14 := h13.pull (L1 := [_, _, _, _, _, _]) (L2 := [_, _, _])
                  -- disk, log 0, log 1, has, places, ws, n, list, flags, other
                  have h15 := h14.firsts (L := [_, _, _, _, _, _, _]) (L2 := [_, _, _])
                  have fin : PInv w (w6.drew.setCell ⟨(w2.heap.size + 1), 1, none⟩ (pv wb6)) b (wB.heap.size + 1) w2.heap.size (w2.heap.size + 1) wB.heap.size (i + 1) ⟨fun t => if 0 ≤ t ∧ t - 0 ∈ xs then (i : Int) + 1 else X.H t, A, putLog X.f 0 40 X.g0 (grp 80 ((i : Int) + 1) (fun _ => 3) xs), k4, F4, X.g0 + 1, X.g1, X.wb0, wb6⟩ := ⟨HI.out.row, OLD2.out _ _ _, h15⟩
                  have FIN := Lib.hid fin
                  have G1 := Lib.hid g1
                  have G2 := Lib.hid g2
                  clear OP h6 hD6 bN bS h7 h8 h9 h10 h11 h12 h13 h14 h15 fin g1 g2 HI HLL OLD2 OLD HST cN fN cP
                  go_wp2_with fail
                  refine wp_region_flowR Lat [0, 0, 0, 0, 0, 0, 0, 0, 0, 0, 0, 0, 1, 0, 0, 0, 1, 0, 0, 0, 0, 0, 1, 1, 0, 0, 1, 0, 0] (by kernel_rfl) (by kernel_rfl) Lat.refl Lat.trans ?_
                  refine fr0 rfl (fun _ => rfl) ?_
                  simp only [Act.put, List.setIfInBounds_toArray, List.set_cons_succ, List.set_cons_zero]
                  refine fr0 (u := .bool false) rfl (fun w => (run_neq36 rfl rfl rfl w).trans rfl) ?_
                  simp only [Act.put, List.setIfInBounds_toArray, List.set_cons_succ, List.set_cons_zero]
                  refine fr0 rfl (fun _ => rfl) ?_
                  simp only [Act.put, List.setIfInBounds_toArray, List.set_cons_succ, List.set_cons_zero]
                  refine fr0 (by kernel_rfl) (fun _ => rfl) ?_
                  simp only [Act.put, List.setIfInBounds_toArray, List.set_cons_succ, List.set_cons_zero]
                  refine fr0 (u := .bool false) (by kernel_rfl) (run_eqlnil26 rfl rfl) ?_
                  simp only [Act.put, List.setIfInBounds_toArray, List.set_cons_succ, List.set_cons_zero]
                  refine fr0 (u := .bool false) rfl (fun _ => rfl) ?_
                  simp only [Act.put, List.setIfInBounds_toArray, List.set_cons_succ, List.set_cons_zero]
                  refine fr0 rfl (fun _ => rfl) ?_
                  simp only [Act.put, List.setIfInBounds_toArray, List.set_cons_succ, List.set_cons_zero]
                  refine fr0 (by kernel_rfl) (fun _ => rfl) ?_
                  simp only [Act.put, List.setIfInBounds_toArray, List.set_cons_succ, List.set_cons_zero]
                  refine fr0 (u := .bool false) (by kernel_rfl) (fun w => (run_neq36 rfl rfl rfl w).trans rfl) ?_
                  simp only [Act.put, List.setIfInBounds_toArray, List.set_cons_succ, List.set_cons_zero]
                  refine fr0 (u := .bool false) rfl (fun _ => rfl) ?_
                  simp only [Act.put, List.setIfInBounds_toArray, List.set_cons_succ, List.set_cons_zero]
                  refine fr0 rfl (fun _ => rfl) ?_
                  simp only [Act.put, List.setIfInBounds_toArray, List.set_cons_succ, List.set_cons_zero]
                  refine fr0 (by kernel_rfl) (fun _ => rfl) ?_
                  simp only [Act.put, List.setIfInBounds_toArray, List.set_cons_succ, List.set_cons_zero]
                  refine fr1c (u := .int .i64 X.g1) (by kernel_rfl) (fun x hx => does_groups (G1.out.lat hx) rfl rfl (groups_any (G1.out.lat hx))) ?_
                  simp only [Act.put, List.setIfInBounds_toArray, List.set_cons_succ, List.set_cons_zero]
                  refine fr0 (by kernel_rfl) (fun _ => rfl) ?_
                  simp only [Act.put, List.setIfInBounds_toArray, List.set_cons_succ, List.set_cons_zero]
                  refine fr0 (u := .int .i64 1) (by kernel_rfl) (fun w => (run_sub (by omega) (by omega) rfl rfl rfl w).trans rfl) ?_
                  simp only [Act.put, List.setIfInBounds_toArray, List.set_cons_succ, List.set_cons_zero]
                  refine fr0 (by kernel_rfl) (run_index61 (j := 1) (by omega) rfl rfl rfl) ?_
                  simp only [Act.put, List.setIfInBounds_toArray, List.set_cons_succ, List.set_cons_zero]
                  refine fr1 (u := .int .i64 X.g1) (by kernel_rfl) (fun x hx => run_load1 rfl rfl (hx.cell cN0) isAgg3) ?_
                  simp only [Act.put, List.setIfInBounds_toArray, List.set_cons_succ, List.set_cons_zero]
                  refine fr0 (u := .bool false) (by kernel_rfl) (fun w => (run_neq rfl rfl rfl w).trans (by simp)) ?_
                  simp only [Act.put, List.setIfInBounds_toArray, List.set_cons_succ, List.set_cons_zero]
                  refine fr0 (u := .bool false) rfl (fun _ => rfl) ?_
                  simp only [Act.put, List.setIfInBounds_toArray, List.set_cons_succ, List.set_cons_zero]
                  refine fr0 rfl (fun _ => rfl) ?_
                  simp only [Act.put, List.setIfInBounds_toArray, List.set_cons_succ, List.set_cons_zero]
                  refine fr0 (by kernel_rfl) (fun _ => rfl) ?_
                  simp only [Act.put, List.setIfInBounds_toArray, List.set_cons_succ, List.set_cons_zero]
                  refine fr0 (by kernel_rfl) (run_index62 (j := 0) (by omega) rfl rfl rfl) ?_
                  simp only [Act.put, List.setIfInBounds_toArray, List.set_cons_succ, List.set_cons_zero]
                  refine fr1 (u := pv X.wb0) (by kernel_rfl) (fun x hx => run_load1 rfl rfl (hx.cell cS) isAgg26) ?_
                  simp only [Act.put, List.setIfInBounds_toArray, List.set_cons_succ, List.set_cons_zero]
                  refine fr1c (u := .int .i64 (X.g0 + 1)) (by kernel_rfl) (fun x hx => does_groups (G2.out.lat hx) rfl rfl (groups_any (G2.out.lat hx))) ?_
                  simp only [Act.put, List.setIfInBounds_toArray, List.set_cons_succ, List.set_cons_zero]
                  refine fr0 (by kernel_rfl) (fun _ => rfl) ?_
                  simp only [Act.put, List.setIfInBounds_toArray, List.set_cons_succ, List.set_cons_zero]
                  refine fr0 (by kernel_rfl) (run_index61 (j := 0) (by omega) rfl rfl rfl) ?_
                  simp only [Act.put, List.setIfInBounds_toArray, List.set_cons_succ, List.set_cons_zero]
                  refine fr1 (u := .int .i64 (X.g0 + 1)) (by kernel_rfl) (fun x hx => run_load1 rfl rfl (hx.cell cN1) isAgg3) ?_
                  simp only [Act.put, List.setIfInBounds_toArray, List.set_cons_succ, List.set_cons_zero]
                  refine fr0 (u := .bool false) (by kernel_rfl) (fun w => (run_neq rfl rfl rfl w).trans (by simp)) ?_
                  simp only [Act.put, List.setIfInBounds_toArray, List.set_cons_succ, List.set_cons_zero]
                  refine fr0 (u := .bool false) rfl (fun _ => rfl) ?_
                  simp only [Act.put, List.setIfInBounds_toArray, List.set_cons_succ, List.set_cons_zero]
                  refine frnil ?_
                  show Exit.then _ _ _ _ _
                  generalize w6.drew = w7 at *
                  clear cN0 cN1 cS G1 G2
                  go_wp2
                  go_roundw
                  case rel => exact ⟨i + 1, _, by omega, by go_num, FIN.out⟩
                  case measure => simp [intOf]; omega
          · as_aux_lemma =>
            -- disk, log 0, log 1, has, places, ws, n
            have hs := hh.has.pull (L1 := [_, _, _]) (L2 := [_, _, _])
            have hs := ((hs.pull (L1 := [_, _, _]) (L2 := [_, _, _])).pull (L1 := [_, _]) (L2 := [_, _, _, _])).pull (L1 := [_, _]) (L2 := [_, _, _, _])
            have st := JInv.start (i := i) (H := X.H) 100 20 hh.row hs
            have HST := Lib.hid st
            have OLD := Lib.hid hh.old
            have HC := Lib.hid hc
            have HBI := Lib.hid hbi
            clear hh hc hbi st hs
            go_wp2_with (first | (refine wpL_build0 build64 rfl rfl ?_) | (refine wpL_alloc0 zero64 rfl rfl ?_) | (refine wpL_store0 info64 (nays_size 20) (nays_size 20) (nays_one 20) rfl rfl (by rw [World.size_alloc]; rfl) rfl ?_))
            go_loopw [18, 16] (fun y c wr => ∃ (j : Nat) (xs : List Nat) (A B : Array Value) (G : List Nat), j ≤ min (rl i) 20 ∧ y = .int .i64 j ∧ JInv w wr (wB.heap.size + 1) (wA.heap.size + 1) i j 100 20 X.H c xs A B G (DRes b X.F (quiet 120 X.k X.f) :: WRes X.wb1 b 40 40 X.g1 :: WRes X.wb0 b 0 40 X.g0 :: BRes w2.heap.size (.cells #[.int .i64 0, .int .i64 40] 61) :: BRes (w2.heap.size + 1) (.cells #[pv X.wb0, pv X.wb1] 62) :: BRes wB.heap.size (.cells #[.int .i64 X.g0, .int .i64 X.g1] 61) :: [])) (fun y _ _ => min (rl i) 20 - (intOf y).toNat)
            case atStart => exact ⟨0, [], _, _, _, by omega, rfl, HST.out⟩
            case round =>
              obtain ⟨j, xs, A, B, G, hj, rfl, hI⟩ := hrel
              have on := hI.has.only
              have hc1 : wr.cell? ⟨g, off + i, none⟩ = some (.slice (ra i) (rl i) (rc i)) := (World.cell?_of_block (on.block g hg (by simp))).trans HC.out
              by_cases hjl : j < min (rl i) 20
              · have hj1 : j < rl i := by omega
                have hj2 : j < 20 := by omega
                obtain ⟨z0, z1, g2, o2, hra, hg2, hz⟩ := HBI.out.2 j (by omega)
                have hz1 : wr.cell? ⟨g2, o2 + j, none⟩ = some (.int .u8 (z i j)) := (World.cell?_of_block (on.block g2 hg2 (by simp))).trans hz
                rw [hra] at hc1
                obtain ⟨t, hzt, ht⟩ : ∃ t : Nat, z i j % 20 = (t : Int) ∧ t < 20 := ⟨(z i j % 20).toNat, by omega, by omega⟩
                have hm1 : ((i : Int) + 1) % 256 = (i : Int) + 1 := by omega
                have bS : wr.heap[wA.heap.size + 1]? = some (.cells B 64 (0, 0)) := hI.has.blk (by simp)
                have bH : wr.heap[wB.heap.size + 1]? = some (.cells A 63 (0, 0)) := hI.has.blk (by simp)
                have cS : wr.cell? ⟨wA.heap.size + 1, t, none⟩ = some (.bool (decide (t ∈ xs))) := by rw [cell_of_row _ _ _ _ _ _ bS]; exact hI.flag.cell t ht
                have cH : wr.cell? ⟨wB.heap.size + 1, (20 + t), none⟩ = some (.int .u8 (if 20 ≤ (20 + t) ∧ (20 + t) - 20 ∈ xs then (i : Int) + 1 else X.H (20 + t))) := by rw [cell_of_row _ _ _ _ _ _ bH]; exact hI.row.cell (20 + t) (by omega)
                have fS : wr.frozen? ⟨wA.heap.size + 1, t, none⟩ = false := by simp [World.frozen?, bS]
                have fH : wr.frozen? ⟨wB.heap.size + 1, (20 + t), none⟩ = false := by simp [World.frozen?, bH]
                have hne : wA.heap.size + 1 ≠ wB.heap.size + 1 := fun e => by rw [e, bH] at bS; simp at bS
                generalize (if 20 ≤ (20 + t) ∧ (20 + t) - 20 ∈ xs then (i : Int) + 1 else X.H (20 + t)) = hv at cH
                have HI := Lib.hid hI
                by_cases htx : t ∈ xs
                · rw [decide_eq_true htx] at cS
                  clear hI bS bH hz on cH fS fH hra
                  go_wp2
                  go_roundw
                  case rel => exact ⟨j + 1, xs, A, B, G, by omega, by go_num, HI.out.skip⟩
                  case measure => simp [intOf]; omega
                · rw [decide_eq_false htx] at cS
                  obtain ⟨v3, w3, hrun, A3, B3, G3, h3⟩ := HI.out.add (q := (20 + t)) (z := 100 + (t : Int)) ht htx (by omega) (by omega) (by omega) (by omega)
                  have RUN := Lib.hid hrun
                  have H3 := Lib.hid h3
                  clear hI bS bH hz on hra hrun h3 HI
                  go_wp2_with (first | (go_at_call 25; refine (full_any _ _ _).mono ?_; rintro e w' ⟨rfl, rfl⟩) | (refine wpL_value rfl (run_builtin_append rfl rfl rfl RUN.out) ?_))
                  go_roundw
                  case rel => exact ⟨j + 1, _, A3, B3, G3, by omega, by go_num, H3.out⟩
                  case measure => simp [intOf]; omega
              · have hjM : j = min (rl i) 20 := by omega
                have hll := hI.len
                -- list, flags, has, disk, me, other, places, ws, n
                have hD := (hI.has.pull (L1 := [_, _, _, _]) (L2 := [_, _, _, _])).pull (L1 := [_, _, _, _]) (L2 := [_, _, _, _])
                have hap : ∀ x ∈ X.F, x ∉ G := fun x hx => hD.apartD (s := LRes G u16 (grp 100 ((i : Int) + 1) (fun _ => 3) xs)) (by simp) x hx
                have hla := hI.has.lat (G := G) (v := u16) (ps := grp 100 ((i : Int) + 1) (fun _ => 3) xs) (by simp)
                obtain ⟨la, lc, hlv⟩ := hla.slice
                subst hlv
                have hglen : (grp 100 ((i : Int) + 1) (fun _ => 3) xs).length = xs.length := by simp [grp]
                have PU := hla.puts hap (by omega)
                have hok : GroupOk 40 40 120 (rawsOf (grp 100 ((i : Int) + 1) (fun _ => 3) xs)) := grp_ok (m := 20) hI.nodup hI.lt (by omega) (by omega) (by omega) (by rw [room40]; omega)
                have gb0 := OLD.out.b0
                have gb1 := OLD.out.b1
                have CO := Lib.hid (has_commit hD PU (by omega) (by omega) (by omega) (by omega) (by omega) hok OLD.out.k0 (by have := OLD.out.k1; omega))
                have bS : wr.heap[w2.heap.size + 1]? = some (.cells #[pv X.wb0, pv X.wb1] 62 (0, 0)) := hI.has.blk (by simp)
                have cS : wr.cell? ⟨w2.heap.size + 1, 1, none⟩ = some (pv X.wb1) := by rw [cell_of_row _ _ _ _ _ _ bS]; rfl
                have HI := Lib.hid hI
                have HLL := Lib.hid hll
                clear hI hD hap hla PU hok on hglen hll bS
                by_cases hM : rl i ≤ 20
                · have hjr : j = rl i := by omega
                  clear hjM hjl hj
                  subst hjr
                  go_wp2_with fail
                  refine CO.out.mono ?_
                  rintro e w4 ⟨rfl, k4, F4, k40, k41, h4⟩
                  -- disk, me, list, flags, has, other, places, ws, n
                  have hN := h4.pull (L1 := [_, _, _, _, _, _, _, _]) (L2 := [])
                  have hneN : wB.heap.size ≠ w2.heap.size := fun e => hN.apartD (s := BRes w2.heap.size (.cells #[.int .i64 0, .int .i64 40] 61)) (by simp) wB.heap.size (by simp [BRes]) (by simp [BRes, e])
                  have bN : w4.heap[wB.heap.size]? = some (.cells #[.int .i64 X.g0, .int .i64 X.g1] 61 (0, 0)) := hN.blk (by simp)
                  have cN : w4.cell? ⟨wB.heap.size, 1, none⟩ = some (.int .i64 X.g1) := by rw [cell_of_row _ _ _ _ _ _ bN]; rfl
                  have fN : w4.frozen? ⟨wB.heap.size, 1, none⟩ = false := by simp [World.frozen?, bN]
                  have bP : w4.heap[w2.heap.size]? = some (.cells #[.int .i64 0, .int .i64 40] 61 (0, 0)) := hN.blk (by simp)
                  have cP : w4.cell? ⟨w2.heap.size, 0, none⟩ = some (.int .i64 0) := by rw [cell_of_row _ _ _ _ _ _ bP]; rfl
                  have hN5 := hN.setb 1 (.int .i64 (X.g1 + 1))
                  have hN6 := hN5.pull (L1 := [_]) (L2 := [_, _, _, _, _, _, _])
                  have nod := HI.out.nodup
                  have hlt20 := HI.out.lt
                  have OLD' := fun A F wb => OLD.out.done1 nod hlt20 (Nat.le_trans HLL.out (by omega)) hi30 k40 k41 A F wb
                  have OP := Lib.hid (has_open hN6 rfl (a := 0) (s := 40) (g := X.g0) (by omega) (by omega) (by simp only [quiet]; omega) (by omega) (by omega) (by rw [show (quiet 120 k4 (putLog X.f 40 40 X.g1 (grp 100 ((i : Int) + 1) (fun _ => 3) xs))).now 0 = some (headA 0 40 X.g0 0) from (OLD' #[] [] 0).head0, Option.getD_some]))
                  have OLD2 := Lib.hid OLD'
                  clear CO h4 hN bN bP hN5 hN6 OLD' nod hlt20
                  go_wp2_with fail
                  refine OP.out.mono ?_
                  rintro e w6 ⟨wb6, rfl, h6⟩
                  -- new, disk, n, me, list, flags, has, other, places, ws
                  have hD6 := h6.drew
                  have g1 := hD6.walAt (wb := wb6) (b := b) (a := 0) (s := 40) (g := X.g0) (by simp)
                  have g2 := hD6.walAt (wb := X.wb1) (b := b) (a := 40) (s := 40) (g := X.g1 + 1) (by simp)
                  have bN : w6.drew.heap[wB.heap.size]? = some (.cells (#[.int .i64 X.g0, .int .i64 X.g1].setIfInBounds 1 (.int .i64 (X.g1 + 1))) 61 (0, 0)) := hD6.blk (by simp)
                  have cN0 : w6.drew.cell? ⟨wB.heap.size, 0, none⟩ = some (.int .i64 X.g0) := by rw [cell_of_row _ _ _ _ _ _ bN]; rfl
                  have cN1 : w6.drew.cell? ⟨wB.heap.size, 1, none⟩ = some (.int .i64 (X.g1 + 1)) := by rw [cell_of_row _ _ _ _ _ _ bN]; rfl
                  have bS : w6.drew.heap[(w2.heap.size + 1)]? = some (.cells #[pv X.wb0, pv X.wb1] 62 (0, 0)) := hD6.blk (by simp)
                  have cS : w6.drew.cell? ⟨(w2.heap.size + 1), 1, none⟩ = some (pv X.wb1) := by rw [cell_of_row _ _ _ _ _ _ bS]; rfl
                  have cSo : w6.drew.cell? ⟨(w2.heap.size + 1), 0, none⟩ = some (pv X.wb0) := by rw [cell_of_row _ _ _ _ _ _ bS]; rfl
                  have fS : w6.drew.frozen? ⟨(w2.heap.size + 1), 0, none⟩ = false := by simp [World.frozen?, bS]
                  have h7 := (hD6.pull (L1 := [_, _, _, _, _, _, _, _, _]) (L2 := [])).setb 0 (pv wb6)
                  -- ws, new, disk, n, me, list, flags, has, other, places
                  have h8 := h7.pull (L1 := [_, _, _]) (L2 := [_, _, _, _, _, _])
                  -- n, ws, new, disk, me, list, flags, has, other, places
                  have h9 := h8.swap
                  -- ws, n, new, disk, me, list, flags, has, other, places
                  have h10 := h9.pull (L1 := [_, _, _, _, _, _, _, _, _]) (L2 := [])
                  -- places, ws, n, new, disk, me, list, flags, has, other
                  have h11 := h10.pull (L1 := [_, _, _, _, _, _, _, _]) (L2 := [_])
                  -- has, places, ws, n, new, disk, me, list, flags, other
                  have h12 := h11.pull (L1 := [_, _, _, _, _, _]) (L2 := [_, _, _])
                  have h13 := h12.pull (L1 := [_, _, _, _, _]) (L2 := [_, _, _, _])
                  have h14 := h13.pull (L1 := [_, _, _, _, _, _]) (L2 := [_, _, _])
                  -- disk, log 0, log 1, has, places, ws, n, list, flags, other
                  have h15 := h14.firsts (L := [_, _, _, _, _, _, _]) (L2 := [_, _, _])
                  have fin : PInv w (w6.drew.setCell ⟨(w2.heap.size + 1), 0, none⟩ (pv wb6)) b (wB.heap.size + 1) w2.heap.size (w2.heap.size + 1) wB.heap.size (i + 1) ⟨fun t => if 20 ≤ t ∧ t - 20 ∈ xs then (i : Int) + 1 else X.H t, A, putLog X.f 40 40 X.g1 (grp 100 ((i : Int) + 1) (fun _ => 3) xs), k4, F4, X.g0, X.g1 + 1, wb6, X.wb1⟩ := ⟨HI.out.row, OLD2.out _ _ _, h15⟩
                  have FIN := Lib.hid fin
                  have G1 := Lib.hid g1
                  have G2 := Lib.hid g2
                  clear OP h6 hD6 bN bS h7 h8 h9 h10 h11 h12 h13 h14 h15 fin g1 g2 HI HLL OLD2 OLD HST cN fN cP
                  go_wp2_with fail
                  refine wp_region_flowR Lat [0, 0, 0, 0, 0, 0, 0, 0, 0, 0, 0, 0, 1, 0, 0, 0, 1, 0, 0, 0, 0, 0, 1, 1, 0, 0, 1, 0, 0] (by kernel_rfl) (by kernel_rfl) Lat.refl Lat.trans ?_
                  refine fr0 rfl (fun _ => rfl) ?_
                  simp only [Act.put, List.setIfInBounds_toArray, List.set_cons_succ, List.set_cons_zero]
                  refine fr0 (u := .bool false) rfl (fun w => (run_neq36 rfl rfl rfl w).trans rfl) ?_
                  simp only [Act.put, List.setIfInBounds_toArray, List.set_cons_succ, List.set_cons_zero]
                  refine fr0 rfl (fun _ => rfl) ?_
                  simp only [Act.put, List.setIfInBounds_toArray, List.set_cons_succ, List.set_cons_zero]
                  refine fr0 (by kernel_rfl) (fun _ => rfl) ?_
                  simp only [Act.put, List.setIfInBounds_toArray, List.set_cons_succ, List.set_cons_zero]
                  refine fr0 (u := .bool false) (by kernel_rfl) (run_eqlnil26 rfl rfl) ?_
                  simp only [Act.put, List.setIfInBounds_toArray, List.set_cons_succ, List.set_cons_zero]
                  refine fr0 (u := .bool false) rfl (fun _ => rfl) ?_
                  simp only [Act.put, List.setIfInBounds_toArray, List.set_cons_succ, List.set_cons_zero]
                  refine fr0 rfl (fun _ => rfl) ?_
                  simp only [Act.put, List.setIfInBounds_toArray, List.set_cons_succ, List.set_cons_zero]
                  refine fr0 (by kernel_rfl) (fun _ => rfl) ?_
                  simp only [Act.put, List.setIfInBounds_toArray, List.set_cons_succ, List.set_cons_zero]
                  refine fr0 (u := .bool false) (by kernel_rfl) (fun w => (run_neq36 rfl rfl rfl w).trans rfl) ?_
                  simp only [Act.put, List.setIfInBounds_toArray, List.set_cons_succ, List.set_cons_zero]
                  refine fr0 (u := .bool false) rfl (fun _ => rfl) ?_
                  simp only [Act.put, List.setIfInBounds_toArray, List.set_cons_succ, List.set_cons_zero]
                  refine fr0 rfl (fun _ => rfl) ?_
                  simp only [Act.put, List.setIfInBounds_toArray, List.set_cons_succ, List.set_cons_zero]
                  refine fr0 (by kernel_rfl) (fun _ => rfl) ?_
                  simp only [Act.put, List.setIfInBounds_toArray, List.set_cons_succ, List.set_cons_zero]
                  refine fr1c (u := .int .i64 X.g0) (by kernel_rfl) (fun x hx => does_groups (G1.out.lat hx) rfl rfl (groups_any (G1.out.lat hx))) ?_
                  simp only [Act.put, List.setIfInBounds_toArray, List.set_cons_succ, List.set_cons_zero]
                  refine fr0 (by kernel_rfl) (fun _ => rfl) ?_
                  simp only [Act.put, List.setIfInBounds_toArray, List.set_cons_succ, List.set_cons_zero]
                  refine fr0 (u := .int .i64 0) (by kernel_rfl) (fun w => (run_sub (by omega) (by omega) rfl rfl rfl w).trans rfl) ?_
                  simp only [Act.put, List.setIfInBounds_toArray, List.set_cons_succ, List.set_cons_zero]
                  refine fr0 (by kernel_rfl) (run_index61 (j := 0) (by omega) rfl rfl rfl) ?_
                  simp only [Act.put, List.setIfInBounds_toArray, List.set_cons_succ, List.set_cons_zero]
                  refine fr1 (u := .int .i64 X.g0) (by kernel_rfl) (fun x hx => run_load1 rfl rfl (hx.cell cN0) isAgg3) ?_
                  simp only [Act.put, List.setIfInBounds_toArray, List.set_cons_succ, List.set_cons_zero]
                  refine fr0 (u := .bool false) (by kernel_rfl) (fun w => (run_neq rfl rfl rfl w).trans (by simp)) ?_
                  simp only [Act.put, List.setIfInBounds_toArray, List.set_cons_succ, List.set_cons_zero]
                  refine fr0 (u := .bool false) rfl (fun _ => rfl) ?_
                  simp only [Act.put, List.setIfInBounds_toArray, List.set_cons_succ, List.set_cons_zero]
                  refine fr0 rfl (fun _ => rfl) ?_
                  simp only [Act.put, List.setIfInBounds_toArray, List.set_cons_succ, List.set_cons_zero]
                  refine fr0 (by kernel_rfl) (fun _ => rfl) ?_
                  simp only [Act.put, List.setIfInBounds_toArray, List.set_cons_succ, List.set_cons_zero]
                  refine fr0 (by kernel_rfl) (run_index62 (j := 1) (by omega) rfl rfl rfl) ?_
                  simp only [Act.put, List.setIfInBounds_toArray, List.set_cons_succ, List.set_cons_zero]
                  refine fr1 (u := pv X.wb1) (by kernel_rfl) (fun x hx => run_load1 rfl rfl (hx.cell cS) isAgg26) ?_
                  simp only [Act.put, List.setIfInBounds_toArray, List.set_cons_succ, List.set_cons_zero]
                  refine fr1c (u := .int .i64 (X.g1 + 1)) (by kernel_rfl) (fun x hx => does_groups (G2.out.lat hx) rfl rfl (groups_any (G2.out.lat hx))) ?_
                  simp only [Act.put, List.setIfInBounds_toArray, List.set_cons_succ, List.set_cons_zero]
                  refine fr0 (by kernel_rfl) (fun _ => rfl) ?_
                  simp only [Act.put, List.setIfInBounds_toArray, List.set_cons_succ, List.set_cons_zero]
                  refine fr0 (by kernel_rfl) (run_index61 (j := 1) (by omega) rfl rfl rfl) ?_
                  simp only [Act.put, List.setIfInBounds_toArray, List.set_cons_succ, List.set_cons_zero]
                  refine fr1 (u := .int .i64 (X.g1 + 1)) (by kernel_rfl) (fun x hx => run_load1 rfl rfl (hx.cell cN1) isAgg3) ?_
                  simp only [Act.put, List.setIfInBounds_toArray, List.set_cons_succ, List.set_cons_zero]
                  refine fr0 (u := .bool false) (by kernel_rfl) (fun w => (run_neq rfl rfl rfl w).trans (by simp)) ?_
                  simp only [Act.put, List.setIfInBounds_toArray, List.set_cons_succ, List.set_cons_zero]
                  refine fr0 (u := .bool false) rfl (fun _ => rfl) ?_
                  simp only [Act.put, List.setIfInBounds_toArray, List.set_cons_succ, List.set_cons_zero]
                  refine frnil ?_
                  show Exit.then _ _ _ _ _
                  generalize w6.drew = w7 at *
                  clear cN0 cN1 cS G1 G2
                  go_wp2
                  go_roundw
                  case rel => exact ⟨i + 1, _, by omega, by go_num, FIN.out⟩
                  case measure => simp [intOf]; omega
                · have hjr : j = 20 := by omega
                  clear hjM hjl hj
                  subst hjr
                  go_wp2_with fail
                  refine CO.out.mono ?_
                  rintro e w4 ⟨rfl, k4, F4, k40, k41, h4⟩
                  -- disk, me, list, flags, has, other, places, ws, n
                  have hN := h4.pull (L1 := [_, _, _, _, _, _, _, _]) (L2 := [])
                  have hneN : wB.heap.size ≠ w2.heap.size := fun e => hN.apartD (s := BRes w2.heap.size (.cells #[.int .i64 0, .int .i64 40] 61)) (by simp) wB.heap.size (by simp [BRes]) (by simp [BRes, e])
                  have bN : w4.heap[wB.heap.size]? = some (.cells #[.int .i64 X.g0, .int .i64 X.g1] 61 (0, 0)) := hN.blk (by simp)
                  have cN : w4.cell? ⟨wB.heap.size, 1, none⟩ = some (.int .i64 X.g1) := by rw [cell_of_row _ _ _ _ _ _ bN]; rfl
                  have fN : w4.frozen? ⟨wB.heap.size, 1, none⟩ = false := by simp [World.frozen?, bN]
                  have bP : w4.heap[w2.heap.size]? = some (.cells #[.int .i64 0, .int .i64 40] 61 (0, 0)) := hN.blk (by simp)
                  have cP : w4.cell? ⟨w2.heap.size, 0, none⟩ = some (.int .i64 0) := by rw [cell_of_row _ _ _ _ _ _ bP]; rfl
                  have hN5 := hN.setb 1 (.int .i64 (X.g1 + 1))
                  have hN6 := hN5.pull (L1 := [_]) (L2 := [_, _, _, _, _, _, _])
                  have nod := HI.out.nodup
                  have hlt20 := HI.out.lt
                  have OLD' := fun A F wb => OLD.out.done1 nod hlt20 (Nat.le_trans HLL.out (by omega)) hi30 k40 k41 A F wb
                  have OP := Lib.hid (has_open hN6 rfl (a := 0) (s := 40) (g := X.g0) (by omega) (by omega) (by simp only [quiet]; omega) (by omega) (by omega) (by rw [show (quiet 120 k4 (putLog X.f 40 40 X.g1 (grp 100 ((i : Int) + 1) (fun _ => 3) xs))).now 0 = some (headA 0 40 X.g0 0) from (OLD' #[] [] 0).head0, Option.getD_some]))
                  have OLD2 := Lib.hid OLD'
                  clear CO h4 hN bN bP hN5 hN6 OLD' nod hlt20
                  go_wp2_with fail
                  refine OP.out.mono ?_
                  rintro e w6 ⟨wb6, rfl, h6⟩
                  -- new, disk, n, me, list, flags, has, other, places, ws
                  have hD6 := h6.drew
                  have g1 := hD6.walAt (wb := wb6) (b := b) (a := 0) (s := 40) (g := X.g0) (by simp)
                  have g2 := hD6.walAt (wb := X.wb1) (b := b) (a := 40) (s := 40) (g := X.g1 + 1) (by simp)
                  have bN : w6.drew.heap[wB.heap.size]? = some (.cells (#[.int .i64 X.g0, .int .i64 X.g1].setIfInBounds 1 (.int .i64 (X.g1 + 1))) 61 (0, 0)) := hD6.blk (by simp)
                  have cN0 : w6.drew.cell? ⟨wB.heap.size, 0, none⟩ = some (.int .i64 X.g0) := by rw [cell_of_row _ _ _ _ _ _ bN]; rfl
                  have cN1 : w6.drew.cell? ⟨wB.heap.size, 1, none⟩ = some (.int .i64 (X.g1 + 1)) := by rw [cell_of_row _ _ _ _ _ _ bN]; rfl
                  have bS : w6.drew.heap[(w2.heap.size + 1)]? = some (.cells #[pv X.wb0, pv X.wb1] 62 (0, 0)) := hD6.blk (by simp)
                  have cS : w6.drew.cell? ⟨(w2.heap.size + 1), 1, none⟩ = some (pv X.wb1) := by rw [cell_of_row _ _ _ _ _ _ bS]; rfl
                  have cSo : w6.drew.cell? ⟨(w2.heap.size + 1), 0, none⟩ = some (pv X.wb0) := by rw [cell_of_row _ _ _ _ _ _ bS]; rfl
                  have fS : w6.drew.frozen? ⟨(w2.heap.size + 1), 0, none⟩ = false := by simp [World.frozen?, bS]
                  have h7 := (hD6.pull (L1 := [_, _, _, _, _, _, _, _, _]) (L2 := [])).setb 0 (pv wb6)
                  -- ws, new, disk, n, me, list, flags, has, other, places
                  have h8 := h7.pull (L1 := [_, _, _]) (L2 := [_, _, _, _, _, _])
                  -- n, ws, new, disk, me, list, flags, has, other, places
                  have h9 := h8.swap
                  -- ws, n, new, disk, me, list, flags, has, other, places
                  have h10 := h9.pull (L1 := [_, _, _, _, _, _, _, _, _]) (L2 := [])
                  -- places, ws, n, new, disk, me, list, flags, has, other
                  have h11 := h10.pull (L1 := [_, _, _, _, _, _, _, _]) (L2 := [_])
                  -- has, places, ws, n, new, disk, me, list, flags, other
                  have h12 := h11.pull (L1 := [_, _, _, _, _, _]) (L2 := [_, _, _])
                  have h13 := h12.pull (L1 := [_, _, _, _, _]) (L2 := [_, _, _, _])
                  have h14 := h13.pull (L1 := [_, _, _, _, _, _]) (L2 := [_, _, _])
                  -- disk, log 0, log 1, has, places, ws, n, list, flags, other
                  have h15 := h14.firsts (L := [_, _, _, _, _, _, _]) (L2 := [_, _, _])
                  have fin : PInv w (w6.drew.setCell ⟨(w2.heap.size + 1), 0, none⟩ (pv wb6)) b (wB.heap.size + 1) w2.heap.size (w2.heap.size + 1) wB.heap.size (i + 1) ⟨fun t => if 20 ≤ t ∧ t - 20 ∈ xs then (i : Int) + 1 else X.H t, A, putLog X.f 40 40 X.g1 (grp 100 ((i : Int) + 1) (fun _ => 3) xs), k4, F4, X.g0, X.g1 + 1, wb6, X.wb1⟩ := ⟨HI.out.row, OLD2.out _ _ _, h15⟩
                  have FIN := Lib.hid fin
                  have G1 := Lib.hid g1
                  have G2 := Lib.hid g2
                  clear OP h6 hD6 bN bS h7 h8 h9 h10 h11 h12 h13 h14 h15 fin g1 g2 HI HLL OLD2 OLD HST cN fN cP
                  go_wp2_with fail
                  refine wp_region_flowR Lat [0, 0, 0, 0, 0, 0, 0, 0, 0, 0, 0, 0, 1, 0, 0, 0, 1, 0, 0, 0, 0, 0, 1, 1, 0, 0, 1, 0, 0] (by kernel_rfl) (by kernel_rfl) Lat.refl Lat.trans ?_
                  refine fr0 rfl (fun _ => rfl) ?_
                  simp only [Act.put, List.setIfInBounds_toArray, List.set_cons_succ, List.set_cons_zero]
                  refine fr0 (u := .bool false) rfl (fun w => (run_neq36 rfl rfl rfl w).trans rfl) ?_
                  simp only [Act.put, List.setIfInBounds_toArray, List.set_cons_succ, List.set_cons_zero]
                  refine fr0 rfl (fun _ => rfl) ?_
                  simp only [Act.put, List.setIfInBounds_toArray, List.set_cons_succ, List.set_cons_zero]
                  refine fr0 (by kernel_rfl) (fun _ => rfl) ?_
                  simp only [Act.put, List.setIfInBounds_toArray, List.set_cons_succ, List.set_cons_zero]
                  refine fr0 (u := .bool false) (by kernel_rfl) (run_eqlnil26 rfl rfl) ?_
                  simp only [Act.put, List.setIfInBounds_toArray, List.set_cons_succ, List.set_cons_zero]
                  refine fr0 (u := .bool false) rfl (fun _ => rfl) ?_
                  simp only [Act.put, List.setIfInBounds_toArray, List.set_cons_succ, List.set_cons_zero]
                  refine fr0 rfl (fun _ => rfl) ?_
                  simp only [Act.put, List.setIfInBounds_toArray, List.set_cons_succ, List.set_cons_zero]
                  refine fr0 (by kernel_rfl) (fun _ => rfl) ?_
                  simp only [Act.put, List.setIfInBounds_toArray, List.set_cons_succ, List.set_cons_zero]
                  refine fr0 (u := .bool false) (by kernel_rfl) (fun w => (run_neq36 rfl rfl rfl w).trans rfl) ?_
                  simp only [Act.put, List.setIfInBounds_toArray, List.set_cons_succ, List.set_cons_zero]
                  refine fr0 (u := .bool false) rfl (fun _ => rfl) ?_
                  simp only [Act.put, List.setIfInBounds_toArray, List.set_cons_succ, List.set_cons_zero]
                  refine fr0 rfl (fun _ => rfl) ?_
                  simp only [Act.put, List.setIfInBounds_toArray, List.set_cons_succ, List.set_cons_zero]
                  refine fr0 (by kernel_rfl) (fun _ => rfl) ?_
                  simp only [Act.put, List.setIfInBounds_toArray, List.set_cons_succ, List.set_cons_zero]
                  refine fr1c (u := .int .i64 X.g0) (by kernel_rfl) (fun x hx => does_groups (G1.out.lat hx) rfl rfl (groups_any (G1.out.lat hx))) ?_
                  simp only [Act.put, List.setIfInBounds_toArray, List.set_cons_succ, List.set_cons_zero]
                  refine fr0 (by kernel_rfl) (fun _ => rfl) ?_
                  simp only [Act.put, List.setIfInBounds_toArray, List.set_cons_succ, List.set_cons_zero]
                  refine fr0 (u := .int .i64 0) (by kernel_rfl) (fun w => (run_sub (by omega) (by omega) rfl rfl rfl w).trans rfl) ?_
                  simp only [Act.put, List.setIfInBounds_toArray, List.set_cons_succ, List.set_cons_zero]
                  refine fr0 (by kernel_rfl) (run_index61 (j := 0) (by omega) rfl rfl rfl) ?_
                  simp only [Act.put, List.setIfInBounds_toArray, List.set_cons_succ, List.set_cons_zero]
                  refine fr1 (u := .int .i64 X.g0) (by kernel_rfl) (fun x hx => run_load1 rfl rfl (hx.cell cN0) isAgg3) ?_
                  simp only [Act.put, List.setIfInBounds_toArray, List.set_cons_succ, List.set_cons_zero]
                  refine fr0 (u := .bool false) (by kernel_rfl) (fun w => (run_neq rfl rfl rfl w).trans (by simp)) ?_
                  simp only [Act.put, List.setIfInBounds_toArray, List.set_cons_succ, List.set_cons_zero]
                  refine fr0 (u := .bool false) rfl (fun _ => rfl) ?_
                  simp only [Act.put, List.setIfInBounds_toArray, List.set_cons_succ, List.set_cons_zero]
                  refine fr0 rfl (fun _ => rfl) ?_
                  simp only [Act.put, List.setIfInBounds_toArray, List.set_cons_succ, List.set_cons_zero]
                  refine fr0 (by kernel_rfl) (fun _ => rfl) ?_
                  simp only [Act.put, List.setIfInBounds_toArray, List.set_cons_succ, List.set_cons_zero]
                  refine fr0 (by kernel_rfl) (run_index62 (j := 1) (by omega) rfl rfl rfl) ?_
                  simp only [Act.put, List.setIfInBounds_toArray, List.set_cons_succ, List.set_cons_zero]
                  refine fr1 (u := pv X.wb1) (by kernel_rfl) (fun x hx => run_load1 rfl rfl (hx.cell cS) isAgg26) ?_
                  simp only [Act.put, List.setIfInBounds_toArray, List.set_cons_succ, List.set_cons_zero]
                  refine fr1c (u := .int .i64 (X.g1 + 1)) (by kernel_rfl) (fun x hx => does_groups (G2.out.lat hx) rfl rfl (groups_any (G2.out.lat hx))) ?_
                  simp only [Act.put, List.setIfInBounds_toArray, List.set_cons_succ, List.set_cons_zero]
                  refine fr0 (by kernel_rfl) (fun _ => rfl) ?_
                  simp only [Act.put, List.setIfInBounds_toArray, List.set_cons_succ, List.set_cons_zero]
                  refine fr0 (by kernel_rfl) (run_index61 (j := 1) (by omega) rfl rfl rfl) ?_
                  simp only [Act.put, List.setIfInBounds_toArray, List.set_cons_succ, List.set_cons_zero]
                  refine fr1 (u := .int .i64 (X.g1 + 1)) (by kernel_rfl) (fun x hx => run_load1 rfl rfl (hx.cell cN1) isAgg3) ?_
                  simp only [Act.put, List.setIfInBounds_toArray, List.set_cons_succ, List.set_cons_zero]
                  refine fr0 (u := .bool false) (by kernel_rfl) (fun w => (run_neq rfl rfl rfl w).trans (by simp)) ?_
                  simp only [Act.put, List.setIfInBounds_toArray, List.set_cons_succ, List.set_cons_zero]
                  refine fr0 (u := .bool false) rfl (fun _ => rfl) ?_
                  simp only [Act.put, List.setIfInBounds_toArray, List.set_cons_succ, List.set_cons_zero]
                  refine frnil ?_
                  show Exit.then _ _ _ _ _
                  generalize w6.drew = w7 at *
                  clear cN0 cN1 cS G1 G2
                  go_wp2
                  go_roundw
                  case rel => exact ⟨i + 1, _, by omega, by go_num, FIN.out⟩
                  case measure => simp [intOf]; omega
        · as_aux_lemma =>
          have HX := Lib.hid hh
          have hiN : i = min len 30 := by omega
          clear hh H0
          by_cases hL : len ≤ 30
          · have hiL : i = len := by omega
            clear hiN hlt hi
            subst hiL
            go_wp2
            have hx := ((HX.out.has.pull (L1 := [_, _, _]) (L2 := [_, _, _])).swap).two
            have H1 := Lib.hid hx
            clear hx
            go_loopw [23] (fun x wr => ∃ t : Nat, t ≤ 40 ∧ x = .int .i64 t ∧ Has w wr [DRes b X.F (quiet 120 X.k X.f), BRes (wB.heap.size + 1) (.cells X.A 63)]) (fun x _ => 40 - (intOf x).toNat)
            case atStart => exact ⟨0, by omega, rfl, H1.out⟩
            case round =>
              obtain ⟨t, ht, rfl, hE⟩ := hrel
              rename World => w8
              by_cases htl : t < 40
              · obtain ⟨r1, r2, r3⟩ := HX.out.old.rel t htl
                have RD := Lib.hid (read_ok hE.dat (80 + (t : Int)) (by rw [St.reach, if_neg (by simp [quiet]), if_neg (by simp only [quiet]; omega)]))
                have bH : w8.heap[(wB.heap.size + 1)]? = some (.cells X.A 63 (0, 0)) := hE.blk (by simp)
                have cH0 : w8.cell? ⟨(wB.heap.size + 1), t, none⟩ = some (.int .u8 (X.H t)) := by rw [cell_of_row _ _ _ _ _ _ bH]; exact HX.out.row.cell t htl
                have hszH : (wB.heap.size + 1) < w8.heap.size := (Array.getElem?_eq_some_iff.1 bH).1
                have HE := Lib.hid hE
                clear hE bH
                by_cases hz : X.H t = 0
                · rw [hz] at cH0
                  generalize ((quiet 120 X.k X.f).now (80 + (t : Int))).getD Z = c at RD
                  go_wp2_with (go_at_call 26; refine RD.out.mono ?_; rintro e w' ⟨rfl, rfl⟩)
                  have cH : (w8.alloc (.cells c 88)).drew.cell? ⟨(wB.heap.size + 1), t, none⟩ = some (.int .u8 0) := (World.cell?_alloc_lt w8 _ _ hszH).trans cH0
                  have H9 := Lib.hid (HE.out.alloc' (.cells c 88)).drew
                  refine wp_region_flowR Lat [0, 0, 0, 0, 0, 1, 0, 0, 0, 0, 0, 0, 0, 0, 0, 0, 0, 0] (by kernel_rfl) (by kernel_rfl) Lat.refl Lat.trans ?_
                  refine fr0 rfl (fun _ => rfl) ?_
                  simp only [Act.put, List.setIfInBounds_toArray, List.set_cons_succ, List.set_cons_zero]
                  refine fr0 (u := .bool false) rfl (fun w => (run_neq36 rfl rfl rfl w).trans rfl) ?_
                  simp only [Act.put, List.setIfInBounds_toArray, List.set_cons_succ, List.set_cons_zero]
                  refine fr0 rfl (fun _ => rfl) ?_
                  simp only [Act.put, List.setIfInBounds_toArray, List.set_cons_succ, List.set_cons_zero]
                  refine fr0 (by kernel_rfl) (fun _ => rfl) ?_
                  simp only [Act.put, List.setIfInBounds_toArray, List.set_cons_succ, List.set_cons_zero]
                  refine fr0 (by kernel_rfl) (run_index63 (j := t) htl rfl rfl rfl) ?_
                  simp only [Act.put, List.setIfInBounds_toArray, List.set_cons_succ, List.set_cons_zero]
                  refine fr1 (u := .int .u8 0) (by kernel_rfl) (fun x hx => run_load1 rfl rfl (hx.cell cH) isAgg5) ?_
                  simp only [Act.put, List.setIfInBounds_toArray, List.set_cons_succ, List.set_cons_zero]
                  refine fr0 (u := .bool false) (by kernel_rfl) (fun w => (run_gtr5 rfl rfl rfl w).trans rfl) ?_
                  simp only [Act.put, List.setIfInBounds_toArray, List.set_cons_succ, List.set_cons_zero]
                  refine fr0 (u := .bool false) (by kernel_rfl) (fun _ => rfl) ?_
                  simp only [Act.put, List.setIfInBounds_toArray, List.set_cons_succ, List.set_cons_zero]
                  refine frx (by kernel_rfl) ?_
                  simp only [Act.put, List.setIfInBounds_toArray, List.set_cons_succ, List.set_cons_zero]
                  refine frx (by kernel_rfl) ?_
                  simp only [Act.put, List.setIfInBounds_toArray, List.set_cons_succ, List.set_cons_zero]
                  refine frx (by kernel_rfl) ?_
                  simp only [Act.put, List.setIfInBounds_toArray, List.set_cons_succ, List.set_cons_zero]
                  refine frx (by kernel_rfl) ?_
                  simp only [Act.put, List.setIfInBounds_toArray, List.set_cons_succ, List.set_cons_zero]
                  refine frx (by kernel_rfl) ?_
                  simp only [Act.put, List.setIfInBounds_toArray, List.set_cons_succ, List.set_cons_zero]
                  refine frx (by kernel_rfl) ?_
                  simp only [Act.put, List.setIfInBounds_toArray, List.set_cons_succ, List.set_cons_zero]
                  refine frx (by kernel_rfl) ?_
                  simp only [Act.put, List.setIfInBounds_toArray, List.set_cons_succ, List.set_cons_zero]
                  refine frx (by kernel_rfl) ?_
                  simp only [Act.put, List.setIfInBounds_toArray, List.set_cons_succ, List.set_cons_zero]
                  refine fr0 (u := .bool false) (by kernel_rfl) (fun _ => rfl) ?_
                  simp only [Act.put, List.setIfInBounds_toArray, List.set_cons_succ, List.set_cons_zero]
                  refine fr0 (u := .bool false) rfl (fun _ => rfl) ?_
                  simp only [Act.put, List.setIfInBounds_toArray, List.set_cons_succ, List.set_cons_zero]
                  refine frnil ?_
                  show Exit.then _ _ _ _ _
                  clear cH cH0
                  go_wp2
                  go_roundw
                  case rel => exact ⟨t + 1, by omega, by go_num, H9.out⟩
                  case measure => simp [intOf]; omega
                · have hpos : 0 < X.H t := by omega
                  rw [show (quiet 120 X.k X.f).now (80 + (t : Int)) = some (fullB (X.H t) 3) from r3 hz, Option.getD_some, fullB_sec] at RD
                  go_wp2_with (go_at_call 26; refine RD.out.mono ?_; rintro e w' ⟨rfl, rfl⟩)
                  have hyb : (w8.alloc (.cells (sec (fullL (X.H t) 3)) 88)).drew.heap[w8.heap.size]? = some (.cells (sec (fullL (X.H t) 3)) 88 (0, 0)) := heap_alloc_last w8 _
                  have cH : (w8.alloc (.cells (sec (fullL (X.H t) 3)) 88)).drew.cell? ⟨(wB.heap.size + 1), t, none⟩ = some (.int .u8 (X.H t)) := (World.cell?_alloc_lt w8 _ _ hszH).trans cH0
                  have H9 := Lib.hid (HE.out.alloc' (.cells (sec (fullL (X.H t) 3)) 88)).drew
                  clear RD HE cH0
                  refine wp_region_flowR Lat [0, 0, 0, 0, 0, 1, 0, 0, 0, 1, 0, 0, 1, 2, 1, 0, 0, 0] (by kernel_rfl) (by kernel_rfl) Lat.refl Lat.trans ?_
                  generalize (w8.alloc (.cells (sec (fullL (X.H t) 3)) 88)).drew = w9 at *
                  refine fr0 rfl (fun _ => rfl) ?_
                  simp only [Act.put, List.setIfInBounds_toArray, List.set_cons_succ, List.set_cons_zero]
                  refine fr0 (u := .bool false) rfl (fun w => (run_neq36 rfl rfl rfl w).trans rfl) ?_
                  simp only [Act.put, List.setIfInBounds_toArray, List.set_cons_succ, List.set_cons_zero]
                  refine fr0 rfl (fun _ => rfl) ?_
                  simp only [Act.put, List.setIfInBounds_toArray, List.set_cons_succ, List.set_cons_zero]
                  refine fr0 (by kernel_rfl) (fun _ => rfl) ?_
                  simp only [Act.put, List.setIfInBounds_toArray, List.set_cons_succ, List.set_cons_zero]
                  refine fr0 (by kernel_rfl) (run_index63 (j := t) htl rfl rfl rfl) ?_
                  simp only [Act.put, List.setIfInBounds_toArray, List.set_cons_succ, List.set_cons_zero]
                  refine fr1 (u := .int .u8 (X.H t)) (by kernel_rfl) (fun x hx => run_load1 rfl rfl (hx.cell cH) isAgg5) ?_
                  simp only [Act.put, List.setIfInBounds_toArray, List.set_cons_succ, List.set_cons_zero]
                  refine fr0 (u := .bool true) (by kernel_rfl) (fun w => (run_gtr5 rfl rfl rfl w).trans (by rw [decide_eq_true hpos])) ?_
                  simp only [Act.put, List.setIfInBounds_toArray, List.set_cons_succ, List.set_cons_zero]
                  refine fr0 (u := .bool true) (by kernel_rfl) (fun _ => rfl) ?_
                  simp only [Act.put, List.setIfInBounds_toArray, List.set_cons_succ, List.set_cons_zero]
                  refine fr0 (by kernel_rfl) (fun _ => rfl) ?_
                  simp only [Act.put, List.setIfInBounds_toArray, List.set_cons_succ, List.set_cons_zero]
                  refine fr1 (u := .string (strOf (fullL (X.H t) 3))) (by kernel_rfl) (fun x hx => run_str (fullL_len _ _) rfl rfl (hx.at hyb)) ?_
                  simp only [Act.put, List.setIfInBounds_toArray, List.set_cons_succ, List.set_cons_zero]
                  refine fr0 (by kernel_rfl) (fun _ => rfl) ?_
                  simp only [Act.put, List.setIfInBounds_toArray, List.set_cons_succ, List.set_cons_zero]
                  refine fr0 (by kernel_rfl) (run_index63 (j := t) htl rfl rfl rfl) ?_
                  simp only [Act.put, List.setIfInBounds_toArray, List.set_cons_succ, List.set_cons_zero]
                  refine fr1 (u := .int .u8 (X.H t)) (by kernel_rfl) (fun x hx => run_load1 rfl rfl (hx.cell cH) isAgg5) ?_
                  simp only [Act.put, List.setIfInBounds_toArray, List.set_cons_succ, List.set_cons_zero]
                  refine fr2 (u := .slice (some ⟨w9.heap.size, 0, none⟩) 64 64) (w' := w9.alloc (.cells (fullB (X.H t) 3) 5)) (by kernel_rfl) (Lat.alloc _ _) (does_full rfl rfl rfl) ?_
                  have hzz := heap_alloc_last w9 (.cells (fullB (X.H t) 3) 5)
                  rw [fullB_sec] at hzz ⊢
                  simp only [Act.put, List.setIfInBounds_toArray, List.set_cons_succ, List.set_cons_zero]
                  refine fr1 (u := .string (strOf (fullL (X.H t) 3))) (by kernel_rfl) (fun x hx => run_str (fullL_len _ _) rfl rfl (hx.at hzz)) ?_
                  simp only [Act.put, List.setIfInBounds_toArray, List.set_cons_succ, List.set_cons_zero]
                  refine fr0 (u := .bool false) (by kernel_rfl) (run_neqS rfl rfl rfl) ?_
                  simp only [Act.put, List.setIfInBounds_toArray, List.set_cons_succ, List.set_cons_zero]
                  refine fr0 (u := .bool false) (by kernel_rfl) (fun _ => rfl) ?_
                  simp only [Act.put, List.setIfInBounds_toArray, List.set_cons_succ, List.set_cons_zero]
                  refine fr0 (u := .bool false) rfl (fun _ => rfl) ?_
                  simp only [Act.put, List.setIfInBounds_toArray, List.set_cons_succ, List.set_cons_zero]
                  refine frnil ?_
                  show Exit.then _ _ _ _ _
                  have H10 := Lib.hid (H9.out.alloc' (.cells (sec (fullL (X.H t) 3)) 5))
                  clear hyb cH hzz H9
                  go_wp2
                  go_roundw
                  case rel => exact ⟨t + 1, by omega, by go_num, H10.out⟩
                  case measure => simp [intOf]; omega
              · have hte : t = 40 := by omega
                subst hte
                have O := Lib.hid hE.only
                clear hE
                go_wp2
                go_ret
                exact ⟨rfl, O.out⟩
          · have hiL : i = 30 := by omega
            clear hiN hlt hi
            subst hiL
            go_wp2
            have hx := ((HX.out.has.pull (L1 := [_, _, _]) (L2 := [_, _, _])).swap).two
            have H1 := Lib.hid hx
            clear hx
            go_loopw [23] (fun x wr => ∃ t : Nat, t ≤ 40 ∧ x = .int .i64 t ∧ Has w wr [DRes b X.F (quiet 120 X.k X.f), BRes (wB.heap.size + 1) (.cells X.A 63)]) (fun x _ => 40 - (intOf x).toNat)
            case atStart => exact ⟨0, by omega, rfl, H1.out⟩
            case round =>
              obtain ⟨t, ht, rfl, hE⟩ := hrel
              rename World => w8
              by_cases htl : t < 40
              · obtain ⟨r1, r2, r3⟩ := HX.out.old.rel t htl
                have RD := Lib.hid (read_ok hE.dat (80 + (t : Int)) (by rw [St.reach, if_neg (by simp [quiet]), if_neg (by simp only [quiet]; omega)]))
                have bH : w8.heap[(wB.heap.size + 1)]? = some (.cells X.A 63 (0, 0)) := hE.blk (by simp)
                have cH0 : w8.cell? ⟨(wB.heap.size + 1), t, none⟩ = some (.int .u8 (X.H t)) := by rw [cell_of_row _ _ _ _ _ _ bH]; exact HX.out.row.cell t htl
                have hszH : (wB.heap.size + 1) < w8.heap.size := (Array.getElem?_eq_some_iff.1 bH).1
                have HE := Lib.hid hE
                clear hE bH
                by_cases hz : X.H t = 0
                · rw [hz] at cH0
                  generalize ((quiet 120 X.k X.f).now (80 + (t : Int))).getD Z = c at RD
                  go_wp2_with (go_at_call 26; refine RD.out.mono ?_; rintro e w' ⟨rfl, rfl⟩)
                  have cH : (w8.alloc (.cells c 88)).drew.cell? ⟨(wB.heap.size + 1), t, none⟩ = some (.int .u8 0) := (World.cell?_alloc_lt w8 _ _ hszH).trans cH0
                  have H9 := Lib.hid (HE.out.alloc' (.cells c 88)).drew
                  refine wp_region_flowR Lat [0, 0, 0, 0, 0, 1, 0, 0, 0, 0, 0, 0, 0, 0, 0, 0, 0, 0] (by kernel_rfl) (by kernel_rfl) Lat.refl Lat.trans ?_
                  refine fr0 rfl (fun _ => rfl) ?_
                  simp only [Act.put, List.setIfInBounds_toArray, List.set_cons_succ, List.set_cons_zero]
                  refine fr0 (u := .bool false) rfl (fun w => (run_neq36 rfl rfl rfl w).trans rfl) ?_
                  simp only [Act.put, List.setIfInBounds_toArray, List.set_cons_succ, List.set_cons_zero]
                  refine fr0 rfl (fun _ => rfl) ?_
                  simp only [Act.put, List.setIfInBounds_toArray, List.set_cons_succ, List.set_cons_zero]
                  refine fr0 (by kernel_rfl) (fun _ => rfl) ?_
                  simp only [Act.put, List.setIfInBounds_toArray, List.set_cons_succ, List.set_cons_zero]
                  refine fr0 (by kernel_rfl) (run_index63 (j := t) htl rfl rfl rfl) ?_
                  simp only [Act.put, List.setIfInBounds_toArray, List.set_cons_succ, List.set_cons_zero]
                  refine fr1 (u := .int .u8 0) (by kernel_rfl) (fun x hx => run_load1 rfl rfl (hx.cell cH) isAgg5) ?_
                  simp only [Act.put, List.setIfInBounds_toArray, List.set_cons_succ, List.set_cons_zero]
                  refine fr0 (u := .bool false) (by kernel_rfl) (fun w => (run_gtr5 rfl rfl rfl w).trans rfl) ?_
                  simp only [Act.put, List.setIfInBounds_toArray, List.set_cons_succ, List.set_cons_zero]
                  refine fr0 (u := .bool false) (by kernel_rfl) (fun _ => rfl) ?_
                  simp only [Act.put, List.setIfInBounds_toArray, List.set_cons_succ, List.set_cons_zero]
                  refine frx (by kernel_rfl) ?_
                  simp only [Act.put, List.setIfInBounds_toArray, List.set_cons_succ, List.set_cons_zero]
                  refine frx (by kernel_rfl) ?_
                  simp only [Act.put, List.setIfInBounds_toArray, List.set_cons_succ, List.set_cons_zero]
                  refine frx (by kernel_rfl) ?_
                  simp only [Act.put, List.setIfInBounds_toArray, List.set_cons_succ, List.set_cons_zero]
                  refine frx (by kernel_rfl) ?_
                  simp only [Act.put, List.setIfInBounds_toArray, List.set_cons_succ, List.set_cons_zero]
                  refine frx (by kernel_rfl) ?_
                  simp only [Act.put, List.setIfInBounds_toArray, List.set_cons_succ, List.set_cons_zero]
                  refine frx (by kernel_rfl) ?_
                  simp only [Act.put, List.setIfInBounds_toArray, List.set_cons_succ, List.set_cons_zero]
                  refine frx (by kernel_rfl) ?_
                  simp only [Act.put, List.setIfInBounds_toArray, List.set_cons_succ, List.set_cons_zero]
                  refine frx (by kernel_rfl) ?_
                  simp only [Act.put, List.setIfInBounds_toArray, List.set_cons_succ, List.set_cons_zero]
                  refine fr0 (u := .bool false) (by kernel_rfl) (fun _ => rfl) ?_
                  simp only [Act.put, List.setIfInBounds_toArray, List.set_cons_succ, List.set_cons_zero]
                  refine fr0 (u := .bool false) rfl (fun _ => rfl) ?_
                  simp only [Act.put, List.setIfInBounds_toArray, List.set_cons_succ, List.set_cons_zero]
                  refine frnil ?_
                  show Exit.then _ _ _ _ _
                  clear cH cH0
                  go_wp2
                  go_roundw
                  case rel => exact ⟨t + 1, by omega, by go_num, H9.out⟩
                  case measure => simp [intOf]; omega
                · have hpos : 0 < X.H t := by omega
                  rw [show (quiet 120 X.k X.f).now (80 + (t : Int)) = some (fullB (X.H t) 3) from r3 hz, Option.getD_some, fullB_sec] at RD
                  go_wp2_with (go_at_call 26; refine RD.out.mono ?_; rintro e w' ⟨rfl, rfl⟩)
                  have hyb : (w8.alloc (.cells (sec (fullL (X.H t) 3)) 88)).drew.heap[w8.heap.size]? = some (.cells (sec (fullL (X.H t) 3)) 88 (0, 0)) := heap_alloc_last w8 _
                  have cH : (w8.alloc (.cells (sec (fullL (X.H t) 3)) 88)).drew.cell? ⟨(wB.heap.size + 1), t, none⟩ = some (.int .u8 (X.H t)) := (World.cell?_alloc_lt w8 _ _ hszH).trans cH0
                  have H9 := Lib.hid (HE.out.alloc' (.cells (sec (fullL (X.H t) 3)) 88)).drew
                  clear RD HE cH0
                  refine wp_region_flowR Lat [0, 0, 0, 0, 0, 1, 0, 0, 0, 1, 0, 0, 1, 2, 1, 0, 0, 0] (by kernel_rfl) (by kernel_rfl) Lat.refl Lat.trans ?_
                  generalize (w8.alloc (.cells (sec (fullL (X.H t) 3)) 88)).drew = w9 at *
                  refine fr0 rfl (fun _ => rfl) ?_
                  simp only [Act.put, List.setIfInBounds_toArray, List.set_cons_succ, List.set_cons_zero]
                  refine fr0 (u := .bool false) rfl (fun w => (run_neq36 rfl rfl rfl w).trans rfl) ?_
                  simp only [Act.put, List.setIfInBounds_toArray, List.set_cons_succ, List.set_cons_zero]
                  refine fr0 rfl (fun _ => rfl) ?_
                  simp only [Act.put, List.setIfInBounds_toArray, List.set_cons_succ, List.set_cons_zero]
                  refine fr0 (by kernel_rfl) (fun _ => rfl) ?_
                  simp only [Act.put, List.setIfInBounds_toArray, List.set_cons_succ, List.set_cons_zero]
                  refine fr0 (by kernel_rfl) (run_index63 (j := t) htl rfl rfl rfl) ?_
                  simp only [Act.put, List.setIfInBounds_toArray, List.set_cons_succ, List.set_cons_zero]
                  refine fr1 (u := .int .u8 (X.H t)) (by kernel_rfl) (fun x hx => run_load1 rfl rfl (hx.cell cH) isAgg5) ?_
                  simp only [Act.put, List.setIfInBounds_toArray, List.set_cons_succ, List.set_cons_zero]
                  refine fr0 (u := .bool true) (by kernel_rfl) (fun w => (run_gtr5 rfl rfl rfl w).trans (by rw [decide_eq_true hpos])) ?_
                  simp only [Act.put, List.setIfInBounds_toArray, List.set_cons_succ, List.set_cons_zero]
                  refine fr0 (u := .bool true) (by kernel_rfl) (fun _ => rfl) ?_
                  simp only [Act.put, List.setIfInBounds_toArray, List.set_cons_succ, List.set_cons_zero]
                  refine fr0 (by kernel_rfl) (fun _ => rfl) ?_
                  simp only [Act.put, List.setIfInBounds_toArray, List.set_cons_succ, List.set_cons_zero]
                  refine fr1 (u := .string (strOf (fullL (X.H t) 3))) (by kernel_rfl) (fun x hx => run_str (fullL_len _ _) rfl rfl (hx.at hyb)) ?_
                  simp only [Act.put, List.setIfInBounds_toArray, List.set_cons_succ, List.set_cons_zero]
                  refine fr0 (by kernel_rfl) (fun _ => rfl) ?_
                  simp only [Act.put, List.setIfInBounds_toArray, List.set_cons_succ, List.set_cons_zero]
                  refine fr0 (by kernel_rfl) (run_index63 (j := t) htl rfl rfl rfl) ?_
                  simp only [Act.put, List.setIfInBounds_toArray, List.set_cons_succ, List.set_cons_zero]
                  refine fr1 (u := .int .u8 (X.H t)) (by kernel_rfl) (fun x hx => run_load1 rfl rfl (hx.cell cH) isAgg5) ?_
                  simp only [Act.put, List.setIfInBounds_toArray, List.set_cons_succ, List.set_cons_zero]
                  refine fr2 (u := .slice (some ⟨w9.heap.size, 0, none⟩) 64 64) (w' := w9.alloc (.cells (fullB (X.H t) 3) 5)) (by kernel_rfl) (Lat.alloc _ _) (does_full rfl rfl rfl) ?_
                  have hzz := heap_alloc_last w9 (.cells (fullB (X.H t) 3) 5)
                  rw [fullB_sec] at hzz ⊢
                  simp only [Act.put, List.setIfInBounds_toArray, List.set_cons_succ, List.set_cons_zero]
                  refine fr1 (u := .string (strOf (fullL (X.H t) 3))) (by kernel_rfl) (fun x hx => run_str (fullL_len _ _) rfl rfl (hx.at hzz)) ?_
                  simp only [Act.put, List.setIfInBounds_toArray, List.set_cons_succ, List.set_cons_zero]
                  refine fr0 (u := .bool false) (by kernel_rfl) (run_neqS rfl rfl rfl) ?_
                  simp only [Act.put, List.setIfInBounds_toArray, List.set_cons_succ, List.set_cons_zero]
                  refine fr0 (u := .bool false) (by kernel_rfl) (fun _ => rfl) ?_
                  simp only [Act.put, List.setIfInBounds_toArray, List.set_cons_succ, List.set_cons_zero]
                  refine fr0 (u := .bool false) rfl (fun _ => rfl) ?_
                  simp only [Act.put, List.setIfInBounds_toArray, List.set_cons_succ, List.set_cons_zero]
                  refine frnil ?_
                  show Exit.then _ _ _ _ _
                  have H10 := Lib.hid (H9.out.alloc' (.cells (sec (fullL (X.H t) 3)) 5))
                  clear hyb cH hzz H9
                  go_wp2
                  go_roundw
                  case rel => exact ⟨t + 1, by omega, by go_num, H10.out⟩
                  case measure => simp [intOf]; omega
              · have hte : t = 40 := by omega
                subst hte
                have O := Lib.hid hE.only
                clear hE
                go_wp2
                go_ret
                exact ⟨rfl, O.out⟩
end Go.Proofs.Ytfkpehefofihmaa
