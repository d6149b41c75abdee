/- A disk does any calls as the document says: the walk of the law, for more than 300 calls. -/
import Derived.Test.YtabddepidhfelaaR8
set_option linter.unusedSimpArgs false
set_option linter.unusedVariables false
namespace Go.Proofs.Ytabddepidhfelaa
open Go.RowKit

set_option maxRecDepth 100000 in
set_option maxHeartbeats 16000000 in
theorem plays_in1 (w : World) (N : Nat) (hN1 : 1 ≤ N) (hN2 : N ≤ 8192) (a : Option Addr) (len cap : Nat) (kd at_ n_ by_ : Nat → Int) (kp : Nat → Value) (keep : Nat → List Int) (hl : len ≤ 9223372036854775807) (ho : PlayAt w a len kd at_ n_ by_ kp keep) (hc0 : 300 < len) :
    Calls Try.prog 3 #[.int .i64 N, .slice a len cap] w fun e w' => e = .returned (.bool true) ∧ Only [] w w' := by
  have HO := Lib.hid ho
  clear ho
  go_enter Try.func3, Try.ntmps3
  go_wp2_with fail
  refine (shown_any w).mono ?_
  rintro e w1 ⟨rfl, o1⟩
  have h1 : Has w w1 [] := (Has.start w).later o1
  have NW := Lib.hid (has_new h1 N (by omega) (by omega))
  clear h1 o1
  go_wp2_with fail
  refine NW.out.mono ?_
  rintro e w2 ⟨bx, Fx, rfl, h2⟩
  have RN := Lib.hid (has_rnew h2 N hN1 hN2)
  clear NW h2
  go_wp2_with fail
  refine RN.out.mono ?_
  rintro e w3 ⟨ry, G, rfl, h3⟩
  have CL := Lib.hid (has_clone h3.swap (by simp [St.new]))
  clear RN h3
  go_wp2_with fail
  refine CL.out.mono ?_
  rintro e w4 ⟨bz, Fz, rfl, h4⟩
  have RC := Lib.hid (has_rclone1 h4.rot3)
  clear CL h4
  go_wp2_with fail
  refine RC.out.mono ?_
  rintro e w5 ⟨rv, rfl, h5⟩
  have H5 := Lib.hid h5.pswap.rot3.rot3.swap
  clear RC h5
  go_wp2_with fail
  go_loopw [6, 8, 10, 11, 12] (fun vx vy vz vw vi wr => ∃ k bx ry bz rv : Nat, k ≤ len ∧ k ≤ 300 ∧ vx = .pointer (some ⟨bx, 0, none⟩) ∧ vy = .pointer (some ⟨ry, 0, none⟩) ∧ vz = .pointer (some ⟨bz, 0, none⟩) ∧ vw = .pointer (some ⟨rv, 0, none⟩) ∧ vi = .int .i64 k ∧ PlayRel w bx ry bz rv k wr) (fun _ _ _ _ i _ => 300 - (intOf i).toNat)
  case atStart => exact ⟨0, bx, ry, bz, rv, by omega, by omega, rfl, rfl, rfl, rfl, rfl, _, _, _, _, _, _, _, H5.out, Sim.new N, Sim.new N, ⟨by simp [RS.new], by simp [RS.new]⟩, ⟨by simp [RS.new], by simp [RS.new]⟩⟩
  case round =>
    clear H5
    obtain ⟨k, bx, ry, bz, rv, hk1, hk2, rfl, rfl, rfl, rfl, rfl, Fx, Sx, Fz, Sz, G, Ry, Rv, h, sx, sz, bdy, bdv⟩ := hrel
    by_cases hlt : k < len ∧ k < 300
    · obtain ⟨hlt1, hlt2⟩ := hlt
      obtain ⟨g, o, rfl, hg, q0, q1, q2, q3, q4⟩ := HO.out.cell k hlt1
      obtain ⟨⟨r1, r2⟩, ⟨r3, r4⟩⟩ := HO.out.rg k hlt1
      obtain ⟨hkeep, hkl⟩ := HO.out.kept k hlt1
      obtain ⟨ka, kcap, hkp, _, _⟩ := hkeep [] (by simp)
      rw [hkp] at q4
      have bl := h.only.block g hg (by simp)
      have p0 := (World.cell?_of_block (w := w) (a := ⟨g, o + k * 5, none⟩) bl).trans q0
      have p1 := (World.cell?_of_block (w := w) (a := ⟨g, o + k * 5 + 1, none⟩) bl).trans q1
      have p2 := (World.cell?_of_block (w := w) (a := ⟨g, o + k * 5 + 2, none⟩) bl).trans q2
      have p3 := (World.cell?_of_block (w := w) (a := ⟨g, o + k * 5 + 3, none⟩) bl).trans q3
      have p4 := (World.cell?_of_block (w := w) (a := ⟨g, o + k * 5 + 4, none⟩) bl).trans q4
      have h6 := (h.alloc (.cells #[.int .i64 (kd k), .int .i64 (at_ k), .int .i64 (n_ k), .int .u8 (by_ k), .slice ka (keep k).length kcap] 35)).pull3.pull3.pull3
      have SX := Lib.hid sx
      have SZ := Lib.hid sz
      have BY := Lib.hid bdy
      have BV := Lib.hid bdv
      have KH := Lib.hid (fun x => kind_any (kd k) 9 x r1 r2 (by omega) (by omega))
      have kb := kindF_bd (kd k) 9 (by omega)
      have H6 := Lib.hid h6
      clear h sx sz bdy bdv bl h6 q0 q1 q2 q3 q4
      go_wp2_with fail
      generalize wr.heap.size = go at *
      generalize wr.alloc (.cells #[.int .i64 (kd k), .int .i64 (at_ k), .int .i64 (n_ k), .int .u8 (by_ k), .slice ka (keep k).length kcap] 35) = w1 at *
      clear p0 p1 p2 p3 p4
      have hκ : kindF (kd k) 9 = 0 ∨ kindF (kd k) 9 = 1 ∨ kindF (kd k) 9 = 2 ∨ kindF (kd k) 9 = 3 ∨ kindF (kd k) 9 = 4 ∨ kindF (kd k) 9 = 5 ∨ kindF (kd k) 9 = 6 ∨ kindF (kd k) 9 = 7 ∨ kindF (kd k) 9 = 8 := by omega
      clear kb
      rcases hκ with hκ | hκ | hκ | hκ | hκ | hκ | hκ | hκ | hκ
      · simp only [hκ] at KH
        refine (KH.out _).mono ?_
        rintro e w' ⟨rfl, rfl⟩
        obtain ⟨c0, c1, c2, c3, c4⟩ := op_cells (H6.out.blk (g := go) (o := .cells #[.int .i64 (kd k), .int .i64 (at_ k), .int .i64 (n_ k), .int .u8 (by_ k), .slice ka (keep k).length kcap] 35) (by simp))
        go_wp2_with fail
        refine (full_any (by_ k) _).mono ?_
        rintro e w' ⟨rfl, rfl⟩
        have hgo : go < w1.heap.size := (Array.getElem?_eq_some_iff.1 (H6.out.blk (g := go) (o := .cells #[.int .i64 (kd k), .int .i64 (at_ k), .int .i64 (n_ k), .int .u8 (by_ k), .slice ka (keep k).length kcap] 35) (by simp))).1
        go_wp2_with fail
        refine (KH.out _).mono ?_
        rintro e w' ⟨rfl, rfl⟩
        go_wp2_with fail
        have H7 := Lib.hid (H6.out.alloc (.cells (fullA (by_ k)) 5))
        have HA := Lib.hid (fullA_row (by_ k))
        clear H6 KH hgo c0 c1 c2 c3 c4
        generalize w1.heap.size = gb at *
        generalize w1.alloc (.cells (fullA (by_ k)) 5) = w2 at *
        obtain ⟨c0, c1, c2, c3, c4⟩ := op_cells (H7.out.blk (g := go) (o := .cells #[.int .i64 (kd k), .int .i64 (at_ k), .int .i64 (n_ k), .int .u8 (by_ k), .slice ka (keep k).length kcap] 35) (by simp))
        have WR := has_wr (gb := gb) (A := (fullA (by_ k))) (m := 64) (c := (by_ k)) H7.out.swap (by simp) HA.out (at_ k) (by rw [SX.out.steps]; have := BY.out.N; omega) (by rw [SX.out.pend]; have := BY.out.L; omega)
        rw [(SX.out.wr (at_ k) 64 (fullA (by_ k))).1] at WR
        refine WR.mono ?_
        rintro e w8 ⟨rfl, F8, h8⟩
        have H8 := Lib.hid h8.pull3
        clear WR h8 H7 c0 c1 c2 c3 c4
        have RW := Lib.hid (has_rwr (gb := gb) (A := (fullA (by_ k))) (m := 64) (c := (by_ k)) H8.out (by simp) HA.out (at_ k) (by have := BY.out.N; omega) (by have := BY.out.L; omega))
        obtain ⟨c0, c1, c2, c3, c4⟩ := op_cells (H8.out.blk (g := go) (o := .cells #[.int .i64 (kd k), .int .i64 (at_ k), .int .i64 (n_ k), .int .u8 (by_ k), .slice ka (keep k).length kcap] 35) (by simp))
        go_wp2_with fail
        refine RW.out.mono ?_
        rintro e w9 ⟨rfl, G9, h9⟩
        have H9 := Lib.hid h9.rot3
        have SX9 := Lib.hid (SX.out.wr (at_ k) 64 (fullA (by_ k))).2
        have BY9 := Lib.hid (BY.out.wr (at_ k) 64 (fullA (by_ k)))
        have SZ9 := SZ
        have BV9 := Lib.hid (BV.out.mono (k' := k + 1) (by omega))
        have hsz := HA.out.size
        clear RW h9 H8 c0 c1 c2 c3 c4 HA
        generalize (Ry.doWr (at_ k) 64 (fullA (by_ k))).1 = err at *
        generalize (Ry.doWr (at_ k) 64 (fullA (by_ k))).2 = Ry9 at *
        generalize (Sx.doWr (at_ k) 64 (fullA (by_ k))).2 = Sx9 at *
        clear SX SZ BY BV
        have SX := SX9
        have SZ := SZ9
        have BY := BY9
        have BV := BV9
        clear SX9 SZ9 BY9 BV9
        have hne : (err != err) = false := by simp
        go_wp2_with fail
        go_loopw [17] (fun q wq => ∃ (j : Nat) (A' : Array Value), j ≤ 64 ∧ q = .int .i64 j ∧ A'.size = 64 ∧ Has w wq [BRes gb (.cells A' 5), PRes ry rv G9 Ry9 Rv, DRes bx F8 Sx9, DRes bz Fz Sz, BRes go (.cells #[.int .i64 (kd k), .int .i64 (at_ k), .int .i64 (n_ k), .int .u8 (by_ k), .slice ka (keep k).length kcap] 35)]) (fun q _ => 64 - (intOf q).toNat)
        case atStart => exact ⟨0, (fullA (by_ k)), by omega, rfl, hsz, H9.out⟩
        case round =>
          clear H9 hsz
          obtain ⟨j, A', hj, rfl, hsz, hq⟩ := hrel
          by_cases hjm : j < 64
          · obtain ⟨⟨u0, hu0⟩, hfz, hnx⟩ := has_put (i := j) hq (by omega) (.int .u8 98)
            have NX := Lib.hid hnx
            clear hq hnx
            go_wp2
            go_roundw
            case rel => exact ⟨j + 1, _, by omega, by go_num, by simpa using hsz, NX.out⟩
            case measure => simp [intOf]; omega
          · have H := Lib.hid hq.drop.rot3.rot3
            clear hq
            obtain ⟨c0, c1, c2, c3, c4⟩ := op_cells (H.out.blk (g := go) (o := .cells #[.int .i64 (kd k), .int .i64 (at_ k), .int .i64 (n_ k), .int .u8 (by_ k), .slice ka (keep k).length kcap] 35) (by simp))
            have T1 := Lib.hid (alike_any H.out.dat (H.out.rot3.pat).1 SX.out (at_ k) (by have := BY.out.L; omega))
            go_wp2_with fail
            refine T1.out.mono ?_
            rintro e wt1 ⟨rfl, ot1⟩
            have H1 := Lib.hid (H.out.later ot1)
            clear T1 H ot1 c0 c1 c2 c3 c4
            obtain ⟨c0, c1, c2, c3, c4⟩ := op_cells (H1.out.blk (g := go) (o := .cells #[.int .i64 (kd k), .int .i64 (at_ k), .int .i64 (n_ k), .int .u8 (by_ k), .slice ka (keep k).length kcap] 35) (by simp))
            have T2 := Lib.hid (alike_any H1.out.swap.dat (H1.out.rot3.pat).2.1 SZ.out (at_ k) (by have := BV.out.L; omega))
            go_wp2_with fail
            refine T2.out.mono ?_
            rintro e wt2 ⟨rfl, ot2⟩
            have H2 := Lib.hid (H1.out.later ot2).pull3.drop
            clear T2 H1 ot2 c0 c1 c2 c3 c4
            go_wp2
            go_roundw
            case rel => exact ⟨k + 1, _, _, _, _, by omega, by omega, rfl, rfl, rfl, rfl, by go_num, _, _, _, _, _, _, _, H2.out, SX.out, SZ.out, BY.out, BV.out⟩
            case measure => simp [intOf]; omega
      · simp only [hκ] at KH
        refine (KH.out _).mono ?_
        rintro e w' ⟨rfl, rfl⟩
        obtain ⟨c0, c1, c2, c3, c4⟩ := op_cells (H6.out.blk (g := go) (o := .cells #[.int .i64 (kd k), .int .i64 (at_ k), .int .i64 (n_ k), .int .u8 (by_ k), .slice ka (keep k).length kcap] 35) (by simp))
        go_wp2_with fail
        refine (full_any (by_ k) _).mono ?_
        rintro e w' ⟨rfl, rfl⟩
        have hgo : go < w1.heap.size := (Array.getElem?_eq_some_iff.1 (H6.out.blk (g := go) (o := .cells #[.int .i64 (kd k), .int .i64 (at_ k), .int .i64 (n_ k), .int .u8 (by_ k), .slice ka (keep k).length kcap] 35) (by simp))).1
        go_wp2_with fail
        refine (KH.out _).mono ?_
        rintro e w' ⟨rfl, rfl⟩
        go_wp2_with fail
        have H7 := Lib.hid (H6.out.alloc (.cells (fullA (by_ k)) 5))
        have HA := Lib.hid (fullA_row (by_ k))
        clear H6 KH hgo c0 c1 c2 c3 c4
        generalize w1.heap.size = gb at *
        generalize w1.alloc (.cells (fullA (by_ k)) 5) = w2 at *
        obtain ⟨c0, c1, c2, c3, c4⟩ := op_cells (H7.out.blk (g := go) (o := .cells #[.int .i64 (kd k), .int .i64 (at_ k), .int .i64 (n_ k), .int .u8 (by_ k), .slice ka (keep k).length kcap] 35) (by simp))
        have WR := has_wr (gb := gb) (A := (fullA (by_ k))) (m := 64) (c := (by_ k)) H7.out.swap (by simp) HA.out (at_ k) (by rw [SX.out.steps]; have := BY.out.N; omega) (by rw [SX.out.pend]; have := BY.out.L; omega)
        rw [(SX.out.wr (at_ k) 64 (fullA (by_ k))).1] at WR
        refine WR.mono ?_
        rintro e w8 ⟨rfl, F8, h8⟩
        have H8 := Lib.hid h8.pull3
        clear WR h8 H7 c0 c1 c2 c3 c4
        have RW := Lib.hid (has_rwr (gb := gb) (A := (fullA (by_ k))) (m := 64) (c := (by_ k)) H8.out (by simp) HA.out (at_ k) (by have := BY.out.N; omega) (by have := BY.out.L; omega))
        obtain ⟨c0, c1, c2, c3, c4⟩ := op_cells (H8.out.blk (g := go) (o := .cells #[.int .i64 (kd k), .int .i64 (at_ k), .int .i64 (n_ k), .int .u8 (by_ k), .slice ka (keep k).length kcap] 35) (by simp))
        go_wp2_with fail
        refine RW.out.mono ?_
        rintro e w9 ⟨rfl, G9, h9⟩
        have H9 := Lib.hid h9.rot3
        have SX9 := Lib.hid (SX.out.wr (at_ k) 64 (fullA (by_ k))).2
        have BY9 := Lib.hid (BY.out.wr (at_ k) 64 (fullA (by_ k)))
        have SZ9 := SZ
        have BV9 := Lib.hid (BV.out.mono (k' := k + 1) (by omega))
        have hsz := HA.out.size
        clear RW h9 H8 c0 c1 c2 c3 c4 HA
        generalize (Ry.doWr (at_ k) 64 (fullA (by_ k))).1 = err at *
        generalize (Ry.doWr (at_ k) 64 (fullA (by_ k))).2 = Ry9 at *
        generalize (Sx.doWr (at_ k) 64 (fullA (by_ k))).2 = Sx9 at *
        clear SX SZ BY BV
        have SX := SX9
        have SZ := SZ9
        have BY := BY9
        have BV := BV9
        clear SX9 SZ9 BY9 BV9
        have hne : (err != err) = false := by simp
        go_wp2_with fail
        go_loopw [17] (fun q wq => ∃ (j : Nat) (A' : Array Value), j ≤ 64 ∧ q = .int .i64 j ∧ A'.size = 64 ∧ Has w wq [BRes gb (.cells A' 5), PRes ry rv G9 Ry9 Rv, DRes bx F8 Sx9, DRes bz Fz Sz, BRes go (.cells #[.int .i64 (kd k), .int .i64 (at_ k), .int .i64 (n_ k), .int .u8 (by_ k), .slice ka (keep k).length kcap] 35)]) (fun q _ => 64 - (intOf q).toNat)
        case atStart => exact ⟨0, (fullA (by_ k)), by omega, rfl, hsz, H9.out⟩
        case round =>
          clear H9 hsz
          obtain ⟨j, A', hj, rfl, hsz, hq⟩ := hrel
          by_cases hjm : j < 64
          · obtain ⟨⟨u0, hu0⟩, hfz, hnx⟩ := has_put (i := j) hq (by omega) (.int .u8 98)
            have NX := Lib.hid hnx
            clear hq hnx
            go_wp2
            go_roundw
            case rel => exact ⟨j + 1, _, by omega, by go_num, by simpa using hsz, NX.out⟩
            case measure => simp [intOf]; omega
          · have H := Lib.hid hq.drop.rot3.rot3
            clear hq
            obtain ⟨c0, c1, c2, c3, c4⟩ := op_cells (H.out.blk (g := go) (o := .cells #[.int .i64 (kd k), .int .i64 (at_ k), .int .i64 (n_ k), .int .u8 (by_ k), .slice ka (keep k).length kcap] 35) (by simp))
            have T1 := Lib.hid (alike_any H.out.dat (H.out.rot3.pat).1 SX.out (at_ k) (by have := BY.out.L; omega))
            go_wp2_with fail
            refine T1.out.mono ?_
            rintro e wt1 ⟨rfl, ot1⟩
            have H1 := Lib.hid (H.out.later ot1)
            clear T1 H ot1 c0 c1 c2 c3 c4
            obtain ⟨c0, c1, c2, c3, c4⟩ := op_cells (H1.out.blk (g := go) (o := .cells #[.int .i64 (kd k), .int .i64 (at_ k), .int .i64 (n_ k), .int .u8 (by_ k), .slice ka (keep k).length kcap] 35) (by simp))
            have T2 := Lib.hid (alike_any H1.out.swap.dat (H1.out.rot3.pat).2.1 SZ.out (at_ k) (by have := BV.out.L; omega))
            go_wp2_with fail
            refine T2.out.mono ?_
            rintro e wt2 ⟨rfl, ot2⟩
            have H2 := Lib.hid (H1.out.later ot2).pull3.drop
            clear T2 H1 ot2 c0 c1 c2 c3 c4
            go_wp2
            go_roundw
            case rel => exact ⟨k + 1, _, _, _, _, by omega, by omega, rfl, rfl, rfl, rfl, by go_num, _, _, _, _, _, _, _, H2.out, SX.out, SZ.out, BY.out, BV.out⟩
            case measure => simp [intOf]; omega
      · simp only [hκ] at KH
        refine (KH.out _).mono ?_
        rintro e w' ⟨rfl, rfl⟩
        obtain ⟨c0, c1, c2, c3, c4⟩ := op_cells (H6.out.blk (g := go) (o := .cells #[.int .i64 (kd k), .int .i64 (at_ k), .int .i64 (n_ k), .int .u8 (by_ k), .slice ka (keep k).length kcap] 35) (by simp))
        go_wp2_with fail
        refine (full_any (by_ k) _).mono ?_
        rintro e w' ⟨rfl, rfl⟩
        have hgo : go < w1.heap.size := (Array.getElem?_eq_some_iff.1 (H6.out.blk (g := go) (o := .cells #[.int .i64 (kd k), .int .i64 (at_ k), .int .i64 (n_ k), .int .u8 (by_ k), .slice ka (keep k).length kcap] 35) (by simp))).1
        go_wp2_with fail
        refine (KH.out _).mono ?_
        rintro e w' ⟨rfl, rfl⟩
        go_wp2_with fail
        have H7 := Lib.hid (H6.out.alloc (.cells (fullA (by_ k)) 5))
        have HA := Lib.hid (fullA_row (by_ k))
        clear H6 KH hgo c0 c1 c2 c3 c4
        generalize w1.heap.size = gb at *
        generalize w1.alloc (.cells (fullA (by_ k)) 5) = w2 at *
        obtain ⟨c0, c1, c2, c3, c4⟩ := op_cells (H7.out.blk (g := go) (o := .cells #[.int .i64 (kd k), .int .i64 (at_ k), .int .i64 (n_ k), .int .u8 (by_ k), .slice ka (keep k).length kcap] 35) (by simp))
        have WR := has_wr (gb := gb) (A := (fullA (by_ k))) (m := 64) (c := (by_ k)) H7.out.swap (by simp) HA.out (at_ k) (by rw [SX.out.steps]; have := BY.out.N; omega) (by rw [SX.out.pend]; have := BY.out.L; omega)
        rw [(SX.out.wr (at_ k) 64 (fullA (by_ k))).1] at WR
        refine WR.mono ?_
        rintro e w8 ⟨rfl, F8, h8⟩
        have H8 := Lib.hid h8.pull3
        clear WR h8 H7 c0 c1 c2 c3 c4
        have RW := Lib.hid (has_rwr (gb := gb) (A := (fullA (by_ k))) (m := 64) (c := (by_ k)) H8.out (by simp) HA.out (at_ k) (by have := BY.out.N; omega) (by have := BY.out.L; omega))
        obtain ⟨c0, c1, c2, c3, c4⟩ := op_cells (H8.out.blk (g := go) (o := .cells #[.int .i64 (kd k), .int .i64 (at_ k), .int .i64 (n_ k), .int .u8 (by_ k), .slice ka (keep k).length kcap] 35) (by simp))
        go_wp2_with fail
        refine RW.out.mono ?_
        rintro e w9 ⟨rfl, G9, h9⟩
        have H9 := Lib.hid h9.rot3
        have SX9 := Lib.hid (SX.out.wr (at_ k) 64 (fullA (by_ k))).2
        have BY9 := Lib.hid (BY.out.wr (at_ k) 64 (fullA (by_ k)))
        have SZ9 := SZ
        have BV9 := Lib.hid (BV.out.mono (k' := k + 1) (by omega))
        have hsz := HA.out.size
        clear RW h9 H8 c0 c1 c2 c3 c4 HA
        generalize (Ry.doWr (at_ k) 64 (fullA (by_ k))).1 = err at *
        generalize (Ry.doWr (at_ k) 64 (fullA (by_ k))).2 = Ry9 at *
        generalize (Sx.doWr (at_ k) 64 (fullA (by_ k))).2 = Sx9 at *
        clear SX SZ BY BV
        have SX := SX9
        have SZ := SZ9
        have BY := BY9
        have BV := BV9
        clear SX9 SZ9 BY9 BV9
        have hne : (err != err) = false := by simp
        go_wp2_with fail
        go_loopw [17] (fun q wq => ∃ (j : Nat) (A' : Array Value), j ≤ 64 ∧ q = .int .i64 j ∧ A'.size = 64 ∧ Has w wq [BRes gb (.cells A' 5), PRes ry rv G9 Ry9 Rv, DRes bx F8 Sx9, DRes bz Fz Sz, BRes go (.cells #[.int .i64 (kd k), .int .i64 (at_ k), .int .i64 (n_ k), .int .u8 (by_ k), .slice ka (keep k).length kcap] 35)]) (fun q _ => 64 - (intOf q).toNat)
        case atStart => exact ⟨0, (fullA (by_ k)), by omega, rfl, hsz, H9.out⟩
        case round =>
          clear H9 hsz
          obtain ⟨j, A', hj, rfl, hsz, hq⟩ := hrel
          by_cases hjm : j < 64
          · obtain ⟨⟨u0, hu0⟩, hfz, hnx⟩ := has_put (i := j) hq (by omega) (.int .u8 98)
            have NX := Lib.hid hnx
            clear hq hnx
            go_wp2
            go_roundw
            case rel => exact ⟨j + 1, _, by omega, by go_num, by simpa using hsz, NX.out⟩
            case measure => simp [intOf]; omega
          · have H := Lib.hid hq.drop.rot3.rot3
            clear hq
            obtain ⟨c0, c1, c2, c3, c4⟩ := op_cells (H.out.blk (g := go) (o := .cells #[.int .i64 (kd k), .int .i64 (at_ k), .int .i64 (n_ k), .int .u8 (by_ k), .slice ka (keep k).length kcap] 35) (by simp))
            have T1 := Lib.hid (alike_any H.out.dat (H.out.rot3.pat).1 SX.out (at_ k) (by have := BY.out.L; omega))
            go_wp2_with fail
            refine T1.out.mono ?_
            rintro e wt1 ⟨rfl, ot1⟩
            have H1 := Lib.hid (H.out.later ot1)
            clear T1 H ot1 c0 c1 c2 c3 c4
            obtain ⟨c0, c1, c2, c3, c4⟩ := op_cells (H1.out.blk (g := go) (o := .cells #[.int .i64 (kd k), .int .i64 (at_ k), .int .i64 (n_ k), .int .u8 (by_ k), .slice ka (keep k).length kcap] 35) (by simp))
            have T2 := Lib.hid (alike_any H1.out.swap.dat (H1.out.rot3.pat).2.1 SZ.out (at_ k) (by have := BV.out.L; omega))
            go_wp2_with fail
            refine T2.out.mono ?_
            rintro e wt2 ⟨rfl, ot2⟩
            have H2 := Lib.hid (H1.out.later ot2).pull3.drop
            clear T2 H1 ot2 c0 c1 c2 c3 c4
            go_wp2
            go_roundw
            case rel => exact ⟨k + 1, _, _, _, _, by omega, by omega, rfl, rfl, rfl, rfl, by go_num, _, _, _, _, _, _, _, H2.out, SX.out, SZ.out, BY.out, BV.out⟩
            case measure => simp [intOf]; omega
      · simp only [hκ] at KH
        refine (KH.out _).mono ?_
        rintro e w' ⟨rfl, rfl⟩
        obtain ⟨c0, c1, c2, c3, c4⟩ := op_cells (H6.out.blk (g := go) (o := .cells #[.int .i64 (kd k), .int .i64 (at_ k), .int .i64 (n_ k), .int .u8 (by_ k), .slice ka (keep k).length kcap] 35) (by simp))
        go_wp2_with fail
        have BA := has_doBarrier H6.out (by rw [SX.out.steps]; have := BY.out.N; omega)
        rw [SX.out.barrier.1] at BA
        refine BA.mono ?_
        rintro e w8 ⟨rfl, F8, h8⟩
        have H8 := Lib.hid h8.rot3
        clear BA h8 H6 c0 c1 c2 c3 c4 KH
        have RB := Lib.hid (has_rbarrier H8.out (by have := BY.out.L; omega) (by have := BY.out.N; omega))
        go_wp2_with fail
        refine RB.out.mono ?_
        rintro e w9 ⟨rfl, G9, h9⟩
        have H := Lib.hid h9.rot3.rot3
        have SX9 := Lib.hid SX.out.barrier.2
        have BY9 := Lib.hid BY.out.barrier
        have SZ9 := SZ
        have BV9 := Lib.hid (BV.out.mono (k' := k + 1) (by omega))
        clear RB h9 H8
        generalize Ry.doBarrier.1 = err at *
        generalize Ry.doBarrier.2 = Ry9 at *
        generalize Sx.doBarrier.2 = Sx9 at *
        clear SX SZ BY BV
        have SX := SX9
        have SZ := SZ9
        have BY := BY9
        have BV := BV9
        clear SX9 SZ9 BY9 BV9
        have hne : (err != err) = false := by simp
        obtain ⟨c0, c1, c2, c3, c4⟩ := op_cells (H.out.blk (g := go) (o := .cells #[.int .i64 (kd k), .int .i64 (at_ k), .int .i64 (n_ k), .int .u8 (by_ k), .slice ka (keep k).length kcap] 35) (by simp))
        have T1 := Lib.hid (alike_any H.out.dat (H.out.rot3.pat).1 SX.out (at_ k) (by have := BY.out.L; omega))
        go_wp2_with fail
        refine T1.out.mono ?_
        rintro e wt1 ⟨rfl, ot1⟩
        have H1 := Lib.hid (H.out.later ot1)
        clear T1 H ot1 c0 c1 c2 c3 c4
        obtain ⟨c0, c1, c2, c3, c4⟩ := op_cells (H1.out.blk (g := go) (o := .cells #[.int .i64 (kd k), .int .i64 (at_ k), .int .i64 (n_ k), .int .u8 (by_ k), .slice ka (keep k).length kcap] 35) (by simp))
        have T2 := Lib.hid (alike_any H1.out.swap.dat (H1.out.rot3.pat).2.1 SZ.out (at_ k) (by have := BV.out.L; omega))
        go_wp2_with fail
        refine T2.out.mono ?_
        rintro e wt2 ⟨rfl, ot2⟩
        have H2 := Lib.hid (H1.out.later ot2).pull3.drop
        clear T2 H1 ot2 c0 c1 c2 c3 c4
        go_wp2
        go_roundw
        case rel => exact ⟨k + 1, _, _, _, _, by omega, by omega, rfl, rfl, rfl, rfl, by go_num, _, _, _, _, _, _, _, H2.out, SX.out, SZ.out, BY.out, BV.out⟩
        case measure => simp [intOf]; omega
      · simp only [hκ] at KH
        refine (KH.out _).mono ?_
        rintro e w' ⟨rfl, rfl⟩
        obtain ⟨c0, c1, c2, c3, c4⟩ := op_cells (H6.out.blk (g := go) (o := .cells #[.int .i64 (kd k), .int .i64 (at_ k), .int .i64 (n_ k), .int .u8 (by_ k), .slice ka (keep k).length kcap] 35) (by simp))
        go_wp2_with fail
        have BY9 := Lib.hid (BY.out.mono (k' := k + 1) (by omega))
        have BV9 := Lib.hid (BV.out.mono (k' := k + 1) (by omega))
        clear BY BV
        have BY := BY9
        have BV := BV9
        clear BY9 BV9
        by_cases hre : Sx.reach (at_ k) = 0
        · have hok : ((Sx.now (at_ k)).getD Z).size = 64 := by
            obtain ⟨mn, ms, pv, hd, _⟩ := H6.out.dat
            exact (secOk_getD hd.ok.now (at_ k)).1
          refine (has_read H6.out (at_ k) hre).mono ?_
          rintro e w' ⟨rfl, rfl⟩
          have H7 := Lib.hid (H6.out.alloc (.cells ((Sx.now (at_ k)).getD Z) 65))
          generalize (Sx.now (at_ k)).getD Z = A at *
          clear H6 KH hre c0 c1 c2 c3 c4
          generalize w1.heap.size = gb at *
          generalize w1.alloc (.cells A 65) = w2 at *
          go_wp2_with fail
          go_loopw [21] (fun q wq => ∃ (j : Nat) (A' : Array Value), j ≤ 64 ∧ q = .int .i64 j ∧ A'.size = 64 ∧ Has w wq [BRes gb (.cells A' 65), DRes bx Fx Sx, DRes bz Fz Sz, PRes ry rv G Ry Rv, BRes go (.cells #[.int .i64 (kd k), .int .i64 (at_ k), .int .i64 (n_ k), .int .u8 (by_ k), .slice ka (keep k).length kcap] 35)]) (fun q _ => 64 - (intOf q).toNat)
          case atStart => exact ⟨0, A, by omega, rfl, hok, H7.out⟩
          case round =>
            clear H7 hok
            obtain ⟨j, A', hj, rfl, hsz, hq⟩ := hrel
            by_cases hjm : j < 64
            · obtain ⟨⟨u0, hu0⟩, hfz, hnx⟩ := has_put (i := j) hq (by omega) (.int .u8 99)
              have NX := Lib.hid hnx
              clear hq hnx
              go_wp2
              go_roundw
              case rel => exact ⟨j + 1, _, by omega, by go_num, by simpa using hsz, NX.out⟩
              case measure => simp [intOf]; omega
            · have H := Lib.hid hq.drop
              clear hq
              obtain ⟨c0, c1, c2, c3, c4⟩ := op_cells (H.out.blk (g := go) (o := .cells #[.int .i64 (kd k), .int .i64 (at_ k), .int .i64 (n_ k), .int .u8 (by_ k), .slice ka (keep k).length kcap] 35) (by simp))
              have T1 := Lib.hid (alike_any H.out.dat (H.out.rot3.pat).1 SX.out (at_ k) (by have := BY.out.L; omega))
              go_wp2_with fail
              refine T1.out.mono ?_
              rintro e wt1 ⟨rfl, ot1⟩
              have H1 := Lib.hid (H.out.later ot1)
              clear T1 H ot1 c0 c1 c2 c3 c4
              obtain ⟨c0, c1, c2, c3, c4⟩ := op_cells (H1.out.blk (g := go) (o := .cells #[.int .i64 (kd k), .int .i64 (at_ k), .int .i64 (n_ k), .int .u8 (by_ k), .slice ka (keep k).length kcap] 35) (by simp))
              have T2 := Lib.hid (alike_any H1.out.swap.dat (H1.out.rot3.pat).2.1 SZ.out (at_ k) (by have := BV.out.L; omega))
              go_wp2_with fail
              refine T2.out.mono ?_
              rintro e wt2 ⟨rfl, ot2⟩
              have H2 := Lib.hid (H1.out.later ot2).pull3.drop
              clear T2 H1 ot2 c0 c1 c2 c3 c4
              go_wp2
              go_roundw
              case rel => exact ⟨k + 1, _, _, _, _, by omega, by omega, rfl, rfl, rfl, rfl, by go_num, _, _, _, _, _, _, _, H2.out, SX.out, SZ.out, BY.out, BV.out⟩
              case measure => simp [intOf]; omega
        · refine (read_no H6.out.dat (at_ k) hre).mono ?_
          rintro e w' ⟨rfl, rfl⟩
          clear c0 c1 c2 c3 c4 KH hre
          go_wp2_with fail
          go_loopw [21] (fun q wq => q = .int .i64 0 ∧ wq = w1) (fun _ _ => 0)
          case atStart => exact ⟨rfl, rfl⟩
          case round =>
            obtain ⟨rfl, rfl⟩ := hrel
            have H := H6
            clear H6
            obtain ⟨c0, c1, c2, c3, c4⟩ := op_cells (H.out.blk (g := go) (o := .cells #[.int .i64 (kd k), .int .i64 (at_ k), .int .i64 (n_ k), .int .u8 (by_ k), .slice ka (keep k).length kcap] 35) (by simp))
            have T1 := Lib.hid (alike_any H.out.dat (H.out.rot3.pat).1 SX.out (at_ k) (by have := BY.out.L; omega))
            go_wp2_with fail
            refine T1.out.mono ?_
            rintro e wt1 ⟨rfl, ot1⟩
            have H1 := Lib.hid (H.out.later ot1)
            clear T1 H ot1 c0 c1 c2 c3 c4
            obtain ⟨c0, c1, c2, c3, c4⟩ := op_cells (H1.out.blk (g := go) (o := .cells #[.int .i64 (kd k), .int .i64 (at_ k), .int .i64 (n_ k), .int .u8 (by_ k), .slice ka (keep k).length kcap] 35) (by simp))
            have T2 := Lib.hid (alike_any H1.out.swap.dat (H1.out.rot3.pat).2.1 SZ.out (at_ k) (by have := BV.out.L; omega))
            go_wp2_with fail
            refine T2.out.mono ?_
            rintro e wt2 ⟨rfl, ot2⟩
            have H2 := Lib.hid (H1.out.later ot2).pull3.drop
            clear T2 H1 ot2 c0 c1 c2 c3 c4
            go_wp2
            go_roundw
            case rel => exact ⟨k + 1, _, _, _, _, by omega, by omega, rfl, rfl, rfl, rfl, by go_num, _, _, _, _, _, _, _, H2.out, SX.out, SZ.out, BY.out, BV.out⟩
            case measure => simp [intOf]; omega
      · simp only [hκ] at KH
        refine (KH.out _).mono ?_
        rintro e w' ⟨rfl, rfl⟩
        obtain ⟨c0, c1, c2, c3, c4⟩ := op_cells (H6.out.blk (g := go) (o := .cells #[.int .i64 (kd k), .int .i64 (at_ k), .int .i64 (n_ k), .int .u8 (by_ k), .slice ka (keep k).length kcap] 35) (by simp))
        go_wp2_with fail
        refine (has_fuse H6.out (n_ k) r4).mono ?_
        rintro e w8 ⟨rfl, F8, h8⟩
        have H8 := Lib.hid h8.rot3
        clear h8 H6 c0 c1 c2 c3 c4 KH
        have RB := Lib.hid (has_rfuse H8.out (n_ k) r4)
        obtain ⟨c0, c1, c2, c3, c4⟩ := op_cells (H8.out.blk (g := go) (o := .cells #[.int .i64 (kd k), .int .i64 (at_ k), .int .i64 (n_ k), .int .u8 (by_ k), .slice ka (keep k).length kcap] 35) (by simp))
        go_wp2_with fail
        refine RB.out.mono ?_
        rintro e w9 ⟨rfl, G9, h9⟩
        have H := Lib.hid h9.rot3.rot3
        have SX9 := Lib.hid (SX.out.fused (n_ k))
        have BY9 := Lib.hid (BY.out.fused (n_ k))
        have SZ9 := SZ
        have BV9 := Lib.hid (BV.out.mono (k' := k + 1) (by omega))
        clear RB h9 H8 c0 c1 c2 c3 c4
        clear SX SZ BY BV
        have SX := SX9
        have SZ := SZ9
        have BY := BY9
        have BV := BV9
        clear SX9 SZ9 BY9 BV9
        obtain ⟨c0, c1, c2, c3, c4⟩ := op_cells (H.out.blk (g := go) (o := .cells #[.int .i64 (kd k), .int .i64 (at_ k), .int .i64 (n_ k), .int .u8 (by_ k), .slice ka (keep k).length kcap] 35) (by simp))
        have T1 := Lib.hid (alike_any H.out.dat (H.out.rot3.pat).1 SX.out (at_ k) (by have := BY.out.L; omega))
        go_wp2_with fail
        refine T1.out.mono ?_
        rintro e wt1 ⟨rfl, ot1⟩
        have H1 := Lib.hid (H.out.later ot1)
        clear T1 H ot1 c0 c1 c2 c3 c4
        obtain ⟨c0, c1, c2, c3, c4⟩ := op_cells (H1.out.blk (g := go) (o := .cells #[.int .i64 (kd k), .int .i64 (at_ k), .int .i64 (n_ k), .int .u8 (by_ k), .slice ka (keep k).length kcap] 35) (by simp))
        have T2 := Lib.hid (alike_any H1.out.swap.dat (H1.out.rot3.pat).2.1 SZ.out (at_ k) (by have := BV.out.L; omega))
        go_wp2_with fail
        refine T2.out.mono ?_
        rintro e wt2 ⟨rfl, ot2⟩
        have H2 := Lib.hid (H1.out.later ot2).pull3.drop
        clear T2 H1 ot2 c0 c1 c2 c3 c4
        go_wp2
        go_roundw
        case rel => exact ⟨k + 1, _, _, _, _, by omega, by omega, rfl, rfl, rfl, rfl, by go_num, _, _, _, _, _, _, _, H2.out, SX.out, SZ.out, BY.out, BV.out⟩
        case measure => simp [intOf]; omega
      · simp only [hκ] at KH
        refine (KH.out _).mono ?_
        rintro e w' ⟨rfl, rfl⟩
        obtain ⟨c0, c1, c2, c3, c4⟩ := op_cells (H6.out.blk (g := go) (o := .cells #[.int .i64 (kd k), .int .i64 (at_ k), .int .i64 (n_ k), .int .u8 (by_ k), .slice ka (keep k).length kcap] 35) (by simp))
        have hkc := (hkeep [] (by simp)).only H6.out.only (by simp)
        rw [hkp] at hkc
        obtain ⟨gk, ck, w7, cur, hrun, hgk, hgk', hcur, hcell, o7⟩ := append33 hkc hkl 33
        have HRUN := Lib.hid hrun
        have hb3 := build330
        have hgo : go < w1.heap.size := (Array.getElem?_eq_some_iff.1 (H6.out.blk (g := go) (o := .cells #[.int .i64 (kd k), .int .i64 (at_ k), .int .i64 (n_ k), .int .u8 (by_ k), .slice ka (keep k).length kcap] 35) (by simp))).1
        have H7 := Lib.hid (H6.out.more o7 (BRes gk (.cells cur 3)) hcur (by intro x hx; simp [BRes] at hx; subst hx; exact ⟨hgk, hgk'⟩))
        have KC := Lib.hid hcell
        clear hrun hcur hcell hkc
        go_wp2_with (refine wpL_value rfl (run_builtin_append rfl rfl rfl HRUN.out) ?_)
        clear H6 HRUN hgo c0 c1 c2 c3 c4 KH o7
        have kx : KeepAt w7 Fx (.slice (some ⟨gk, 0, none⟩) (keep k).length ck) (keep k) := by
          refine ⟨_, _, rfl, by omega, fun _ => ⟨gk, 0, rfl, hgk', fun hx => (List.pairwise_cons.1 H7.out.apart).1 (DRes bx Fx Sx) (by simp) gk (by simp [BRes]) hx, fun j z hz => ?_⟩⟩
          rw [Nat.zero_add, cell_of_row _ _ _ _ _ _ (H7.out.blk (g := gk) (o := .cells cur 3) (by simp))]
          exact KC.out j z hz
        refine (has_boot H7.out.swap kx (by rw [SX.out.pend]; have := BY.out.L; omega)).mono ?_
        rintro e w8 ⟨rfl, F8, h8⟩
        have H8 := Lib.hid h8.pull3
        clear h8 H7 kx hgk hgk'
        have ky := (hkeep [] (by simp)).only H8.out.only (by simp)
        rw [hkp] at ky
        have RB := Lib.hid (has_rboot H8.out ky (by have := BY.out.L; omega))
        obtain ⟨c0, c1, c2, c3, c4⟩ := op_cells (H8.out.blk (g := go) (o := .cells #[.int .i64 (kd k), .int .i64 (at_ k), .int .i64 (n_ k), .int .u8 (by_ k), .slice ka (keep k).length kcap] 35) (by simp))
        clear ky
        go_wp2_with fail
        refine RB.out.mono ?_
        rintro e w9 ⟨rfl, G9, h9⟩
        have H9 := Lib.hid h9
        have SX9 := Lib.hid (SX.out.booted (keep k))
        have BY9 := Lib.hid (BY.out.booted (keep k))
        have SZ9 := SZ
        have BV9 := Lib.hid (BV.out.mono (k' := k + 1) (by omega))
        clear RB h9 H8 c0 c1 c2 c3 c4
        clear SX SZ BY BV
        have SX := SX9
        have SZ := SZ9
        have BY := BY9
        have BV := BV9
        clear SX9 SZ9 BY9 BV9
        generalize Ry.booted (keep k) = Ry9 at *
        generalize Sx.booted (keep k) = Sx9 at *
        go_wp2_with fail
        go_loopw [23] (fun q wq => ∃ j : Nat, j ≤ (keep k).length ∧ q = .int .i64 j ∧ Has w wq [PRes ry rv G9 Ry9 Rv, DRes bx F8 Sx9, BRes gk (.cells cur 3), DRes bz Fz Sz, BRes go (.cells #[.int .i64 (kd k), .int .i64 (at_ k), .int .i64 (n_ k), .int .u8 (by_ k), .slice ka (keep k).length kcap] 35)]) (fun q _ => (keep k).length - (intOf q).toNat)
        case atStart => exact ⟨0, by omega, rfl, H9.out⟩
        case round =>
          clear H9
          obtain ⟨j, hj, rfl, hq⟩ := hrel
          by_cases hjm : j < (keep k).length
          · obtain ⟨z, hz⟩ : ∃ z, (keep k)[j]? = some z := ⟨_, List.getElem?_eq_getElem hjm⟩
            have hkw := (hkeep [] (by simp)).only hq.only (by simp)
            rw [hkp] at hkw
            obtain ⟨ad', cap', hsl, _, hkk⟩ := hkw
            simp only [Value.slice.injEq] at hsl
            obtain ⟨rfl, _, rfl⟩ := hsl
            obtain ⟨kg, ko, rfl, _, _, hkk⟩ := hkk (fun e => by rw [e] at hjm; simp at hjm)
            have z1 : Hid (wr.cell? ⟨gk, 0 + j, none⟩ = some (.int .i64 z)) := by show _ = _; rw [Nat.zero_add, cell_of_row _ _ _ _ _ _ (hq.blk (g := gk) (o := .cells cur 3) (by simp))]; exact KC.out j z hz
            have z2 : Hid (wr.cell? ⟨kg, ko + j, none⟩ = some (.int .i64 z)) := hkk j z hz
            have z3 : Hid (wr.cell? ⟨go, 4, none⟩ = some (.slice (some ⟨kg, ko, none⟩) (keep k).length kcap)) := (op_cells (hq.blk (g := go) (o := .cells #[.int .i64 (kd k), .int .i64 (at_ k), .int .i64 (n_ k), .int .u8 (by_ k), .slice (some ⟨kg, ko, none⟩) (keep k).length kcap] 35) (by simp))).2.2.2.2
            have HQ := Lib.hid hq.drew
            clear hq hkk hz
            go_wp2_with fail
            refine wp_region_flow Lat [0, 0, 0, 1, 0, 1, 0, 0, 1, 0] (by kernel_rfl) (by kernel_rfl) Lat.refl Lat.trans ?_
            refine fl0 (u := .slice (some ⟨gk, 0, none⟩) (keep k).length ck) (by kernel_rfl) (fun _ => by kernel_rfl) ?_
            refine fl0 (u := .int .i64 j) (by kernel_rfl) (fun _ => by kernel_rfl) ?_
            simp only [Act.put, List.setIfInBounds_toArray, List.set_cons_succ, List.set_cons_zero]
            refine fl0 (u := .pointer (some ⟨gk, 0 + j, none⟩)) (by kernel_rfl) (run_index33 hjm rfl rfl rfl) ?_
            simp only [Act.put, List.setIfInBounds_toArray, List.set_cons_succ, List.set_cons_zero]
            refine fl1 (u := .int .i64 z) (by kernel_rfl) (fun x hx => run_load1 rfl rfl (hx.cell z1.out) isAgg3) ?_
            simp only [Act.put, List.setIfInBounds_toArray, List.set_cons_succ, List.set_cons_zero]
            refine fl0 (u := .pointer (some ⟨go, 4, none⟩)) (by kernel_rfl) (run_field35 rfl rfl) ?_
            simp only [Act.put, List.setIfInBounds_toArray, List.set_cons_succ, List.set_cons_zero]
            refine fl1 (u := .slice (some ⟨kg, ko, none⟩) (keep k).length kcap) (by kernel_rfl) (fun x hx => run_load1 rfl rfl (hx.cell z3.out) isAgg33) ?_
            refine fl0 (u := .int .i64 j) (by kernel_rfl) (fun _ => by kernel_rfl) ?_
            simp only [Act.put, List.setIfInBounds_toArray, List.set_cons_succ, List.set_cons_zero]
            refine fl0 (u := .pointer (some ⟨kg, ko + j, none⟩)) (by kernel_rfl) (run_index33 hjm rfl rfl rfl) ?_
            simp only [Act.put, List.setIfInBounds_toArray, List.set_cons_succ, List.set_cons_zero]
            refine fl1 (u := .int .i64 z) (by kernel_rfl) (fun x hx => run_load1 rfl rfl (hx.cell z2.out) isAgg3) ?_
            simp only [Act.put, List.setIfInBounds_toArray, List.set_cons_succ, List.set_cons_zero]
            refine fl0 (u := .bool false) (by kernel_rfl) (run_neq_i3 rfl rfl rfl) ?_
            simp only [Act.put, List.setIfInBounds_toArray, List.set_cons_succ, List.set_cons_zero]
            refine flnil ?_
            clear z1 z2 z3
            generalize wr.drew = wq2 at *
            go_wp2
            go_roundw
            case rel => exact ⟨j + 1, by omega, by go_num, HQ.out⟩
            case measure => simp [intOf]; omega
          · have H := Lib.hid hq.rot3.drop.rot3.rot3
            clear hq
            obtain ⟨c0, c1, c2, c3, c4⟩ := op_cells (H.out.blk (g := go) (o := .cells #[.int .i64 (kd k), .int .i64 (at_ k), .int .i64 (n_ k), .int .u8 (by_ k), .slice ka (keep k).length kcap] 35) (by simp))
            have T1 := Lib.hid (alike_any H.out.dat (H.out.rot3.pat).1 SX.out (at_ k) (by have := BY.out.L; omega))
            go_wp2_with fail
            refine T1.out.mono ?_
            rintro e wt1 ⟨rfl, ot1⟩
            have H1 := Lib.hid (H.out.later ot1)
            clear T1 H ot1 c0 c1 c2 c3 c4
            obtain ⟨c0, c1, c2, c3, c4⟩ := op_cells (H1.out.blk (g := go) (o := .cells #[.int .i64 (kd k), .int .i64 (at_ k), .int .i64 (n_ k), .int .u8 (by_ k), .slice ka (keep k).length kcap] 35) (by simp))
            have T2 := Lib.hid (alike_any H1.out.swap.dat (H1.out.rot3.pat).2.1 SZ.out (at_ k) (by have := BV.out.L; omega))
            go_wp2_with fail
            refine T2.out.mono ?_
            rintro e wt2 ⟨rfl, ot2⟩
            have H2 := Lib.hid (H1.out.later ot2).pull3.drop
            clear T2 H1 ot2 c0 c1 c2 c3 c4
            go_wp2
            go_roundw
            case rel => exact ⟨k + 1, _, _, _, _, by omega, by omega, rfl, rfl, rfl, rfl, by go_num, _, _, _, _, _, _, _, H2.out, SX.out, SZ.out, BY.out, BV.out⟩
            case measure => simp [intOf]; omega
      · simp only [hκ] at KH
        refine (KH.out _).mono ?_
        rintro e w' ⟨rfl, rfl⟩
        obtain ⟨c0, c1, c2, c3, c4⟩ := op_cells (H6.out.blk (g := go) (o := .cells #[.int .i64 (kd k), .int .i64 (at_ k), .int .i64 (n_ k), .int .u8 (by_ k), .slice ka (keep k).length kcap] 35) (by simp))
        go_wp2_with fail
        refine (has_clone H6.out (by rw [SX.out.pend]; have := BY.out.L; omega)).mono ?_
        rintro e w8 ⟨bn, F8, rfl, h8⟩
        have H8 := Lib.hid h8.rot3.drop.rot3
        clear h8 H6 c0 c1 c2 c3 c4 KH
        have RB := Lib.hid (has_rclone H8.out)
        go_wp2_with fail
        refine RB.out.mono ?_
        rintro e w9 ⟨yn, rfl, h9⟩
        have H := Lib.hid h9.rot3.rot3
        have SX9 := SX
        have BY9 := Lib.hid (BY.out.mono (k' := k + 1) (by omega))
        have SZ9 := SX
        have BV9 := BY9
        clear RB h9 H8
        clear SX SZ BY BV
        have SX := SX9
        have SZ := SZ9
        have BY := BY9
        have BV := BV9
        clear SX9 SZ9 BY9 BV9
        obtain ⟨c0, c1, c2, c3, c4⟩ := op_cells (H.out.blk (g := go) (o := .cells #[.int .i64 (kd k), .int .i64 (at_ k), .int .i64 (n_ k), .int .u8 (by_ k), .slice ka (keep k).length kcap] 35) (by simp))
        have T1 := Lib.hid (alike_any H.out.dat (H.out.rot3.pat).1 SX.out (at_ k) (by have := BY.out.L; omega))
        go_wp2_with fail
        refine T1.out.mono ?_
        rintro e wt1 ⟨rfl, ot1⟩
        have H1 := Lib.hid (H.out.later ot1)
        clear T1 H ot1 c0 c1 c2 c3 c4
        obtain ⟨c0, c1, c2, c3, c4⟩ := op_cells (H1.out.blk (g := go) (o := .cells #[.int .i64 (kd k), .int .i64 (at_ k), .int .i64 (n_ k), .int .u8 (by_ k), .slice ka (keep k).length kcap] 35) (by simp))
        have T2 := Lib.hid (alike_any H1.out.swap.dat (H1.out.rot3.pat).2.1 SZ.out (at_ k) (by have := BV.out.L; omega))
        go_wp2_with fail
        refine T2.out.mono ?_
        rintro e wt2 ⟨rfl, ot2⟩
        have H2 := Lib.hid (H1.out.later ot2).pull3.drop
        clear T2 H1 ot2 c0 c1 c2 c3 c4
        go_wp2
        go_roundw
        case rel => exact ⟨k + 1, _, _, _, _, by omega, by omega, rfl, rfl, rfl, rfl, by go_num, _, _, _, _, _, _, _, H2.out, SX.out, SZ.out, BY.out, BV.out⟩
        case measure => simp [intOf]; omega
      · simp only [hκ] at KH
        refine (KH.out _).mono ?_
        rintro e w' ⟨rfl, rfl⟩
        obtain ⟨c0, c1, c2, c3, c4⟩ := op_cells (H6.out.blk (g := go) (o := .cells #[.int .i64 (kd k), .int .i64 (at_ k), .int .i64 (n_ k), .int .u8 (by_ k), .slice ka (keep k).length kcap] 35) (by simp))
        go_wp2_with fail
        refine (full_any (by_ k) _).mono ?_
        rintro e w' ⟨rfl, rfl⟩
        have hgo : go < w1.heap.size := (Array.getElem?_eq_some_iff.1 (H6.out.blk (g := go) (o := .cells #[.int .i64 (kd k), .int .i64 (at_ k), .int .i64 (n_ k), .int .u8 (by_ k), .slice ka (keep k).length kcap] 35) (by simp))).1
        go_wp2_with fail
        refine (KH.out _).mono ?_
        rintro e w' ⟨rfl, rfl⟩
        go_wp2_with fail
        refine (kind_any (n_ k) 71 _ r3 r4 (by omega) (by omega)).mono ?_
        rintro e w' ⟨rfl, rfl⟩
        obtain ⟨m, hm⟩ : ∃ m : Nat, kindF (n_ k) 71 = m := ⟨(kindF (n_ k) 71).toNat, by have := kindF_bd (n_ k) 71 (by omega); omega⟩
        have hm70 : m ≤ 70 := by have := kindF_bd (n_ k) 71 (by omega); omega
        rw [hm]
        have H6b := Lib.hid (H6.out.alloc' (.cells (fullA (by_ k)) 5))
        clear H6 c0 c1 c2 c3 c4 hgo
        generalize w1.alloc (.cells (fullA (by_ k)) 5) = w1b at *
        generalize hgx : w1.heap.size = gx at *
        obtain ⟨A, hmk, hA⟩ := make37 m hm70 w1b
        have H7 := Lib.hid (H6b.out.alloc (.cells A 5))
        have HA := Lib.hid hA
        have hgo : go < w1b.heap.size := (Array.getElem?_eq_some_iff.1 (H6b.out.blk (g := go) (o := .cells #[.int .i64 (kd k), .int .i64 (at_ k), .int .i64 (n_ k), .int .u8 (by_ k), .slice ka (keep k).length kcap] 35) (by simp))).1
        obtain ⟨c0, c1, c2, c3, c4⟩ := op_cells (H6b.out.blk (g := go) (o := .cells #[.int .i64 (kd k), .int .i64 (at_ k), .int .i64 (n_ k), .int .u8 (by_ k), .slice ka (keep k).length kcap] 35) (by simp))
        clear hA KH hm
        go_wp2_with fail
        clear H6b hmk hgo c0 c1 c2 c3 c4
        generalize w1b.heap.size = gb at *
        generalize w1b.alloc (.cells A 5) = w2 at *
        obtain ⟨c, hce⟩ : ∃ c : Int, c = 0 := ⟨0, rfl⟩
        rw [← hce] at HA
        clear hce
        obtain ⟨c0, c1, c2, c3, c4⟩ := op_cells (H7.out.blk (g := go) (o := .cells #[.int .i64 (kd k), .int .i64 (at_ k), .int .i64 (n_ k), .int .u8 (by_ k), .slice ka (keep k).length kcap] 35) (by simp))
        have WR := has_wr (gb := gb) (A := A) (m := m) (c := c) H7.out.swap (by simp) HA.out (at_ k) (by rw [SX.out.steps]; have := BY.out.N; omega) (by rw [SX.out.pend]; have := BY.out.L; omega)
        rw [(SX.out.wr (at_ k) m (fullA c)).1] at WR
        refine WR.mono ?_
        rintro e w8 ⟨rfl, F8, h8⟩
        have H8 := Lib.hid h8.pull3
        clear WR h8 H7 c0 c1 c2 c3 c4
        have RW := Lib.hid (has_rwr (gb := gb) (A := A) (m := m) (c := c) H8.out (by simp) HA.out (at_ k) (by have := BY.out.N; omega) (by have := BY.out.L; omega))
        obtain ⟨c0, c1, c2, c3, c4⟩ := op_cells (H8.out.blk (g := go) (o := .cells #[.int .i64 (kd k), .int .i64 (at_ k), .int .i64 (n_ k), .int .u8 (by_ k), .slice ka (keep k).length kcap] 35) (by simp))
        go_wp2_with fail
        refine RW.out.mono ?_
        rintro e w9 ⟨rfl, G9, h9⟩
        have H9 := Lib.hid h9.rot3
        have SX9 := Lib.hid (SX.out.wr (at_ k) m (fullA c)).2
        have BY9 := Lib.hid (BY.out.wr (at_ k) m (fullA c))
        have SZ9 := SZ
        have BV9 := Lib.hid (BV.out.mono (k' := k + 1) (by omega))
        have hsz := HA.out.size
        clear RW h9 H8 c0 c1 c2 c3 c4 HA
        generalize (Ry.doWr (at_ k) m (fullA c)).1 = err at *
        generalize (Ry.doWr (at_ k) m (fullA c)).2 = Ry9 at *
        generalize (Sx.doWr (at_ k) m (fullA c)).2 = Sx9 at *
        clear SX SZ BY BV
        have SX := SX9
        have SZ := SZ9
        have BY := BY9
        have BV := BV9
        clear SX9 SZ9 BY9 BV9
        have hne : (err != err) = false := by simp
        go_wp2_with fail
        go_loopw [17] (fun q wq => ∃ (j : Nat) (A' : Array Value), j ≤ m ∧ q = .int .i64 j ∧ A'.size = m ∧ Has w wq [BRes gb (.cells A' 5), PRes ry rv G9 Ry9 Rv, DRes bx F8 Sx9, DRes bz Fz Sz, BRes go (.cells #[.int .i64 (kd k), .int .i64 (at_ k), .int .i64 (n_ k), .int .u8 (by_ k), .slice ka (keep k).length kcap] 35)]) (fun q _ => m - (intOf q).toNat)
        case atStart => exact ⟨0, A, by omega, rfl, hsz, H9.out⟩
        case round =>
          clear H9 hsz
          obtain ⟨j, A', hj, rfl, hsz, hq⟩ := hrel
          by_cases hjm : j < m
          · obtain ⟨⟨u0, hu0⟩, hfz, hnx⟩ := has_put (i := j) hq (by omega) (.int .u8 98)
            have NX := Lib.hid hnx
            clear hq hnx
            go_wp2
            go_roundw
            case rel => exact ⟨j + 1, _, by omega, by go_num, by simpa using hsz, NX.out⟩
            case measure => simp [intOf]; omega
          · have H := Lib.hid hq.drop.rot3.rot3
            clear hq
            obtain ⟨c0, c1, c2, c3, c4⟩ := op_cells (H.out.blk (g := go) (o := .cells #[.int .i64 (kd k), .int .i64 (at_ k), .int .i64 (n_ k), .int .u8 (by_ k), .slice ka (keep k).length kcap] 35) (by simp))
            have T1 := Lib.hid (alike_any H.out.dat (H.out.rot3.pat).1 SX.out (at_ k) (by have := BY.out.L; omega))
            go_wp2_with fail
            refine T1.out.mono ?_
            rintro e wt1 ⟨rfl, ot1⟩
            have H1 := Lib.hid (H.out.later ot1)
            clear T1 H ot1 c0 c1 c2 c3 c4
            obtain ⟨c0, c1, c2, c3, c4⟩ := op_cells (H1.out.blk (g := go) (o := .cells #[.int .i64 (kd k), .int .i64 (at_ k), .int .i64 (n_ k), .int .u8 (by_ k), .slice ka (keep k).length kcap] 35) (by simp))
            have T2 := Lib.hid (alike_any H1.out.swap.dat (H1.out.rot3.pat).2.1 SZ.out (at_ k) (by have := BV.out.L; omega))
            go_wp2_with fail
            refine T2.out.mono ?_
            rintro e wt2 ⟨rfl, ot2⟩
            have H2 := Lib.hid (H1.out.later ot2).pull3.drop
            clear T2 H1 ot2 c0 c1 c2 c3 c4
            go_wp2
            go_roundw
            case rel => exact ⟨k + 1, _, _, _, _, by omega, by omega, rfl, rfl, rfl, rfl, by go_num, _, _, _, _, _, _, _, H2.out, SX.out, SZ.out, BY.out, BV.out⟩
            case measure => simp [intOf]; omega
    · have hx0 : 300 ≤ k := by omega
      clear hlt
      go_wp2
      go_ret
      exact ⟨rfl, h.only⟩

end Go.Proofs.Ytabddepidhfelaa
