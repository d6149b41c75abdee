/- CacheReads, walked. -/
import Derived.Test.YtoccnaebckcfmaaL2
set_option linter.unusedSimpArgs false
set_option linter.unusedVariables false
set_option maxRecDepth 8000
namespace Go.Proofs.Ytoccnaebckcfmaa
open Go.RowKit
open Go.ChangeMaps (setBlock)

/-- The calls that came in. -/
structure Ops3 (w : World) (ad : Option Addr) (len : Nat) (K A M B : Nat → Int) : Prop where
  small : len ≤ 9223372036854775807
  each : ∀ i, i < len → ∃ g o, ad = some ⟨g, o, none⟩ ∧ g < w.heap.size ∧ w.cell? ⟨g, o + i * 4, none⟩ = some (.int .i64 (K i)) ∧ w.cell? ⟨g, o + i * 4 + 1, none⟩ = some (.int .i64 (A i)) ∧ w.cell? ⟨g, o + i * 4 + 2, none⟩ = some (.int .i64 (M i)) ∧ w.cell? ⟨g, o + i * 4 + 3, none⟩ = some (.int .u8 (B i))
  kb : ∀ i, i < len → -9223372036854775808 ≤ K i ∧ K i ≤ 9223372036854775807
  ab : ∀ i, i < len → -9223372036854775808 ≤ A i ∧ A i ≤ 9223372036854775807
  mb : ∀ i, i < len → -9223372036854775808 ≤ M i ∧ M i ≤ 9223372036854775807
  bb : ∀ i, i < len → 0 ≤ B i ∧ B i < 256

section
variable {o : Oper} {a : Act} {w : World}
theorem run_field32 {x : Operand} {b k : Nat} (hk : k < 4) (ho : o.op = .fieldAddr 32 x k) (hx : a.eval x = .pointer (some ⟨b, 0, none⟩)) :
    ∀ w, (execOp a.eval o).run Try.prog w = .ok (.value (.pointer (some ⟨b, k, none⟩))) w := by
  intro w
  have : k = 0 ∨ k = 1 ∨ k = 2 ∨ k = 3 := by omega
  unfold execOp
  simp only [ho, hx]
  rcases this with rfl | rfl | rfl | rfl <;> go_simp
theorem isAgg5 (w : World) : (isAgg 5).run Try.prog w = .ok false w := by kernel_rfl
end

section
variable {w0 w : World} {cb d wb : Nat} {F FD : List Nat} {C : CaS} {S : St} {Rs : List Res}
theorem evict_miss (C : CaS) : C.evict.miss = C.miss := by unfold CaS.evict; split <;> rfl
theorem read_missed (C : CaS) (S : St) (i : Int) : (C.read S i).miss ≤ C.miss + 1 := by
  unfold CaS.read
  rw [evict_miss]
  simp only [CaS.use]
  split
  · omega
  · simp only; omega
theorem has_cread3 (h : Has w0 w (CRes cb d wb F C :: DRes d FD S :: Rs)) (i : Int) (hm : C.miss < 1000000000) (hsn : S.n ≤ 8192) :
    Calls Try.prog 12 #[pp cb, .int .i64 i] w fun e w' => ∃ v F' C', e = .returned v ∧ C'.miss ≤ C.miss + 1 ∧ Has w0 w' (CRes cb d wb F' C' :: DRes d FD S :: Rs) := by
  refine (has_cread h i hm hsn).mono ?_
  rintro e w' (⟨_, rb, F', rfl, hh⟩ | ⟨_, _, F', rfl, hh⟩)
  · exact ⟨_, F', _, rfl, read_missed C S i, hh.drop⟩
  · exact ⟨_, F', C, rfl, by omega, hh⟩
theorem has_cwrite3 (h : Has w0 w (CRes cb d wb F C :: DRes d FD S :: Rs)) (hsn : S.n ≤ 8192) (i c : Int) :
    Calls Try.prog 16 #[pp cb, .int .i64 i, .slice (some ⟨w.heap.size, 0, none⟩) 64 64] (w.alloc (.cells (fullA c) 5)) fun e w' => ∃ (z : Int) (F' : List Nat) (C' : CaS), e = .returned (.int .i64 z) ∧ C'.miss = C.miss ∧ Has w0 w' (CRes cb d wb F' C' :: DRes d FD S :: Rs) := by
  refine (has_cwrite (h.alloc' (.cells (fullA c) 5)) hsn i (bytes_of (fullA_ok c))).mono ?_
  rintro e w' ⟨F', rfl, hh⟩
  refine ⟨_, F', _, rfl, ?_, hh⟩
  split <;> rfl
theorem steps_q {b : Nat} {n k : Int} {f : Int → Option (Array Value)} (h : DAt w b F (quiet n k f)) : Calls Try.prog 34 #[.pointer (some ⟨b, 0, none⟩)] w fun e w' => e = .returned (.int .i64 k) ∧ w = w' := steps_any h
theorem commit_missed (C : CaS) : C.committed.miss = C.miss := by unfold CaS.committed; rw [evict_miss]
end

/-- Behind i calls. -/
def RIs (w : World) (cb d wb i : Nat) (wr : World) : Prop := ∃ (C : CaS) (F FD : List Nat) (k : Int) (f : Int → Option (Array Value)) (g : Int), C.miss ≤ i ∧ 0 ≤ k ∧ k ≤ 2 + 200 * (i : Int) ∧ 0 ≤ g ∧ g ≤ i ∧ Has w wr (CRes cb d wb F C :: DRes d FD (quiet 100 k f) :: WRes wb d 0 40 g :: [])

set_option maxHeartbeats 8000000 in
theorem reads_any (w : World) (most : Int) (hp0 : -9223372036854775808 ≤ most) (hp1 : most ≤ 9223372036854775807) (ad : Option Addr) (len cap : Nat) (K A M B : Nat → Int) (hin : Ops3 w ad len K A M B) :
    Calls Try.prog 7 #[.int .i64 most, .slice ad len cap] w fun e w' => e = .returned (.bool true) ∧ Only [] w w' := by
  have SH := Lib.hid (shown3_any w)
  have hsm := hin.small
  have HIN := Lib.hid hin
  clear hin
  have AM := fun w1 => kind_any most 60 w1 hp0 hp1 (by omega) (by omega)
  obtain ⟨hn0, hn1⟩ := amongF_bd most 60 (by omega)
  generalize amongF most 60 = nn at *
  have AMH := Lib.hid AM
  clear AM
  go_enter Try.func7, Try.ntmps7
  go_wp2_with fail
  refine SH.out.mono ?_
  rintro e w1 ⟨rfl, o1⟩
  have G := Lib.hid (ground3_any ((Has.start w).later o1) (most := 1 + nn) (by omega) (by omega))
  clear SH o1
  go_wp2_with (go_at_call 9; refine (AMH.out _).mono ?_; rintro e w' ⟨rfl, rfl⟩)
  refine G.out.mono ?_
  rintro e w2 ⟨d, FD, wb, cb, F0, rfl, h0⟩
  have c0 : RIs w cb d wb 0 w2 := ⟨_, F0, FD, 2, f00, 0, by simp [CaS.new], by omega, by omega, by omega, by omega, h0⟩
  have C0 := Lib.hid c0
  clear G h0 c0 AMH
  unfold pp
  go_wp2
  go_loopw [8] (fun x wr => ∃ i : Nat, i ≤ min len 200 ∧ x = .int .i64 i ∧ RIs w cb d wb i wr) (fun x _ => min len 200 - (RowKit.intOf x).toNat)
  case atStart => exact ⟨0, by omega, rfl, C0.out⟩
  case round =>
    clear C0
    obtain ⟨i, hi, rfl, C, F, FD, k, f, g', hmi, hk0, hk1, hg0, hg1, hC⟩ := hrel
    by_cases hlt : i < min len 200
    · have hil : i < len := by omega
      have hi60 : i < 200 := by omega
      obtain ⟨g, o, rfl, hg, q0, q1, q2, q3⟩ := HIN.out.each i hil
      obtain ⟨kb0, kb1⟩ := HIN.out.kb i hil
      obtain ⟨bb0, bb1⟩ := HIN.out.bb i hil
      have bl := hC.only.block g hg (by simp)
      have p0 := (World.cell?_of_block (w := w) (a := ⟨g, o + i * 4, none⟩) bl).trans q0
      have p1 := (World.cell?_of_block (w := w) (a := ⟨g, o + i * 4 + 1, none⟩) bl).trans q1
      have p2 := (World.cell?_of_block (w := w) (a := ⟨g, o + i * 4 + 2, none⟩) bl).trans q2
      have p3 := (World.cell?_of_block (w := w) (a := ⟨g, o + i * 4 + 3, none⟩) bl).trans q3
      have ST0 := Lib.hid (steps_q hC.swap.dat)
      have h6 := hC.alloc (.cells #[.int .i64 (K i), .int .i64 (A i), .int .i64 (M i), .int .u8 (B i)] 32)
      have KH := Lib.hid (fun x => kind_any (K i) 9 x kb0 kb1 (by omega) (by omega))
      have kb := amongF_bd (K i) 9 (by omega)
      have H6 := Lib.hid h6
      clear hC bl h6 q0 q1 q2 q3
      go_wp2_with (go_at_call 34; refine ST0.out.mono ?_; rintro e w' ⟨rfl, rfl⟩)
      generalize wr.heap.size = go at *
      generalize wr.alloc (.cells #[.int .i64 (K i), .int .i64 (A i), .int .i64 (M i), .int .u8 (B i)] 32) = w4 at *
      clear p0 p1 p2 p3 ST0
      refine (KH.out _).mono ?_
      rintro e w' ⟨rfl, rfl⟩
      clear KH
      generalize amongF (K i) 9 = κ at *
      have hb6 : w4.heap[go]? = some (.cells #[.int .i64 (K i), .int .i64 (A i), .int .i64 (M i), .int .u8 (B i)] 32 (0, 0)) := H6.out.blk (by simp)
      have c1 : w4.cell? ⟨go, 1, none⟩ = some (.int .i64 (A i)) := by rw [cell_of_row _ _ _ _ _ _ hb6]; rfl
      have c3 : w4.cell? ⟨go, 3, none⟩ = some (.int .u8 (B i)) := by rw [cell_of_row _ _ _ _ _ _ hb6]; rfl
      have H4 := Lib.hid H6.out.drop
      clear hb6 H6
      obtain rfl | rfl | rfl | rfl | rfl | rfl | rfl | rfl | rfl : κ = 0 ∨ κ = 1 ∨ κ = 2 ∨ κ = 3 ∨ κ = 4 ∨ κ = 5 ∨ κ = 6 ∨ κ = 7 ∨ κ = 8 := by omega
      · as_aux_lemma =>
        have RD := Lib.hid (has_cread3 H4.out (A i) (by omega) (by simp [quiet]))
        clear H4 c3
        go_wp2_with fail
        refine RD.out.mono ?_
        rintro e w6 ⟨v6, F6, C6, rfl, hm6, h6⟩
        clear RD
        have ST := Lib.hid (steps_q h6.swap.dat)
        have fin : RIs w cb d wb (i + 1) w6 := ⟨C6, F6, FD, k, f, g', by omega, hk0, by omega, hg0, by omega, h6⟩
        have FIN := Lib.hid fin
        clear fin h6
        go_wp2_with (go_at_call 34; refine ST.out.mono ?_; rintro e w' ⟨rfl, rfl⟩)
        go_roundw
        case rel => exact ⟨i + 1, by omega, by go_num, FIN.out⟩
        case measure => simp [RowKit.intOf]; omega
      · as_aux_lemma =>
        have RD := Lib.hid (has_cread3 H4.out (A i) (by omega) (by simp [quiet]))
        clear H4 c3
        go_wp2_with fail
        refine RD.out.mono ?_
        rintro e w6 ⟨v6, F6, C6, rfl, hm6, h6⟩
        clear RD
        have ST := Lib.hid (steps_q h6.swap.dat)
        have fin : RIs w cb d wb (i + 1) w6 := ⟨C6, F6, FD, k, f, g', by omega, hk0, by omega, hg0, by omega, h6⟩
        have FIN := Lib.hid fin
        clear fin h6
        go_wp2_with (go_at_call 34; refine ST.out.mono ?_; rintro e w' ⟨rfl, rfl⟩)
        go_roundw
        case rel => exact ⟨i + 1, by omega, by go_num, FIN.out⟩
        case measure => simp [RowKit.intOf]; omega
      · as_aux_lemma =>
        have RD := Lib.hid (has_cread3 H4.out (A i) (by omega) (by simp [quiet]))
        clear H4 c3
        go_wp2_with fail
        refine RD.out.mono ?_
        rintro e w6 ⟨v6, F6, C6, rfl, hm6, h6⟩
        clear RD
        have ST := Lib.hid (steps_q h6.swap.dat)
        have fin : RIs w cb d wb (i + 1) w6 := ⟨C6, F6, FD, k, f, g', by omega, hk0, by omega, hg0, by omega, h6⟩
        have FIN := Lib.hid fin
        clear fin h6
        go_wp2_with (go_at_call 34; refine ST.out.mono ?_; rintro e w' ⟨rfl, rfl⟩)
        go_roundw
        case rel => exact ⟨i + 1, by omega, by go_num, FIN.out⟩
        case measure => simp [RowKit.intOf]; omega
      · as_aux_lemma =>
        have c1d : w4.drew.cell? ⟨go, 1, none⟩ = some (.int .i64 (A i)) := c1
        have c3d : w4.drew.cell? ⟨go, 3, none⟩ = some (.int .u8 (B i)) := c3
        have WR := Lib.hid (has_cwrite3 H4.out.drew (by simp [quiet]) (A i) (B i))
        clear H4 c1 c3
        go_wp2_with fail
        refine wp_region_flowR Lat [0, 0, 1, 0, 1, 2, 3] (by kernel_rfl) (by kernel_rfl) Lat.refl Lat.trans ?_
        generalize w4.drew = w5 at *
        refine fr0 (u := .pointer (some ⟨cb, 0, none⟩)) rfl (fun _ => rfl) ?_
        simp only [Act.put, List.setIfInBounds_toArray, List.set_cons_succ, List.set_cons_zero]
        refine fr0 rfl (run_field32 (k := 1) (by omega) rfl rfl) ?_
        simp only [Act.put, List.setIfInBounds_toArray, List.set_cons_succ, List.set_cons_zero]
        refine fr1 (u := .int .i64 (A i)) rfl (fun x hx => run_load1 rfl rfl (hx.cell c1d) isAgg3) ?_
        simp only [Act.put, List.setIfInBounds_toArray, List.set_cons_succ, List.set_cons_zero]
        refine fr0 rfl (run_field32 (k := 3) (by omega) rfl rfl) ?_
        simp only [Act.put, List.setIfInBounds_toArray, List.set_cons_succ, List.set_cons_zero]
        refine fr1 (u := .int .u8 (B i)) rfl (fun x hx => run_load1 rfl rfl (hx.cell c3d) isAgg5) ?_
        simp only [Act.put, List.setIfInBounds_toArray, List.set_cons_succ, List.set_cons_zero]
        refine fr2 (u := .slice (some ⟨w5.heap.size, 0, none⟩) 64 64) (w' := w5.alloc (.cells (fullA (B i)) 5)) rfl (Lat.alloc _ _) (does_full1 rfl rfl) ?_
        simp only [Act.put, List.setIfInBounds_toArray, List.set_cons_succ, List.set_cons_zero]
        refine fr3c rfl (run_enter3 Try.call16 rfl rfl rfl rfl) WR.out ?_
        rintro e w6 ⟨z6, F6, C6, rfl, hm6, h6⟩
        refine ⟨_, rfl, ?_⟩
        simp only [Act.put, List.setIfInBounds_toArray, List.set_cons_succ, List.set_cons_zero]
        refine frnil ?_
        clear WR c1d c3d
        have ST := Lib.hid (steps_q h6.swap.dat)
        have fin : RIs w cb d wb (i + 1) w6 := ⟨C6, F6, FD, k, f, g', by omega, hk0, by omega, hg0, by omega, h6⟩
        have FIN := Lib.hid fin
        clear fin h6
        go_wp2_with (go_at_call 34; refine ST.out.mono ?_; rintro e w' ⟨rfl, rfl⟩)
        go_roundw
        case rel => exact ⟨i + 1, by omega, by go_num, FIN.out⟩
        case measure => simp [RowKit.intOf]; omega
      · as_aux_lemma =>
        have c1d : w4.drew.cell? ⟨go, 1, none⟩ = some (.int .i64 (A i)) := c1
        have c3d : w4.drew.cell? ⟨go, 3, none⟩ = some (.int .u8 (B i)) := c3
        have WR := Lib.hid (has_cwrite3 H4.out.drew (by simp [quiet]) (A i) (B i))
        clear H4 c1 c3
        go_wp2_with fail
        refine wp_region_flowR Lat [0, 0, 1, 0, 1, 2, 3] (by kernel_rfl) (by kernel_rfl) Lat.refl Lat.trans ?_
        generalize w4.drew = w5 at *
        refine fr0 (u := .pointer (some ⟨cb, 0, none⟩)) rfl (fun _ => rfl) ?_
        simp only [Act.put, List.setIfInBounds_toArray, List.set_cons_succ, List.set_cons_zero]
        refine fr0 rfl (run_field32 (k := 1) (by omega) rfl rfl) ?_
        simp only [Act.put, List.setIfInBounds_toArray, List.set_cons_succ, List.set_cons_zero]
        refine fr1 (u := .int .i64 (A i)) rfl (fun x hx => run_load1 rfl rfl (hx.cell c1d) isAgg3) ?_
        simp only [Act.put, List.setIfInBounds_toArray, List.set_cons_succ, List.set_cons_zero]
        refine fr0 rfl (run_field32 (k := 3) (by omega) rfl rfl) ?_
        simp only [Act.put, List.setIfInBounds_toArray, List.set_cons_succ, List.set_cons_zero]
        refine fr1 (u := .int .u8 (B i)) rfl (fun x hx => run_load1 rfl rfl (hx.cell c3d) isAgg5) ?_
        simp only [Act.put, List.setIfInBounds_toArray, List.set_cons_succ, List.set_cons_zero]
        refine fr2 (u := .slice (some ⟨w5.heap.size, 0, none⟩) 64 64) (w' := w5.alloc (.cells (fullA (B i)) 5)) rfl (Lat.alloc _ _) (does_full1 rfl rfl) ?_
        simp only [Act.put, List.setIfInBounds_toArray, List.set_cons_succ, List.set_cons_zero]
        refine fr3c rfl (run_enter3 Try.call16 rfl rfl rfl rfl) WR.out ?_
        rintro e w6 ⟨z6, F6, C6, rfl, hm6, h6⟩
        refine ⟨_, rfl, ?_⟩
        simp only [Act.put, List.setIfInBounds_toArray, List.set_cons_succ, List.set_cons_zero]
        refine frnil ?_
        clear WR c1d c3d
        have ST := Lib.hid (steps_q h6.swap.dat)
        have fin : RIs w cb d wb (i + 1) w6 := ⟨C6, F6, FD, k, f, g', by omega, hk0, by omega, hg0, by omega, h6⟩
        have FIN := Lib.hid fin
        clear fin h6
        go_wp2_with (go_at_call 34; refine ST.out.mono ?_; rintro e w' ⟨rfl, rfl⟩)
        go_roundw
        case rel => exact ⟨i + 1, by omega, by go_num, FIN.out⟩
        case measure => simp [RowKit.intOf]; omega
      · as_aux_lemma =>
        have BG := Lib.hid (has_cbegin H4.out)
        clear H4 c1 c3
        go_wp2_with fail
        refine BG.out.mono ?_
        rintro e w6 ⟨F6, rfl, h6⟩
        clear BG
        have ST := Lib.hid (steps_q h6.swap.dat)
        have fin : RIs w cb d wb (i + 1) w6 := ⟨{ C with opn := true }, F6, FD, k, f, g', by simp only; omega, hk0, by omega, hg0, by omega, h6⟩
        have FIN := Lib.hid fin
        clear fin h6
        go_wp2_with (go_at_call 34; refine ST.out.mono ?_; rintro e w' ⟨rfl, rfl⟩)
        go_roundw
        case rel => exact ⟨i + 1, by omega, by go_num, FIN.out⟩
        case measure => simp [RowKit.intOf]; omega
      · as_aux_lemma =>
        have CO := Lib.hid (has_ccommit H4.out (by omega) (by omega) (by omega) hg0 (by omega) hk0 (by omega))
        clear H4 c1 c3
        go_wp2_with fail
        refine CO.out.mono ?_
        intro e w6 hpost
        rcases Or.symm hpost with ⟨hno, FD6, F6, rfl, h6⟩ | ⟨ho, gok, k6, FD6, F6, hk6, hk7, rfl, h6⟩
        · have ST := Lib.hid (steps_q h6.swap.dat)
          have fin : RIs w cb d wb (i + 1) w6 := ⟨C, F6, FD6, k, f, g', by omega, hk0, by omega, hg0, by omega, h6⟩
          have FIN := Lib.hid fin
          have hz : ((if C.opn = true then (20 : Int) else 30) == 0) = false := by split <;> rfl
          clear fin h6 CO hno hpost
          generalize (if C.opn = true then (20 : Int) else 30) = z6 at *
          go_wp2_with (go_at_call 34; refine ST.out.mono ?_; rintro e w' ⟨rfl, rfl⟩)
          go_roundw
          case rel => exact ⟨i + 1, by omega, by go_num, FIN.out⟩
          case measure => simp [RowKit.intOf]; omega
        · have ST := Lib.hid (steps_q h6.swap.dat)
          have hl37 : (putsC C).length ≤ 37 := by
            have := gok.1
            rw [room40] at this
            simp only [rawsOf, List.length_map] at this
            omega
          have fin : RIs w cb d wb (i + 1) w6 := ⟨C.committed, F6, FD6, k6, _, g' + 1, by rw [commit_missed]; omega, by omega, by omega, by omega, by omega, h6⟩
          have FIN := Lib.hid fin
          clear fin h6 CO gok hpost hk7
          go_wp2_with (go_at_call 34; refine ST.out.mono ?_; rintro e w' ⟨rfl, rfl⟩)
          go_roundw
          case rel => exact ⟨i + 1, by omega, by go_num, FIN.out⟩
          case measure => simp [RowKit.intOf]; omega
      · as_aux_lemma =>
        have AB := Lib.hid (has_cabort H4.out)
        clear H4 c1 c3
        go_wp2_with fail
        refine AB.out.mono ?_
        rintro e w6 ⟨F6, rfl, h6⟩
        clear AB
        have ST := Lib.hid (steps_q h6.swap.dat)
        have fin : RIs w cb d wb (i + 1) w6 := ⟨(if C.opn then C.abort else C), F6, FD, k, f, g', by split <;> simp [CaS.abort] <;> omega, hk0, by omega, hg0, by omega, h6⟩
        have FIN := Lib.hid fin
        clear fin h6
        go_wp2_with (go_at_call 34; refine ST.out.mono ?_; rintro e w' ⟨rfl, rfl⟩)
        go_roundw
        case rel => exact ⟨i + 1, by omega, by go_num, FIN.out⟩
        case measure => simp [RowKit.intOf]; omega
      · as_aux_lemma =>
        have c1d : w4.drew.cell? ⟨go, 1, none⟩ = some (.int .i64 (A i)) := c1
        have c3d : w4.drew.cell? ⟨go, 3, none⟩ = some (.int .u8 (B i)) := c3
        have WR := Lib.hid (has_cwrite3 H4.out.drew (by simp [quiet]) (A i) (B i))
        clear H4 c1 c3
        go_wp2_with fail
        refine wp_region_flowR Lat [0, 0, 1, 0, 1, 2, 3] (by kernel_rfl) (by kernel_rfl) Lat.refl Lat.trans ?_
        generalize w4.drew = w5 at *
        refine fr0 (u := .pointer (some ⟨cb, 0, none⟩)) rfl (fun _ => rfl) ?_
        simp only [Act.put, List.setIfInBounds_toArray, List.set_cons_succ, List.set_cons_zero]
        refine fr0 rfl (run_field32 (k := 1) (by omega) rfl rfl) ?_
        simp only [Act.put, List.setIfInBounds_toArray, List.set_cons_succ, List.set_cons_zero]
        refine fr1 (u := .int .i64 (A i)) rfl (fun x hx => run_load1 rfl rfl (hx.cell c1d) isAgg3) ?_
        simp only [Act.put, List.setIfInBounds_toArray, List.set_cons_succ, List.set_cons_zero]
        refine fr0 rfl (run_field32 (k := 3) (by omega) rfl rfl) ?_
        simp only [Act.put, List.setIfInBounds_toArray, List.set_cons_succ, List.set_cons_zero]
        refine fr1 (u := .int .u8 (B i)) rfl (fun x hx => run_load1 rfl rfl (hx.cell c3d) isAgg5) ?_
        simp only [Act.put, List.setIfInBounds_toArray, List.set_cons_succ, List.set_cons_zero]
        refine fr2 (u := .slice (some ⟨w5.heap.size, 0, none⟩) 64 64) (w' := w5.alloc (.cells (fullA (B i)) 5)) rfl (Lat.alloc _ _) (does_full1 rfl rfl) ?_
        simp only [Act.put, List.setIfInBounds_toArray, List.set_cons_succ, List.set_cons_zero]
        refine fr3c rfl (run_enter3 Try.call16 rfl rfl rfl rfl) WR.out ?_
        rintro e w6 ⟨z6, F6, C6, rfl, hm6, h6⟩
        refine ⟨_, rfl, ?_⟩
        simp only [Act.put, List.setIfInBounds_toArray, List.set_cons_succ, List.set_cons_zero]
        refine frnil ?_
        clear WR c1d c3d
        have ST := Lib.hid (steps_q h6.swap.dat)
        have fin : RIs w cb d wb (i + 1) w6 := ⟨C6, F6, FD, k, f, g', by omega, hk0, by omega, hg0, by omega, h6⟩
        have FIN := Lib.hid fin
        clear fin h6
        go_wp2_with (go_at_call 34; refine ST.out.mono ?_; rintro e w' ⟨rfl, rfl⟩)
        go_roundw
        case rel => exact ⟨i + 1, by omega, by go_num, FIN.out⟩
        case measure => simp [RowKit.intOf]; omega
    · have HO := Lib.hid hC.only
      clear hC
      by_cases hL : len ≤ 200
      · have hiL : i = len := by omega
        clear hlt hi
        subst hiL
        go_wp2
        go_ret
        exact ⟨rfl, HO.out⟩
      · have hiL : i = 200 := by omega
        clear hlt hi
        subst hiL
        go_wp2
        go_ret
        exact ⟨rfl, HO.out⟩
end Go.Proofs.Ytoccnaebckcfmaa
