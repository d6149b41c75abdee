/- What was written ahead of a barrier is there behind any boot: the walk of the law. -/
import Derived.Test.YtabddepidhfelaaInv
set_option linter.unusedSimpArgs false
namespace Go.Proofs.Ytabddepidhfelaa
open Go.RowKit


def SureRel (w : World) (b g k : Nat) (wr : World) : Prop := ∃ F S A f, Has w wr [DRes b F S, BRes g (.cells A 47)] ∧ RowIs A 8 f ∧ WInv S f k
def SureRel2 (w : World) (b g : Nat) (A : Array Value) (f : Nat → Int) (z : Nat → Int) (m : Nat) (wr : World) : Prop := ∃ F S, Has w wr [DRes b F S, BRes g (.cells A 47)] ∧ BInv S f (fun i => 3 * i % 8) z m
def OkRel (w : World) (b g g7 : Nat) (F : List Nat) (S : St) (A : Array Value) (z : Nat → Int) (c : Int) (j M m : Nat) (okv : Value) (wr : World) : Prop :=
  ∃ okb, okv = .bool okb ∧ (okb = true ∨ ∃ i0, m ≤ i0 ∧ i0 < M ∧ 3 * i0 % 8 = j ∧ c = z i0) ∧ Has w wr [DRes b F S, BRes g (.cells A 47), BRes g7 (.cells (fullA c) 65)]

theorem row8 : RowIs #[.int .u8 0, .int .u8 0, .int .u8 0, .int .u8 0, .int .u8 0, .int .u8 0, .int .u8 0, .int .u8 0] 8 (fun _ => 0) :=
  ⟨rfl, fun j hj => by match j, hj with | 0, _ | 1, _ | 2, _ | 3, _ | 4, _ | 5, _ | 6, _ | 7, _ => rfl⟩

set_option maxRecDepth 100000 in
set_option maxHeartbeats 8000000 in
theorem sure_any0 (w : World) (a0 : Option Addr) (len0 cap0 : Nat) (z0 : Nat → Int) (a1 : Option Addr) (len1 cap1 : Nat) (z1 : Nat → Int) (kv : Value) (keep : List Int) (hl0 : len0 ≤ 9223372036854775807) (hl1 : len1 ≤ 9223372036854775807)
    (b0 : BytesAt w a0 len0 z0) (b1 : BytesAt w a1 len1 z1) (hkeep : ∀ F : List Nat, (∀ y ∈ F, w.heap.size ≤ y) → KeepAt w F kv keep) (hc0 : len0 ≤ 60) (hc1 : len1 ≤ 60) :
    Calls Try.prog 4 #[.slice a0 len0 cap0, .slice a1 len1 cap1, kv] w fun e w' => e = .returned (.bool true) ∧ Only [] w w' := by
  have HO0 := Lib.hid b0
  have HO1 := Lib.hid b1
  have HKP := Lib.hid hkeep
  clear b0 b1 hkeep
  go_enter Try.func4, Try.ntmps4
  go_wp2_with fail
  refine (shown_any w).mono ?_
  rintro e w1 ⟨rfl, o1⟩
  have h1 : Has w w1 [] := (Has.start w).later o1
  have N8 := Lib.hid (has_new h1 8 (by omega) (by omega))
  clear h1 o1
  go_wp2_with fail
  refine N8.out.mono ?_
  rintro e w2 ⟨b, F, rfl, h2⟩
  clear N8
  have H := Lib.hid h2
  clear h2
  go_wp2_with fail
  have h3 := (H.out.alloc (.cells #[.int .u8 0, .int .u8 0, .int .u8 0, .int .u8 0, .int .u8 0, .int .u8 0, .int .u8 0, .int .u8 0] 47)).swap
  generalize w2.heap.size = g at *
  generalize w2.alloc (.cells #[.int .u8 0, .int .u8 0, .int .u8 0, .int .u8 0, .int .u8 0, .int .u8 0, .int .u8 0, .int .u8 0] 47) = w3 at *
  clear H
  go_loopw [11] (fun i wr => ∃ k : Nat, k ≤ len0 ∧ k ≤ 60 ∧ i = .int .i64 k ∧ SureRel w b g k wr) (fun i _ => 60 - (intOf i).toNat)
  case atStart => exact ⟨0, by omega, by omega, rfl, F, _, _, _, h3, row8, WInv.start⟩
  case round =>
    clear h3
    obtain ⟨k, hk1, hk2, rfl, F, S, A, f, h, hA, inv⟩ := hrel
    by_cases hlt : k < len0 ∧ k < 60
    · obtain ⟨hlt1, hlt2⟩ := hlt
      obtain ⟨lg, lo, rfl, hlg, cB⟩ := HO0.out.cell k hlt1
      have cell : ∀ (x : World), Only [] w x → x.cell? ⟨lg, lo + k, none⟩ = some (.int .u8 (z0 k)) := fun x ho => (World.cell?_of_block (w := w) (ho.block lg hlg (by simp))).trans cB
      have cB1 := cell _ h.only
      have hm : k % 8 < 8 := Nat.mod_lt _ (by omega)
      have H := Lib.hid h
      have CELL := Lib.hid cell
      have HAR := Lib.hid hA
      have INV := Lib.hid inv
      clear h inv cB cell hA
      go_wp2_with fail
      refine (full_any (z0 k) _).mono ?_
      rintro e w' ⟨rfl, rfl⟩
      go_wp2_with fail
      rw [show ((k : Int) % 8) = ((k % 8 : Nat) : Int) by omega]
      refine (has_write H.out ((k % 8 : Nat) : Int) (z0 k) (INV.out.reach _ hm) (by have := INV.out.fuse; omega) (by have := INV.out.steps; omega) (by have := INV.out.pend; omega)).mono ?_
      rintro e w5 ⟨rfl, F5, h5⟩
      have inv5 := INV.out.write (k % 8) (z0 k)
      have cB6 := CELL.out _ h5.only
      obtain ⟨s1, s2, s3⟩ := has_set h5.swap HAR.out hm (z0 k)
      have H7 := Lib.hid s3
      have INV5 := Lib.hid inv5
      clear h5 s3 inv5 H INV cB1
      go_wp2
      go_roundw
      case rel => exact ⟨k + 1, by omega, by omega, by go_num, F5, _, _, _, H7.out.swap, HAR.out.set _ _, INV5.out⟩
      case measure => simp [intOf]; omega
    · have hx0 : len0 ≤ k := by omega
      clear hlt
      have BR := Lib.hid (has_barrier h inv.on (by have := inv.fuse; omega) (by have := inv.steps; omega))
      have HAR := Lib.hid hA
      have binv := BInv.start inv hk2 (fun i => 3 * i % 8) z1
      generalize S.stepped.settled = S1 at *
      have BINV := Lib.hid binv
      clear h inv hA binv
      go_wp2_with fail
      refine BR.out.mono ?_
      rintro e w6 ⟨rfl, F6, h6⟩
      clear BR
      have H6 := Lib.hid h6
      clear h6
      go_wp2_with fail
      go_loopw [13] (fun i wr => ∃ m : Nat, m ≤ len1 ∧ m ≤ 60 ∧ i = .int .i64 m ∧ SureRel2 w b g A f z1 m wr) (fun i _ => 60 - (intOf i).toNat)
      case atStart => exact ⟨0, by omega, by omega, rfl, F6, S1, H6.out, BINV.out⟩
      case round =>
        clear H6 BINV
        obtain ⟨m, hm1, hm2, rfl, F7, S7, h7, inv7⟩ := hrel
        by_cases hlt1 : m < len1 ∧ m < 60
        · obtain ⟨hlt2, hlt3⟩ := hlt1
          obtain ⟨lg, lo, rfl, hlg, cB⟩ := HO1.out.cell m hlt2
          have cB1 : wr.cell? ⟨lg, lo + m, none⟩ = some (.int .u8 (z1 m)) := (World.cell?_of_block (w := w) (h7.only.block lg hlg (by simp))).trans cB
          have hq : 3 * m % 8 < 8 := Nat.mod_lt _ (by omega)
          have H := Lib.hid h7
          have INV := Lib.hid inv7
          clear h7 inv7 cB
          go_wp2_with fail
          refine (full_any (z1 m) _).mono ?_
          rintro e w' ⟨rfl, rfl⟩
          go_wp2_with fail
          rw [show ((3 * (m : Int)) % 8) = ((3 * m % 8 : Nat) : Int) by omega]
          refine (has_write H.out ((3 * m % 8 : Nat) : Int) (z1 m) (INV.out.reach _ hq) (by have := INV.out.fuse; omega) (by have := INV.out.steps; omega) (by have := INV.out.len; omega)).mono ?_
          rintro e w8 ⟨rfl, F8, h8⟩
          have inv8 := INV.out.write
          have H8 := Lib.hid h8
          have INV8 := Lib.hid inv8
          clear H INV h8 inv8 cB1
          go_wp2
          go_roundw
          case rel => exact ⟨m + 1, by omega, by omega, by go_num, F8, _, H8.out, INV8.out⟩
          case measure => simp [intOf]; omega
        · have hx1 : len1 ≤ m := by omega
          clear hlt1
          have hF7 : ∀ y ∈ F7, w.heap.size ≤ y := fun y hy => ((h7.each (DRes b F7 S7) (by simp)).2 y hy).1
          have BT := Lib.hid (has_boot h7 ((HKP.out F7 hF7).only h7.only (by simp)) (by have := inv7.len; omega))
          have hread : ∀ j : Nat, j < 8 → ∃ c, ((S7.booted keep).now j).getD Z = fullA c ∧ (c = f j ∨ ∃ i, i < m ∧ 3 * i % 8 = j ∧ c = z1 i) := fun j hj => inv7.booted keep j hj
          have hon : (S7.booted keep).on = true := rfl
          have hn : (S7.booted keep).n = 8 := inv7.n
          have hpl : (S7.booted keep).pend.length = 0 := rfl
          generalize S7.booted keep = S8 at *
          have HRD := Lib.hid hread
          have HON := Lib.hid hon
          have HN := Lib.hid hn
          have HPL := Lib.hid hpl
          clear h7 inv7 hF7 hread hon hn hpl
          go_wp2_with fail
          refine BT.out.mono ?_
          rintro e w8 ⟨rfl, F8, h8⟩
          clear BT
          have WT := waiting_any h8.dat
          rw [HPL.out] at WT
          have WTH := Lib.hid WT
          have H8 := Lib.hid h8
          clear h8 WT
          go_wp2_with fail
          refine WTH.out.mono ?_
          rintro e w' ⟨rfl, rfl⟩
          clear WTH
          go_wp2_with fail
          go_loopw [14] (fun i wr => ∃ j : Nat, j ≤ 8 ∧ i = .int .i64 j ∧ Has w wr [DRes b F8 S8, BRes g (.cells A 47)]) (fun i _ => 8 - (intOf i).toNat)
          case atStart => exact ⟨0, by omega, rfl, H8.out⟩
          case round =>
            clear H8
            obtain ⟨j, hj, rfl, h6⟩ := hrel
            by_cases hj8 : j < 8
            · obtain ⟨c, hc, hcc⟩ := HRD.out j hj8
              have R := has_read h6 j (by simp only [St.reach, HON.out, HN.out]; simp; omega)
              rw [hc] at R
              have RH := Lib.hid R
              have H6 := Lib.hid h6
              have HCC := Lib.hid hcc
              clear R h6 hc hcc
              go_wp2_with fail
              refine RH.out.mono ?_
              rintro e w' ⟨rfl, rfl⟩
              clear RH
              have h7 := (H6.out.alloc (.cells (fullA c) 65)).swap
              clear H6
              generalize wr.heap.size = g7 at *
              generalize wr.alloc (.cells (fullA c) 65) = w7 at *
              have h7' : Has w w7 [DRes b F8 S8, BRes g (.cells A 47), BRes g7 (.cells (fullA c) 65)] := by
                have a1 := h7.drop
                obtain ⟨p1, p2⟩ := List.pairwise_cons.1 h7.apart
                obtain ⟨p3, p4⟩ := List.pairwise_cons.1 p2
                refine ⟨h7.only, fun r hr => h7.each r (by simp at hr ⊢; rcases hr with h | h | h <;> simp [h]), List.pairwise_cons.2 ⟨fun r hr => p1 r (by simp at hr ⊢; rcases hr with h | h <;> simp [h]), List.pairwise_cons.2 ⟨fun r hr x hx hxr => ?_, by simp⟩⟩⟩
                simp at hr
                subst hr
                exact p3 _ (by simp) x hxr hx
              have H7 := Lib.hid h7'
              have B7 := Lib.hid (h7'.blk (g := g7) (o := .cells (fullA c) 65) (by simp))
              have C7 : Hid (w7.cell? ⟨g, j, none⟩ = some (.int .u8 (f j))) := (cell_of_row _ _ _ _ _ _ (h7'.blk (g := g) (o := .cells A 47) (by simp))).trans (HAR.out.cell j hj8)
              clear h7 h7'
              go_wp2_with fail
              refine wp_region_flow Lat [0, 1, 0, 0, 1, 2, 1, 0, 0] (by kernel_rfl) (by kernel_rfl) Lat.refl Lat.trans ?_
              refine fl0 (u := .slice (some ⟨g7, 0, none⟩) 64 64) (by kernel_rfl) (fun _ => by kernel_rfl) ?_
              simp only [Act.put, List.setIfInBounds_toArray, List.set_cons_succ, List.set_cons_zero]
              refine fl1 (u := .string (fullS c)) (by kernel_rfl) (fun x hx => run_str rfl rfl (hx.at B7.out)) ?_
              refine fl0 (u := .int .i64 j) (by kernel_rfl) (fun _ => by kernel_rfl) ?_
              simp only [Act.put, List.setIfInBounds_toArray, List.set_cons_succ, List.set_cons_zero]
              refine fl0 (u := .pointer (some ⟨g, j, none⟩)) (by kernel_rfl) (run_index47 hj8 rfl rfl rfl) ?_
              simp only [Act.put, List.setIfInBounds_toArray, List.set_cons_succ, List.set_cons_zero]
              refine fl1 (u := .int .u8 (f j)) (by kernel_rfl) (fun x hx => run_load1 rfl rfl (hx.cell C7.out) isAgg5) ?_
              simp only [Act.put, List.setIfInBounds_toArray, List.set_cons_succ, List.set_cons_zero]
              refine fl2 (u := .slice (some ⟨w7.drew.heap.size, 0, none⟩) 64 64) (w' := w7.drew.alloc (.cells (fullA (f j)) 5)) (by kernel_rfl) (Lat.alloc _ _) (does_full rfl rfl) ?_
              simp only [Act.put, List.setIfInBounds_toArray, List.set_cons_succ, List.set_cons_zero]
              refine fl1 (u := .string (fullS (f j))) (by kernel_rfl) (fun x hx => run_str rfl rfl (hx.at (heap_alloc_last w7.drew _))) ?_
              simp only [Act.put, List.setIfInBounds_toArray, List.set_cons_succ, List.set_cons_zero]
              refine fl0 (u := .bool ((fullS c).toList == (fullS (f j)).toList)) (by kernel_rfl) (run_eql_str rfl rfl rfl) ?_
              simp only [Act.put, List.setIfInBounds_toArray, List.set_cons_succ, List.set_cons_zero]
              refine fl0 (u := .bool ((fullS c).toList == (fullS (f j)).toList)) (by kernel_rfl) (fun _ => by kernel_rfl) ?_
              simp only [Act.put, List.setIfInBounds_toArray, List.set_cons_succ, List.set_cons_zero]
              refine flnil ?_
              have h8 := (H7.out.drew.alloc' (.cells (fullA (f j)) 5))
              generalize w7.drew.alloc (.cells (fullA (f j)) 5) = w8x at *
              have hok0 : ((fullS c).toList == (fullS (f j)).toList) = true ∨ ∃ i0, 0 ≤ i0 ∧ i0 < m ∧ 3 * i0 % 8 = j ∧ c = z1 i0 := by
                rcases HCC.out with h | ⟨i, hi⟩
                · left; rw [h]; simp
                · exact .inr ⟨i, by omega, hi⟩
              generalize ((fullS c).toList == (fullS (f j)).toList) = okb0 at *
              have HOK := Lib.hid hok0
              have H8 := Lib.hid h8
              clear H7 B7 C7 HCC hok0 h8
              go_wp2_with fail
              go_loopw [17, 18] (fun okv i wr => ∃ i1 : Nat, i1 ≤ len1 ∧ i1 ≤ 60 ∧ i = .int .i64 i1 ∧ OkRel w b g g7 F8 S8 A z1 c j m i1 okv wr) (fun _ i _ => 60 - (intOf i).toNat)
              case atStart => exact ⟨0, by omega, by omega, rfl, okb0, rfl, HOK.out, H8.out⟩
              case round =>
                clear HOK H8
                obtain ⟨i1, hi1, hi2, rfl, okb, rfl, hok, h9⟩ := hrel
                by_cases hlt4 : i1 < len1 ∧ i1 < 60
                · obtain ⟨hlt5, hlt6⟩ := hlt4
                  obtain ⟨lg, lo, rfl, hlg, cB⟩ := HO1.out.cell i1 hlt5
                  have cB9 : Hid (wr.cell? ⟨lg, lo + i1, none⟩ = some (.int .u8 (z1 i1))) := (World.cell?_of_block (w := w) (h9.only.block lg hlg (by simp))).trans cB
                  have B9 := Lib.hid (h9.blk (g := g7) (o := .cells (fullA c) 65) (by simp))
                  have H9 := Lib.hid h9
                  have HOK := Lib.hid hok
                  clear h9 cB hok
                  cases okb with
                  | true =>
                    go_wp2_with fail
                    refine wp_region_flow Lat [0, 0, 0, 0, 0, 0, 0, 0, 0, 1, 0, 0, 0, 1, 2, 1, 0, 0, 0, 0] (by kernel_rfl) (by kernel_rfl) Lat.refl Lat.trans ?_
                    refine fl0 (u := .bool true) (by kernel_rfl) (fun _ => by kernel_rfl) ?_
                    refine fl0 (u := .bool true) (by kernel_rfl) (fun _ => by kernel_rfl) ?_
                    simp only [Act.put, List.setIfInBounds_toArray, List.set_cons_succ, List.set_cons_zero]
                    refine flx (by kernel_rfl) ?_
                    refine flx (by kernel_rfl) ?_
                    refine flx (by kernel_rfl) ?_
                    refine flx (by kernel_rfl) ?_
                    refine flx (by kernel_rfl) ?_
                    refine flx (by kernel_rfl) ?_
                    simp only [Act.put, List.setIfInBounds_toArray, List.set_cons_succ, List.set_cons_zero]
                    refine flx (by kernel_rfl) ?_
                    refine flx (by kernel_rfl) ?_
                    refine flx (by kernel_rfl) ?_
                    refine flx (by kernel_rfl) ?_
                    refine flx (by kernel_rfl) ?_
                    refine flx (by kernel_rfl) ?_
                    refine flx (by kernel_rfl) ?_
                    refine flx (by kernel_rfl) ?_
                    refine flx (by kernel_rfl) ?_
                    refine flx (by kernel_rfl) ?_
                    simp only [Act.put, List.setIfInBounds_toArray, List.set_cons_succ, List.set_cons_zero]
                    refine fl0 (u := .bool true) (by kernel_rfl) (fun _ => by kernel_rfl) ?_
                    refine fl0 (u := .bool true) (by kernel_rfl) (fun _ => by kernel_rfl) ?_
                    simp only [Act.put, List.setIfInBounds_toArray, List.set_cons_succ, List.set_cons_zero]
                    refine flnil ?_
                    have h10 := H9.out.drew
                    generalize wr.drew = w10 at *
                    clear H9 B9 cB9 HOK
                    go_wp2
                    go_roundw
                    case rel =>
                      have hfin : ∃ i1' : Nat, i1' ≤ len1 ∧ i1' ≤ 60 ∧ Value.int .i64 (↑i1 + 1) = .int .i64 i1' ∧ OkRel w b g g7 F8 S8 A z1 c j m i1' (.bool true) w10 := ⟨i1 + 1, by omega, by omega, by go_num, true, rfl, .inl rfl, h10⟩
                      first | exact hfin | ((repeat apply Exists.intro); exact ⟨hfin, rfl⟩)
                    case measure => simp [intOf]; omega
                  | false =>
                    by_cases hq : 3 * i1 % 8 = j
                    · have hqb : (((3 * i1 % 8 : Nat) : Int) == (j : Int)) = true := by rw [hq]; simp
                      go_wp2_with fail
                      refine wp_region_flow Lat [0, 0, 0, 0, 0, 0, 0, 0, 0, 1, 0, 0, 0, 1, 2, 1, 0, 0, 0, 0] (by kernel_rfl) (by kernel_rfl) Lat.refl Lat.trans ?_
                      refine fl0 (u := .bool false) (by kernel_rfl) (fun _ => by kernel_rfl) ?_
                      refine fl0 (u := .bool false) (by kernel_rfl) (fun _ => by kernel_rfl) ?_
                      simp only [Act.put, List.setIfInBounds_toArray, List.set_cons_succ, List.set_cons_zero]
                      refine fl0 (u := .int .i64 i1) (by kernel_rfl) (fun _ => by kernel_rfl) ?_
                      simp only [Act.put, List.setIfInBounds_toArray, List.set_cons_succ, List.set_cons_zero]
                      refine fl0 (u := .int .i64 (3 * i1)) (by kernel_rfl) (run_mul3 (by omega) rfl rfl rfl) ?_
                      simp only [Act.put, List.setIfInBounds_toArray, List.set_cons_succ, List.set_cons_zero]
                      refine fl0 (u := .int .i64 j) (by kernel_rfl) (run_rem8 (by omega) rfl rfl rfl (by omega)) ?_
                      refine fl0 (u := .int .i64 j) (by kernel_rfl) (fun _ => by kernel_rfl) ?_
                      simp only [Act.put, List.setIfInBounds_toArray, List.set_cons_succ, List.set_cons_zero]
                      refine fl0 (u := .bool true) (by kernel_rfl) (run_eqi rfl rfl rfl (by simp)) ?_
                      refine fl0 (u := .bool true) (by kernel_rfl) (fun _ => by kernel_rfl) ?_
                      simp only [Act.put, List.setIfInBounds_toArray, List.set_cons_succ, List.set_cons_zero]
                      refine fl0 (u := .slice (some ⟨g7, 0, none⟩) 64 64) (by kernel_rfl) (fun _ => by kernel_rfl) ?_
                      simp only [Act.put, List.setIfInBounds_toArray, List.set_cons_succ, List.set_cons_zero]
                      refine fl1 (u := .string (fullS c)) (by kernel_rfl) (fun x hx => run_str rfl rfl (hx.at B9.out)) ?_
                      refine fl0 (u := .slice (some ⟨lg, lo, none⟩) len1 cap1) (by kernel_rfl) (fun _ => by kernel_rfl) ?_
                      refine fl0 (u := .int .i64 i1) (by kernel_rfl) (fun _ => by kernel_rfl) ?_
                      simp only [Act.put, List.setIfInBounds_toArray, List.set_cons_succ, List.set_cons_zero]
                      refine fl0 (u := .pointer (some ⟨lg, lo + i1, none⟩)) (by kernel_rfl) (run_index37o hlt5 rfl rfl rfl) ?_
                      simp only [Act.put, List.setIfInBounds_toArray, List.set_cons_succ, List.set_cons_zero]
                      refine fl1 (u := .int .u8 (z1 i1)) (by kernel_rfl) (fun x hx => run_load1 rfl rfl (hx.cell cB9.out) isAgg5) ?_
                      simp only [Act.put, List.setIfInBounds_toArray, List.set_cons_succ, List.set_cons_zero]
                      refine fl2 (u := .slice (some ⟨wr.drew.heap.size, 0, none⟩) 64 64) (w' := wr.drew.alloc (.cells (fullA (z1 i1)) 5)) (by kernel_rfl) (Lat.alloc _ _) (does_full rfl rfl) ?_
                      simp only [Act.put, List.setIfInBounds_toArray, List.set_cons_succ, List.set_cons_zero]
                      refine fl1 (u := .string (fullS (z1 i1))) (by kernel_rfl) (fun x hx => run_str rfl rfl (hx.at (heap_alloc_last wr.drew _))) ?_
                      simp only [Act.put, List.setIfInBounds_toArray, List.set_cons_succ, List.set_cons_zero]
                      refine fl0 (u := .bool ((fullS c).toList == (fullS (z1 i1)).toList)) (by kernel_rfl) (run_eql_str rfl rfl rfl) ?_
                      simp only [Act.put, List.setIfInBounds_toArray, List.set_cons_succ, List.set_cons_zero]
                      refine fl0 (u := .bool ((fullS c).toList == (fullS (z1 i1)).toList)) (by kernel_rfl) (fun _ => by kernel_rfl) ?_
                      simp only [Act.put, List.setIfInBounds_toArray, List.set_cons_succ, List.set_cons_zero]
                      refine fl0 (u := .bool ((fullS c).toList == (fullS (z1 i1)).toList)) (by kernel_rfl) (fun _ => by kernel_rfl) ?_
                      simp only [Act.put, List.setIfInBounds_toArray, List.set_cons_succ, List.set_cons_zero]
                      refine fl0 (u := .bool ((fullS c).toList == (fullS (z1 i1)).toList)) (by kernel_rfl) (fun _ => by kernel_rfl) ?_
                      simp only [Act.put, List.setIfInBounds_toArray, List.set_cons_succ, List.set_cons_zero]
                      refine flnil ?_
                      have h10 := H9.out.drew.alloc' (.cells (fullA (z1 i1)) 5)
                      generalize wr.drew.alloc (.cells (fullA (z1 i1)) 5) = w10 at *
                      have hok2 : ((fullS c).toList == (fullS (z1 i1)).toList) = true ∨ ∃ i0, i1 + 1 ≤ i0 ∧ i0 < m ∧ 3 * i0 % 8 = j ∧ c = z1 i0 := by
                        rcases HOK.out with h | ⟨i0, q1, q2, q3, q4⟩
                        · cases h
                        · by_cases he : i0 = i1
                          · left; rw [q4, he]; simp
                          · exact .inr ⟨i0, by omega, q2, q3, q4⟩
                      generalize ((fullS c).toList == (fullS (z1 i1)).toList) = ob at *
                      have HOK2 := Lib.hid hok2
                      clear H9 B9 cB9 HOK hok2 hqb
                      go_wp2
                      go_roundw
                      case rel => exact ⟨i1 + 1, by omega, by omega, by go_num, ob, rfl, HOK2.out, h10⟩
                      case measure => simp [intOf]; omega
                    · go_wp2_with fail
                      refine wp_region_flow Lat [0, 0, 0, 0, 0, 0, 0, 0, 0, 1, 0, 0, 0, 1, 2, 1, 0, 0, 0, 0] (by kernel_rfl) (by kernel_rfl) Lat.refl Lat.trans ?_
                      refine fl0 (u := .bool false) (by kernel_rfl) (fun _ => by kernel_rfl) ?_
                      refine fl0 (u := .bool false) (by kernel_rfl) (fun _ => by kernel_rfl) ?_
                      simp only [Act.put, List.setIfInBounds_toArray, List.set_cons_succ, List.set_cons_zero]
                      refine fl0 (u := .int .i64 i1) (by kernel_rfl) (fun _ => by kernel_rfl) ?_
                      simp only [Act.put, List.setIfInBounds_toArray, List.set_cons_succ, List.set_cons_zero]
                      refine fl0 (u := .int .i64 (3 * i1)) (by kernel_rfl) (run_mul3 (by omega) rfl rfl rfl) ?_
                      simp only [Act.put, List.setIfInBounds_toArray, List.set_cons_succ, List.set_cons_zero]
                      refine fl0 (u := .int .i64 ((3 * i1 % 8 : Nat) : Int)) (by kernel_rfl) (run_rem8 (by omega) rfl rfl rfl (by omega)) ?_
                      refine fl0 (u := .int .i64 j) (by kernel_rfl) (fun _ => by kernel_rfl) ?_
                      simp only [Act.put, List.setIfInBounds_toArray, List.set_cons_succ, List.set_cons_zero]
                      refine fl0 (u := .bool false) (by kernel_rfl) (run_eqi rfl rfl rfl (by simp; omega)) ?_
                      refine fl0 (u := .bool false) (by kernel_rfl) (fun _ => by kernel_rfl) ?_
                      simp only [Act.put, List.setIfInBounds_toArray, List.set_cons_succ, List.set_cons_zero]
                      refine flx (by kernel_rfl) ?_
                      refine flx (by kernel_rfl) ?_
                      refine flx (by kernel_rfl) ?_
                      refine flx (by kernel_rfl) ?_
                      refine flx (by kernel_rfl) ?_
                      refine flx (by kernel_rfl) ?_
                      refine flx (by kernel_rfl) ?_
                      refine flx (by kernel_rfl) ?_
                      refine flx (by kernel_rfl) ?_
                      simp only [Act.put, List.setIfInBounds_toArray, List.set_cons_succ, List.set_cons_zero]
                      refine fl0 (u := .bool false) (by kernel_rfl) (fun _ => by kernel_rfl) ?_
                      simp only [Act.put, List.setIfInBounds_toArray, List.set_cons_succ, List.set_cons_zero]
                      refine fl0 (u := .bool false) (by kernel_rfl) (fun _ => by kernel_rfl) ?_
                      refine fl0 (u := .bool false) (by kernel_rfl) (fun _ => by kernel_rfl) ?_
                      simp only [Act.put, List.setIfInBounds_toArray, List.set_cons_succ, List.set_cons_zero]
                      refine flnil ?_
                      have h10 := H9.out.drew
                      generalize wr.drew = w10 at *
                      have hok2 : False ∨ ∃ i0, i1 + 1 ≤ i0 ∧ i0 < m ∧ 3 * i0 % 8 = j ∧ c = z1 i0 := by
                        rcases HOK.out with h | ⟨i0, q1, q2, q3, q4⟩
                        · cases h
                        · exact .inr ⟨i0, by have : i0 ≠ i1 := fun e => hq (e ▸ q3); omega, q2, q3, q4⟩
                      have HOK2 := Lib.hid hok2
                      clear H9 B9 cB9 HOK hok2
                      go_wp2
                      go_roundw
                      case rel => exact ⟨i1 + 1, by omega, by omega, by go_num, false, rfl, HOK2.out.imp False.elim id, h10⟩
                      case measure => simp [intOf]; omega
                · have hx4 : len1 ≤ i1 := by omega
                  clear hlt4
                  have hokt : okb = true := by
                    rcases hok with h | ⟨i0, q1, q2, q3, q4⟩
                    · exact h
                    · omega
                  subst hokt
                  have H9 := Lib.hid h9
                  clear h9 hok
                  go_wp2
                  go_roundw
                  case rel =>
                    have h9 := H9.out
                    refine ⟨j + 1, by omega, by go_num, ⟨h9.only, fun r hr => h9.each r (by simp at hr ⊢; rcases hr with h | h <;> simp [h]), ?_⟩⟩
                    obtain ⟨p1, p2⟩ := List.pairwise_cons.1 h9.apart
                    exact List.pairwise_cons.2 ⟨fun r hr => p1 r (by simp at hr ⊢; simp [hr]), by simp⟩
                  case measure => simp [intOf]; omega
            · go_wp2
              go_ret
              exact ⟨rfl, h6.only⟩

set_option maxRecDepth 100000 in
set_option maxHeartbeats 8000000 in
theorem sure_any1 (w : World) (a0 : Option Addr) (len0 cap0 : Nat) (z0 : Nat → Int) (a1 : Option Addr) (len1 cap1 : Nat) (z1 : Nat → Int) (kv : Value) (keep : List Int) (hl0 : len0 ≤ 9223372036854775807) (hl1 : len1 ≤ 9223372036854775807)
    (b0 : BytesAt w a0 len0 z0) (b1 : BytesAt w a1 len1 z1) (hkeep : ∀ F : List Nat, (∀ y ∈ F, w.heap.size ≤ y) → KeepAt w F kv keep) (hc0 : len0 ≤ 60) (hc1 : 60 < len1) :
    Calls Try.prog 4 #[.slice a0 len0 cap0, .slice a1 len1 cap1, kv] w fun e w' => e = .returned (.bool true) ∧ Only [] w w' := by
  have HO0 := Lib.hid b0
  have HO1 := Lib.hid b1
  have HKP := Lib.hid hkeep
  clear b0 b1 hkeep
  go_enter Try.func4, Try.ntmps4
  go_wp2_with fail
  refine (shown_any w).mono ?_
  rintro e w1 ⟨rfl, o1⟩
  have h1 : Has w w1 [] := (Has.start w).later o1
  have N8 := Lib.hid (has_new h1 8 (by omega) (by omega))
  clear h1 o1
  go_wp2_with fail
  refine N8.out.mono ?_
  rintro e w2 ⟨b, F, rfl, h2⟩
  clear N8
  have H := Lib.hid h2
  clear h2
  go_wp2_with fail
  have h3 := (H.out.alloc (.cells #[.int .u8 0, .int .u8 0, .int .u8 0, .int .u8 0, .int .u8 0, .int .u8 0, .int .u8 0, .int .u8 0] 47)).swap
  generalize w2.heap.size = g at *
  generalize w2.alloc (.cells #[.int .u8 0, .int .u8 0, .int .u8 0, .int .u8 0, .int .u8 0, .int .u8 0, .int .u8 0, .int .u8 0] 47) = w3 at *
  clear H
  go_loopw [11] (fun i wr => ∃ k : Nat, k ≤ len0 ∧ k ≤ 60 ∧ i = .int .i64 k ∧ SureRel w b g k wr) (fun i _ => 60 - (intOf i).toNat)
  case atStart => exact ⟨0, by omega, by omega, rfl, F, _, _, _, h3, row8, WInv.start⟩
  case round =>
    clear h3
    obtain ⟨k, hk1, hk2, rfl, F, S, A, f, h, hA, inv⟩ := hrel
    by_cases hlt : k < len0 ∧ k < 60
    · obtain ⟨hlt1, hlt2⟩ := hlt
      obtain ⟨lg, lo, rfl, hlg, cB⟩ := HO0.out.cell k hlt1
      have cell : ∀ (x : World), Only [] w x → x.cell? ⟨lg, lo + k, none⟩ = some (.int .u8 (z0 k)) := fun x ho => (World.cell?_of_block (w := w) (ho.block lg hlg (by simp))).trans cB
      have cB1 := cell _ h.only
      have hm : k % 8 < 8 := Nat.mod_lt _ (by omega)
      have H := Lib.hid h
      have CELL := Lib.hid cell
      have HAR := Lib.hid hA
      have INV := Lib.hid inv
      clear h inv cB cell hA
      go_wp2_with fail
      refine (full_any (z0 k) _).mono ?_
      rintro e w' ⟨rfl, rfl⟩
      go_wp2_with fail
      rw [show ((k : Int) % 8) = ((k % 8 : Nat) : Int) by omega]
      refine (has_write H.out ((k % 8 : Nat) : Int) (z0 k) (INV.out.reach _ hm) (by have := INV.out.fuse; omega) (by have := INV.out.steps; omega) (by have := INV.out.pend; omega)).mono ?_
      rintro e w5 ⟨rfl, F5, h5⟩
      have inv5 := INV.out.write (k % 8) (z0 k)
      have cB6 := CELL.out _ h5.only
      obtain ⟨s1, s2, s3⟩ := has_set h5.swap HAR.out hm (z0 k)
      have H7 := Lib.hid s3
      have INV5 := Lib.hid inv5
      clear h5 s3 inv5 H INV cB1
      go_wp2
      go_roundw
      case rel => exact ⟨k + 1, by omega, by omega, by go_num, F5, _, _, _, H7.out.swap, HAR.out.set _ _, INV5.out⟩
      case measure => simp [intOf]; omega
    · have hx0 : len0 ≤ k := by omega
      clear hlt
      have BR := Lib.hid (has_barrier h inv.on (by have := inv.fuse; omega) (by have := inv.steps; omega))
      have HAR := Lib.hid hA
      have binv := BInv.start inv hk2 (fun i => 3 * i % 8) z1
      generalize S.stepped.settled = S1 at *
      have BINV := Lib.hid binv
      clear h inv hA binv
      go_wp2_with fail
      refine BR.out.mono ?_
      rintro e w6 ⟨rfl, F6, h6⟩
      clear BR
      have H6 := Lib.hid h6
      clear h6
      go_wp2_with fail
      go_loopw [13] (fun i wr => ∃ m : Nat, m ≤ len1 ∧ m ≤ 60 ∧ i = .int .i64 m ∧ SureRel2 w b g A f z1 m wr) (fun i _ => 60 - (intOf i).toNat)
      case atStart => exact ⟨0, by omega, by omega, rfl, F6, S1, H6.out, BINV.out⟩
      case round =>
        clear H6 BINV
        obtain ⟨m, hm1, hm2, rfl, F7, S7, h7, inv7⟩ := hrel
        by_cases hlt1 : m < len1 ∧ m < 60
        · obtain ⟨hlt2, hlt3⟩ := hlt1
          obtain ⟨lg, lo, rfl, hlg, cB⟩ := HO1.out.cell m hlt2
          have cB1 : wr.cell? ⟨lg, lo + m, none⟩ = some (.int .u8 (z1 m)) := (World.cell?_of_block (w := w) (h7.only.block lg hlg (by simp))).trans cB
          have hq : 3 * m % 8 < 8 := Nat.mod_lt _ (by omega)
          have H := Lib.hid h7
          have INV := Lib.hid inv7
          clear h7 inv7 cB
          go_wp2_with fail
          refine (full_any (z1 m) _).mono ?_
          rintro e w' ⟨rfl, rfl⟩
          go_wp2_with fail
          rw [show ((3 * (m : Int)) % 8) = ((3 * m % 8 : Nat) : Int) by omega]
          refine (has_write H.out ((3 * m % 8 : Nat) : Int) (z1 m) (INV.out.reach _ hq) (by have := INV.out.fuse; omega) (by have := INV.out.steps; omega) (by have := INV.out.len; omega)).mono ?_
          rintro e w8 ⟨rfl, F8, h8⟩
          have inv8 := INV.out.write
          have H8 := Lib.hid h8
          have INV8 := Lib.hid inv8
          clear H INV h8 inv8 cB1
          go_wp2
          go_roundw
          case rel => exact ⟨m + 1, by omega, by omega, by go_num, F8, _, H8.out, INV8.out⟩
          case measure => simp [intOf]; omega
        · have hx1 : 60 ≤ m := by omega
          clear hlt1
          have hF7 : ∀ y ∈ F7, w.heap.size ≤ y := fun y hy => ((h7.each (DRes b F7 S7) (by simp)).2 y hy).1
          have BT := Lib.hid (has_boot h7 ((HKP.out F7 hF7).only h7.only (by simp)) (by have := inv7.len; omega))
          have hread : ∀ j : Nat, j < 8 → ∃ c, ((S7.booted keep).now j).getD Z = fullA c ∧ (c = f j ∨ ∃ i, i < m ∧ 3 * i % 8 = j ∧ c = z1 i) := fun j hj => inv7.booted keep j hj
          have hon : (S7.booted keep).on = true := rfl
          have hn : (S7.booted keep).n = 8 := inv7.n
          have hpl : (S7.booted keep).pend.length = 0 := rfl
          generalize S7.booted keep = S8 at *
          have HRD := Lib.hid hread
          have HON := Lib.hid hon
          have HN := Lib.hid hn
          have HPL := Lib.hid hpl
          clear h7 inv7 hF7 hread hon hn hpl
          go_wp2_with fail
          refine BT.out.mono ?_
          rintro e w8 ⟨rfl, F8, h8⟩
          clear BT
          have WT := waiting_any h8.dat
          rw [HPL.out] at WT
          have WTH := Lib.hid WT
          have H8 := Lib.hid h8
          clear h8 WT
          go_wp2_with fail
          refine WTH.out.mono ?_
          rintro e w' ⟨rfl, rfl⟩
          clear WTH
          go_wp2_with fail
          go_loopw [14] (fun i wr => ∃ j : Nat, j ≤ 8 ∧ i = .int .i64 j ∧ Has w wr [DRes b F8 S8, BRes g (.cells A 47)]) (fun i _ => 8 - (intOf i).toNat)
          case atStart => exact ⟨0, by omega, rfl, H8.out⟩
          case round =>
            clear H8
            obtain ⟨j, hj, rfl, h6⟩ := hrel
            by_cases hj8 : j < 8
            · obtain ⟨c, hc, hcc⟩ := HRD.out j hj8
              have R := has_read h6 j (by simp only [St.reach, HON.out, HN.out]; simp; omega)
              rw [hc] at R
              have RH := Lib.hid R
              have H6 := Lib.hid h6
              have HCC := Lib.hid hcc
              clear R h6 hc hcc
              go_wp2_with fail
              refine RH.out.mono ?_
              rintro e w' ⟨rfl, rfl⟩
              clear RH
              have h7 := (H6.out.alloc (.cells (fullA c) 65)).swap
              clear H6
              generalize wr.heap.size = g7 at *
              generalize wr.alloc (.cells (fullA c) 65) = w7 at *
              have h7' : Has w w7 [DRes b F8 S8, BRes g (.cells A 47), BRes g7 (.cells (fullA c) 65)] := by
                have a1 := h7.drop
                obtain ⟨p1, p2⟩ := List.pairwise_cons.1 h7.apart
                obtain ⟨p3, p4⟩ := List.pairwise_cons.1 p2
                refine ⟨h7.only, fun r hr => h7.each r (by simp at hr ⊢; rcases hr with h | h | h <;> simp [h]), List.pairwise_cons.2 ⟨fun r hr => p1 r (by simp at hr ⊢; rcases hr with h | h <;> simp [h]), List.pairwise_cons.2 ⟨fun r hr x hx hxr => ?_, by simp⟩⟩⟩
                simp at hr
                subst hr
                exact p3 _ (by simp) x hxr hx
              have H7 := Lib.hid h7'
              have B7 := Lib.hid (h7'.blk (g := g7) (o := .cells (fullA c) 65) (by simp))
              have C7 : Hid (w7.cell? ⟨g, j, none⟩ = some (.int .u8 (f j))) := (cell_of_row _ _ _ _ _ _ (h7'.blk (g := g) (o := .cells A 47) (by simp))).trans (HAR.out.cell j hj8)
              clear h7 h7'
              go_wp2_with fail
              refine wp_region_flow Lat [0, 1, 0, 0, 1, 2, 1, 0, 0] (by kernel_rfl) (by kernel_rfl) Lat.refl Lat.trans ?_
              refine fl0 (u := .slice (some ⟨g7, 0, none⟩) 64 64) (by kernel_rfl) (fun _ => by kernel_rfl) ?_
              simp only [Act.put, List.setIfInBounds_toArray, List.set_cons_succ, List.set_cons_zero]
              refine fl1 (u := .string (fullS c)) (by kernel_rfl) (fun x hx => run_str rfl rfl (hx.at B7.out)) ?_
              refine fl0 (u := .int .i64 j) (by kernel_rfl) (fun _ => by kernel_rfl) ?_
              simp only [Act.put, List.setIfInBounds_toArray, List.set_cons_succ, List.set_cons_zero]
              refine fl0 (u := .pointer (some ⟨g, j, none⟩)) (by kernel_rfl) (run_index47 hj8 rfl rfl rfl) ?_
              simp only [Act.put, List.setIfInBounds_toArray, List.set_cons_succ, List.set_cons_zero]
              refine fl1 (u := .int .u8 (f j)) (by kernel_rfl) (fun x hx => run_load1 rfl rfl (hx.cell C7.out) isAgg5) ?_
              simp only [Act.put, List.setIfInBounds_toArray, List.set_cons_succ, List.set_cons_zero]
              refine fl2 (u := .slice (some ⟨w7.drew.heap.size, 0, none⟩) 64 64) (w' := w7.drew.alloc (.cells (fullA (f j)) 5)) (by kernel_rfl) (Lat.alloc _ _) (does_full rfl rfl) ?_
              simp only [Act.put, List.setIfInBounds_toArray, List.set_cons_succ, List.set_cons_zero]
              refine fl1 (u := .string (fullS (f j))) (by kernel_rfl) (fun x hx => run_str rfl rfl (hx.at (heap_alloc_last w7.drew _))) ?_
              simp only [Act.put, List.setIfInBounds_toArray, List.set_cons_succ, List.set_cons_zero]
              refine fl0 (u := .bool ((fullS c).toList == (fullS (f j)).toList)) (by kernel_rfl) (run_eql_str rfl rfl rfl) ?_
              simp only [Act.put, List.setIfInBounds_toArray, List.set_cons_succ, List.set_cons_zero]
              refine fl0 (u := .bool ((fullS c).toList == (fullS (f j)).toList)) (by kernel_rfl) (fun _ => by kernel_rfl) ?_
              simp only [Act.put, List.setIfInBounds_toArray, List.set_cons_succ, List.set_cons_zero]
              refine flnil ?_
              have h8 := (H7.out.drew.alloc' (.cells (fullA (f j)) 5))
              generalize w7.drew.alloc (.cells (fullA (f j)) 5) = w8x at *
              have hok0 : ((fullS c).toList == (fullS (f j)).toList) = true ∨ ∃ i0, 0 ≤ i0 ∧ i0 < m ∧ 3 * i0 % 8 = j ∧ c = z1 i0 := by
                rcases HCC.out with h | ⟨i, hi⟩
                · left; rw [h]; simp
                · exact .inr ⟨i, by omega, hi⟩
              generalize ((fullS c).toList == (fullS (f j)).toList) = okb0 at *
              have HOK := Lib.hid hok0
              have H8 := Lib.hid h8
              clear H7 B7 C7 HCC hok0 h8
              go_wp2_with fail
              go_loopw [17, 18] (fun okv i wr => ∃ i1 : Nat, i1 ≤ len1 ∧ i1 ≤ 60 ∧ i = .int .i64 i1 ∧ OkRel w b g g7 F8 S8 A z1 c j m i1 okv wr) (fun _ i _ => 60 - (intOf i).toNat)
              case atStart => exact ⟨0, by omega, by omega, rfl, okb0, rfl, HOK.out, H8.out⟩
              case round =>
                clear HOK H8
                obtain ⟨i1, hi1, hi2, rfl, okb, rfl, hok, h9⟩ := hrel
                by_cases hlt4 : i1 < len1 ∧ i1 < 60
                · obtain ⟨hlt5, hlt6⟩ := hlt4
                  obtain ⟨lg, lo, rfl, hlg, cB⟩ := HO1.out.cell i1 hlt5
                  have cB9 : Hid (wr.cell? ⟨lg, lo + i1, none⟩ = some (.int .u8 (z1 i1))) := (World.cell?_of_block (w := w) (h9.only.block lg hlg (by simp))).trans cB
                  have B9 := Lib.hid (h9.blk (g := g7) (o := .cells (fullA c) 65) (by simp))
                  have H9 := Lib.hid h9
                  have HOK := Lib.hid hok
                  clear h9 cB hok
                  cases okb with
                  | true =>
                    go_wp2_with fail
                    refine wp_region_flow Lat [0, 0, 0, 0, 0, 0, 0, 0, 0, 1, 0, 0, 0, 1, 2, 1, 0, 0, 0, 0] (by kernel_rfl) (by kernel_rfl) Lat.refl Lat.trans ?_
                    refine fl0 (u := .bool true) (by kernel_rfl) (fun _ => by kernel_rfl) ?_
                    refine fl0 (u := .bool true) (by kernel_rfl) (fun _ => by kernel_rfl) ?_
                    simp only [Act.put, List.setIfInBounds_toArray, List.set_cons_succ, List.set_cons_zero]
                    refine flx (by kernel_rfl) ?_
                    refine flx (by kernel_rfl) ?_
                    refine flx (by kernel_rfl) ?_
                    refine flx (by kernel_rfl) ?_
                    refine flx (by kernel_rfl) ?_
                    refine flx (by kernel_rfl) ?_
                    simp only [Act.put, List.setIfInBounds_toArray, List.set_cons_succ, List.set_cons_zero]
                    refine flx (by kernel_rfl) ?_
                    refine flx (by kernel_rfl) ?_
                    refine flx (by kernel_rfl) ?_
                    refine flx (by kernel_rfl) ?_
                    refine flx (by kernel_rfl) ?_
                    refine flx (by kernel_rfl) ?_
                    refine flx (by kernel_rfl) ?_
                    refine flx (by kernel_rfl) ?_
                    refine flx (by kernel_rfl) ?_
                    refine flx (by kernel_rfl) ?_
                    simp only [Act.put, List.setIfInBounds_toArray, List.set_cons_succ, List.set_cons_zero]
                    refine fl0 (u := .bool true) (by kernel_rfl) (fun _ => by kernel_rfl) ?_
                    refine fl0 (u := .bool true) (by kernel_rfl) (fun _ => by kernel_rfl) ?_
                    simp only [Act.put, List.setIfInBounds_toArray, List.set_cons_succ, List.set_cons_zero]
                    refine flnil ?_
                    have h10 := H9.out.drew
                    generalize wr.drew = w10 at *
                    clear H9 B9 cB9 HOK
                    go_wp2
                    go_roundw
                    case rel =>
                      have hfin : ∃ i1' : Nat, i1' ≤ len1 ∧ i1' ≤ 60 ∧ Value.int .i64 (↑i1 + 1) = .int .i64 i1' ∧ OkRel w b g g7 F8 S8 A z1 c j m i1' (.bool true) w10 := ⟨i1 + 1, by omega, by omega, by go_num, true, rfl, .inl rfl, h10⟩
                      first | exact hfin | ((repeat apply Exists.intro); exact ⟨hfin, rfl⟩)
                    case measure => simp [intOf]; omega
                  | false =>
                    by_cases hq : 3 * i1 % 8 = j
                    · have hqb : (((3 * i1 % 8 : Nat) : Int) == (j : Int)) = true := by rw [hq]; simp
                      go_wp2_with fail
                      refine wp_region_flow Lat [0, 0, 0, 0, 0, 0, 0, 0, 0, 1, 0, 0, 0, 1, 2, 1, 0, 0, 0, 0] (by kernel_rfl) (by kernel_rfl) Lat.refl Lat.trans ?_
                      refine fl0 (u := .bool false) (by kernel_rfl) (fun _ => by kernel_rfl) ?_
                      refine fl0 (u := .bool false) (by kernel_rfl) (fun _ => by kernel_rfl) ?_
                      simp only [Act.put, List.setIfInBounds_toArray, List.set_cons_succ, List.set_cons_zero]
                      refine fl0 (u := .int .i64 i1) (by kernel_rfl) (fun _ => by kernel_rfl) ?_
                      simp only [Act.put, List.setIfInBounds_toArray, List.set_cons_succ, List.set_cons_zero]
                      refine fl0 (u := .int .i64 (3 * i1)) (by kernel_rfl) (run_mul3 (by omega) rfl rfl rfl) ?_
                      simp only [Act.put, List.setIfInBounds_toArray, List.set_cons_succ, List.set_cons_zero]
                      refine fl0 (u := .int .i64 j) (by kernel_rfl) (run_rem8 (by omega) rfl rfl rfl (by omega)) ?_
                      refine fl0 (u := .int .i64 j) (by kernel_rfl) (fun _ => by kernel_rfl) ?_
                      simp only [Act.put, List.setIfInBounds_toArray, List.set_cons_succ, List.set_cons_zero]
                      refine fl0 (u := .bool true) (by kernel_rfl) (run_eqi rfl rfl rfl (by simp)) ?_
                      refine fl0 (u := .bool true) (by kernel_rfl) (fun _ => by kernel_rfl) ?_
                      simp only [Act.put, List.setIfInBounds_toArray, List.set_cons_succ, List.set_cons_zero]
                      refine fl0 (u := .slice (some ⟨g7, 0, none⟩) 64 64) (by kernel_rfl) (fun _ => by kernel_rfl) ?_
                      simp only [Act.put, List.setIfInBounds_toArray, List.set_cons_succ, List.set_cons_zero]
                      refine fl1 (u := .string (fullS c)) (by kernel_rfl) (fun x hx => run_str rfl rfl (hx.at B9.out)) ?_
                      refine fl0 (u := .slice (some ⟨lg, lo, none⟩) len1 cap1) (by kernel_rfl) (fun _ => by kernel_rfl) ?_
                      refine fl0 (u := .int .i64 i1) (by kernel_rfl) (fun _ => by kernel_rfl) ?_
                      simp only [Act.put, List.setIfInBounds_toArray, List.set_cons_succ, List.set_cons_zero]
                      refine fl0 (u := .pointer (some ⟨lg, lo + i1, none⟩)) (by kernel_rfl) (run_index37o hlt5 rfl rfl rfl) ?_
                      simp only [Act.put, List.setIfInBounds_toArray, List.set_cons_succ, List.set_cons_zero]
                      refine fl1 (u := .int .u8 (z1 i1)) (by kernel_rfl) (fun x hx => run_load1 rfl rfl (hx.cell cB9.out) isAgg5) ?_
                      simp only [Act.put, List.setIfInBounds_toArray, List.set_cons_succ, List.set_cons_zero]
                      refine fl2 (u := .slice (some ⟨wr.drew.heap.size, 0, none⟩) 64 64) (w' := wr.drew.alloc (.cells (fullA (z1 i1)) 5)) (by kernel_rfl) (Lat.alloc _ _) (does_full rfl rfl) ?_
                      simp only [Act.put, List.setIfInBounds_toArray, List.set_cons_succ, List.set_cons_zero]
                      refine fl1 (u := .string (fullS (z1 i1))) (by kernel_rfl) (fun x hx => run_str rfl rfl (hx.at (heap_alloc_last wr.drew _))) ?_
                      simp only [Act.put, List.setIfInBounds_toArray, List.set_cons_succ, List.set_cons_zero]
                      refine fl0 (u := .bool ((fullS c).toList == (fullS (z1 i1)).toList)) (by kernel_rfl) (run_eql_str rfl rfl rfl) ?_
                      simp only [Act.put, List.setIfInBounds_toArray, List.set_cons_succ, List.set_cons_zero]
                      refine fl0 (u := .bool ((fullS c).toList == (fullS (z1 i1)).toList)) (by kernel_rfl) (fun _ => by kernel_rfl) ?_
                      simp only [Act.put, List.setIfInBounds_toArray, List.set_cons_succ, List.set_cons_zero]
                      refine fl0 (u := .bool ((fullS c).toList == (fullS (z1 i1)).toList)) (by kernel_rfl) (fun _ => by kernel_rfl) ?_
                      simp only [Act.put, List.setIfInBounds_toArray, List.set_cons_succ, List.set_cons_zero]
                      refine fl0 (u := .bool ((fullS c).toList == (fullS (z1 i1)).toList)) (by kernel_rfl) (fun _ => by kernel_rfl) ?_
                      simp only [Act.put, List.setIfInBounds_toArray, List.set_cons_succ, List.set_cons_zero]
                      refine flnil ?_
                      have h10 := H9.out.drew.alloc' (.cells (fullA (z1 i1)) 5)
                      generalize wr.drew.alloc (.cells (fullA (z1 i1)) 5) = w10 at *
                      have hok2 : ((fullS c).toList == (fullS (z1 i1)).toList) = true ∨ ∃ i0, i1 + 1 ≤ i0 ∧ i0 < m ∧ 3 * i0 % 8 = j ∧ c = z1 i0 := by
                        rcases HOK.out with h | ⟨i0, q1, q2, q3, q4⟩
                        · cases h
                        · by_cases he : i0 = i1
                          · left; rw [q4, he]; simp
                          · exact .inr ⟨i0, by omega, q2, q3, q4⟩
                      generalize ((fullS c).toList == (fullS (z1 i1)).toList) = ob at *
                      have HOK2 := Lib.hid hok2
                      clear H9 B9 cB9 HOK hok2 hqb
                      go_wp2
                      go_roundw
                      case rel => exact ⟨i1 + 1, by omega, by omega, by go_num, ob, rfl, HOK2.out, h10⟩
                      case measure => simp [intOf]; omega
                    · go_wp2_with fail
                      refine wp_region_flow Lat [0, 0, 0, 0, 0, 0, 0, 0, 0, 1, 0, 0, 0, 1, 2, 1, 0, 0, 0, 0] (by kernel_rfl) (by kernel_rfl) Lat.refl Lat.trans ?_
                      refine fl0 (u := .bool false) (by kernel_rfl) (fun _ => by kernel_rfl) ?_
                      refine fl0 (u := .bool false) (by kernel_rfl) (fun _ => by kernel_rfl) ?_
                      simp only [Act.put, List.setIfInBounds_toArray, List.set_cons_succ, List.set_cons_zero]
                      refine fl0 (u := .int .i64 i1) (by kernel_rfl) (fun _ => by kernel_rfl) ?_
                      simp only [Act.put, List.setIfInBounds_toArray, List.set_cons_succ, List.set_cons_zero]
                      refine fl0 (u := .int .i64 (3 * i1)) (by kernel_rfl) (run_mul3 (by omega) rfl rfl rfl) ?_
                      simp only [Act.put, List.setIfInBounds_toArray, List.set_cons_succ, List.set_cons_zero]
                      refine fl0 (u := .int .i64 ((3 * i1 % 8 : Nat) : Int)) (by kernel_rfl) (run_rem8 (by omega) rfl rfl rfl (by omega)) ?_
                      refine fl0 (u := .int .i64 j) (by kernel_rfl) (fun _ => by kernel_rfl) ?_
                      simp only [Act.put, List.setIfInBounds_toArray, List.set_cons_succ, List.set_cons_zero]
                      refine fl0 (u := .bool false) (by kernel_rfl) (run_eqi rfl rfl rfl (by simp; omega)) ?_
                      refine fl0 (u := .bool false) (by kernel_rfl) (fun _ => by kernel_rfl) ?_
                      simp only [Act.put, List.setIfInBounds_toArray, List.set_cons_succ, List.set_cons_zero]
                      refine flx (by kernel_rfl) ?_
                      refine flx (by kernel_rfl) ?_
                      refine flx (by kernel_rfl) ?_
                      refine flx (by kernel_rfl) ?_
                      refine flx (by kernel_rfl) ?_
                      refine flx (by kernel_rfl) ?_
                      refine flx (by kernel_rfl) ?_
                      refine flx (by kernel_rfl) ?_
                      refine flx (by kernel_rfl) ?_
                      simp only [Act.put, List.setIfInBounds_toArray, List.set_cons_succ, List.set_cons_zero]
                      refine fl0 (u := .bool false) (by kernel_rfl) (fun _ => by kernel_rfl) ?_
                      simp only [Act.put, List.setIfInBounds_toArray, List.set_cons_succ, List.set_cons_zero]
                      refine fl0 (u := .bool false) (by kernel_rfl) (fun _ => by kernel_rfl) ?_
                      refine fl0 (u := .bool false) (by kernel_rfl) (fun _ => by kernel_rfl) ?_
                      simp only [Act.put, List.setIfInBounds_toArray, List.set_cons_succ, List.set_cons_zero]
                      refine flnil ?_
                      have h10 := H9.out.drew
                      generalize wr.drew = w10 at *
                      have hok2 : False ∨ ∃ i0, i1 + 1 ≤ i0 ∧ i0 < m ∧ 3 * i0 % 8 = j ∧ c = z1 i0 := by
                        rcases HOK.out with h | ⟨i0, q1, q2, q3, q4⟩
                        · cases h
                        · exact .inr ⟨i0, by have : i0 ≠ i1 := fun e => hq (e ▸ q3); omega, q2, q3, q4⟩
                      have HOK2 := Lib.hid hok2
                      clear H9 B9 cB9 HOK hok2
                      go_wp2
                      go_roundw
                      case rel => exact ⟨i1 + 1, by omega, by omega, by go_num, false, rfl, HOK2.out.imp False.elim id, h10⟩
                      case measure => simp [intOf]; omega
                · have hx4 : 60 ≤ i1 := by omega
                  clear hlt4
                  have hokt : okb = true := by
                    rcases hok with h | ⟨i0, q1, q2, q3, q4⟩
                    · exact h
                    · omega
                  subst hokt
                  have H9 := Lib.hid h9
                  clear h9 hok
                  go_wp2
                  go_roundw
                  case rel =>
                    have h9 := H9.out
                    refine ⟨j + 1, by omega, by go_num, ⟨h9.only, fun r hr => h9.each r (by simp at hr ⊢; rcases hr with h | h <;> simp [h]), ?_⟩⟩
                    obtain ⟨p1, p2⟩ := List.pairwise_cons.1 h9.apart
                    exact List.pairwise_cons.2 ⟨fun r hr => p1 r (by simp at hr ⊢; simp [hr]), by simp⟩
                  case measure => simp [intOf]; omega
            · go_wp2
              go_ret
              exact ⟨rfl, h6.only⟩

set_option maxRecDepth 100000 in
set_option maxHeartbeats 8000000 in
theorem sure_any2 (w : World) (a0 : Option Addr) (len0 cap0 : Nat) (z0 : Nat → Int) (a1 : Option Addr) (len1 cap1 : Nat) (z1 : Nat → Int) (kv : Value) (keep : List Int) (hl0 : len0 ≤ 9223372036854775807) (hl1 : len1 ≤ 9223372036854775807)
    (b0 : BytesAt w a0 len0 z0) (b1 : BytesAt w a1 len1 z1) (hkeep : ∀ F : List Nat, (∀ y ∈ F, w.heap.size ≤ y) → KeepAt w F kv keep) (hc0 : 60 < len0) (hc1 : len1 ≤ 60) :
    Calls Try.prog 4 #[.slice a0 len0 cap0, .slice a1 len1 cap1, kv] w fun e w' => e = .returned (.bool true) ∧ Only [] w w' := by
  have HO0 := Lib.hid b0
  have HO1 := Lib.hid b1
  have HKP := Lib.hid hkeep
  clear b0 b1 hkeep
  go_enter Try.func4, Try.ntmps4
  go_wp2_with fail
  refine (shown_any w).mono ?_
  rintro e w1 ⟨rfl, o1⟩
  have h1 : Has w w1 [] := (Has.start w).later o1
  have N8 := Lib.hid (has_new h1 8 (by omega) (by omega))
  clear h1 o1
  go_wp2_with fail
  refine N8.out.mono ?_
  rintro e w2 ⟨b, F, rfl, h2⟩
  clear N8
  have H := Lib.hid h2
  clear h2
  go_wp2_with fail
  have h3 := (H.out.alloc (.cells #[.int .u8 0, .int .u8 0, .int .u8 0, .int .u8 0, .int .u8 0, .int .u8 0, .int .u8 0, .int .u8 0] 47)).swap
  generalize w2.heap.size = g at *
  generalize w2.alloc (.cells #[.int .u8 0, .int .u8 0, .int .u8 0, .int .u8 0, .int .u8 0, .int .u8 0, .int .u8 0, .int .u8 0] 47) = w3 at *
  clear H
  go_loopw [11] (fun i wr => ∃ k : Nat, k ≤ len0 ∧ k ≤ 60 ∧ i = .int .i64 k ∧ SureRel w b g k wr) (fun i _ => 60 - (intOf i).toNat)
  case atStart => exact ⟨0, by omega, by omega, rfl, F, _, _, _, h3, row8, WInv.start⟩
  case round =>
    clear h3
    obtain ⟨k, hk1, hk2, rfl, F, S, A, f, h, hA, inv⟩ := hrel
    by_cases hlt : k < len0 ∧ k < 60
    · obtain ⟨hlt1, hlt2⟩ := hlt
      obtain ⟨lg, lo, rfl, hlg, cB⟩ := HO0.out.cell k hlt1
      have cell : ∀ (x : World), Only [] w x → x.cell? ⟨lg, lo + k, none⟩ = some (.int .u8 (z0 k)) := fun x ho => (World.cell?_of_block (w := w) (ho.block lg hlg (by simp))).trans cB
      have cB1 := cell _ h.only
      have hm : k % 8 < 8 := Nat.mod_lt _ (by omega)
      have H := Lib.hid h
      have CELL := Lib.hid cell
      have HAR := Lib.hid hA
      have INV := Lib.hid inv
      clear h inv cB cell hA
      go_wp2_with fail
      refine (full_any (z0 k) _).mono ?_
      rintro e w' ⟨rfl, rfl⟩
      go_wp2_with fail
      rw [show ((k : Int) % 8) = ((k % 8 : Nat) : Int) by omega]
      refine (has_write H.out ((k % 8 : Nat) : Int) (z0 k) (INV.out.reach _ hm) (by have := INV.out.fuse; omega) (by have := INV.out.steps; omega) (by have := INV.out.pend; omega)).mono ?_
      rintro e w5 ⟨rfl, F5, h5⟩
      have inv5 := INV.out.write (k % 8) (z0 k)
      have cB6 := CELL.out _ h5.only
      obtain ⟨s1, s2, s3⟩ := has_set h5.swap HAR.out hm (z0 k)
      have H7 := Lib.hid s3
      have INV5 := Lib.hid inv5
      clear h5 s3 inv5 H INV cB1
      go_wp2
      go_roundw
      case rel => exact ⟨k + 1, by omega, by omega, by go_num, F5, _, _, _, H7.out.swap, HAR.out.set _ _, INV5.out⟩
      case measure => simp [intOf]; omega
    · have hx0 : 60 ≤ k := by omega
      clear hlt
      have BR := Lib.hid (has_barrier h inv.on (by have := inv.fuse; omega) (by have := inv.steps; omega))
      have HAR := Lib.hid hA
      have binv := BInv.start inv hk2 (fun i => 3 * i % 8) z1
      generalize S.stepped.settled = S1 at *
      have BINV := Lib.hid binv
      clear h inv hA binv
      go_wp2_with fail
      refine BR.out.mono ?_
      rintro e w6 ⟨rfl, F6, h6⟩
      clear BR
      have H6 := Lib.hid h6
      clear h6
      go_wp2_with fail
      go_loopw [13] (fun i wr => ∃ m : Nat, m ≤ len1 ∧ m ≤ 60 ∧ i = .int .i64 m ∧ SureRel2 w b g A f z1 m wr) (fun i _ => 60 - (intOf i).toNat)
      case atStart => exact ⟨0, by omega, by omega, rfl, F6, S1, H6.out, BINV.out⟩
      case round =>
        clear H6 BINV
        obtain ⟨m, hm1, hm2, rfl, F7, S7, h7, inv7⟩ := hrel
        by_cases hlt1 : m < len1 ∧ m < 60
        · obtain ⟨hlt2, hlt3⟩ := hlt1
          obtain ⟨lg, lo, rfl, hlg, cB⟩ := HO1.out.cell m hlt2
          have cB1 : wr.cell? ⟨lg, lo + m, none⟩ = some (.int .u8 (z1 m)) := (World.cell?_of_block (w := w) (h7.only.block lg hlg (by simp))).trans cB
          have hq : 3 * m % 8 < 8 := Nat.mod_lt _ (by omega)
          have H := Lib.hid h7
          have INV := Lib.hid inv7
          clear h7 inv7 cB
          go_wp2_with fail
          refine (full_any (z1 m) _).mono ?_
          rintro e w' ⟨rfl, rfl⟩
          go_wp2_with fail
          rw [show ((3 * (m : Int)) % 8) = ((3 * m % 8 : Nat) : Int) by omega]
          refine (has_write H.out ((3 * m % 8 : Nat) : Int) (z1 m) (INV.out.reach _ hq) (by have := INV.out.fuse; omega) (by have := INV.out.steps; omega) (by have := INV.out.len; omega)).mono ?_
          rintro e w8 ⟨rfl, F8, h8⟩
          have inv8 := INV.out.write
          have H8 := Lib.hid h8
          have INV8 := Lib.hid inv8
          clear H INV h8 inv8 cB1
          go_wp2
          go_roundw
          case rel => exact ⟨m + 1, by omega, by omega, by go_num, F8, _, H8.out, INV8.out⟩
          case measure => simp [intOf]; omega
        · have hx1 : len1 ≤ m := by omega
          clear hlt1
          have hF7 : ∀ y ∈ F7, w.heap.size ≤ y := fun y hy => ((h7.each (DRes b F7 S7) (by simp)).2 y hy).1
          have BT := Lib.hid (has_boot h7 ((HKP.out F7 hF7).only h7.only (by simp)) (by have := inv7.len; omega))
          have hread : ∀ j : Nat, j < 8 → ∃ c, ((S7.booted keep).now j).getD Z = fullA c ∧ (c = f j ∨ ∃ i, i < m ∧ 3 * i % 8 = j ∧ c = z1 i) := fun j hj => inv7.booted keep j hj
          have hon : (S7.booted keep).on = true := rfl
          have hn : (S7.booted keep).n = 8 := inv7.n
          have hpl : (S7.booted keep).pend.length = 0 := rfl
          generalize S7.booted keep = S8 at *
          have HRD := Lib.hid hread
          have HON := Lib.hid hon
          have HN := Lib.hid hn
          have HPL := Lib.hid hpl
          clear h7 inv7 hF7 hread hon hn hpl
          go_wp2_with fail
          refine BT.out.mono ?_
          rintro e w8 ⟨rfl, F8, h8⟩
          clear BT
          have WT := waiting_any h8.dat
          rw [HPL.out] at WT
          have WTH := Lib.hid WT
          have H8 := Lib.hid h8
          clear h8 WT
          go_wp2_with fail
          refine WTH.out.mono ?_
          rintro e w' ⟨rfl, rfl⟩
          clear WTH
          go_wp2_with fail
          go_loopw [14] (fun i wr => ∃ j : Nat, j ≤ 8 ∧ i = .int .i64 j ∧ Has w wr [DRes b F8 S8, BRes g (.cells A 47)]) (fun i _ => 8 - (intOf i).toNat)
          case atStart => exact ⟨0, by omega, rfl, H8.out⟩
          case round =>
            clear H8
            obtain ⟨j, hj, rfl, h6⟩ := hrel
            by_cases hj8 : j < 8
            · obtain ⟨c, hc, hcc⟩ := HRD.out j hj8
              have R := has_read h6 j (by simp only [St.reach, HON.out, HN.out]; simp; omega)
              rw [hc] at R
              have RH := Lib.hid R
              have H6 := Lib.hid h6
              have HCC := Lib.hid hcc
              clear R h6 hc hcc
              go_wp2_with fail
              refine RH.out.mono ?_
              rintro e w' ⟨rfl, rfl⟩
              clear RH
              have h7 := (H6.out.alloc (.cells (fullA c) 65)).swap
              clear H6
              generalize wr.heap.size = g7 at *
              generalize wr.alloc (.cells (fullA c) 65) = w7 at *
              have h7' : Has w w7 [DRes b F8 S8, BRes g (.cells A 47), BRes g7 (.cells (fullA c) 65)] := by
                have a1 := h7.drop
                obtain ⟨p1, p2⟩ := List.pairwise_cons.1 h7.apart
                obtain ⟨p3, p4⟩ := List.pairwise_cons.1 p2
                refine ⟨h7.only, fun r hr => h7.each r (by simp at hr ⊢; rcases hr with h | h | h <;> simp [h]), List.pairwise_cons.2 ⟨fun r hr => p1 r (by simp at hr ⊢; rcases hr with h | h <;> simp [h]), List.pairwise_cons.2 ⟨fun r hr x hx hxr => ?_, by simp⟩⟩⟩
                simp at hr
                subst hr
                exact p3 _ (by simp) x hxr hx
              have H7 := Lib.hid h7'
              have B7 := Lib.hid (h7'.blk (g := g7) (o := .cells (fullA c) 65) (by simp))
              have C7 : Hid (w7.cell? ⟨g, j, none⟩ = some (.int .u8 (f j))) := (cell_of_row _ _ _ _ _ _ (h7'.blk (g := g) (o := .cells A 47) (by simp))).trans (HAR.out.cell j hj8)
              clear h7 h7'
              go_wp2_with fail
              refine wp_region_flow Lat [0, 1, 0, 0, 1, 2, 1, 0, 0] (by kernel_rfl) (by kernel_rfl) Lat.refl Lat.trans ?_
              refine fl0 (u := .slice (some ⟨g7, 0, none⟩) 64 64) (by kernel_rfl) (fun _ => by kernel_rfl) ?_
              simp only [Act.put, List.setIfInBounds_toArray, List.set_cons_succ, List.set_cons_zero]
              refine fl1 (u := .string (fullS c)) (by kernel_rfl) (fun x hx => run_str rfl rfl (hx.at B7.out)) ?_
              refine fl0 (u := .int .i64 j) (by kernel_rfl) (fun _ => by kernel_rfl) ?_
              simp only [Act.put, List.setIfInBounds_toArray, List.set_cons_succ, List.set_cons_zero]
              refine fl0 (u := .pointer (some ⟨g, j, none⟩)) (by kernel_rfl) (run_index47 hj8 rfl rfl rfl) ?_
              simp only [Act.put, List.setIfInBounds_toArray, List.set_cons_succ, List.set_cons_zero]
              refine fl1 (u := .int .u8 (f j)) (by kernel_rfl) (fun x hx => run_load1 rfl rfl (hx.cell C7.out) isAgg5) ?_
              simp only [Act.put, List.setIfInBounds_toArray, List.set_cons_succ, List.set_cons_zero]
              refine fl2 (u := .slice (some ⟨w7.drew.heap.size, 0, none⟩) 64 64) (w' := w7.drew.alloc (.cells (fullA (f j)) 5)) (by kernel_rfl) (Lat.alloc _ _) (does_full rfl rfl) ?_
              simp only [Act.put, List.setIfInBounds_toArray, List.set_cons_succ, List.set_cons_zero]
              refine fl1 (u := .string (fullS (f j))) (by kernel_rfl) (fun x hx => run_str rfl rfl (hx.at (heap_alloc_last w7.drew _))) ?_
              simp only [Act.put, List.setIfInBounds_toArray, List.set_cons_succ, List.set_cons_zero]
              refine fl0 (u := .bool ((fullS c).toList == (fullS (f j)).toList)) (by kernel_rfl) (run_eql_str rfl rfl rfl) ?_
              simp only [Act.put, List.setIfInBounds_toArray, List.set_cons_succ, List.set_cons_zero]
              refine fl0 (u := .bool ((fullS c).toList == (fullS (f j)).toList)) (by kernel_rfl) (fun _ => by kernel_rfl) ?_
              simp only [Act.put, List.setIfInBounds_toArray, List.set_cons_succ, List.set_cons_zero]
              refine flnil ?_
              have h8 := (H7.out.drew.alloc' (.cells (fullA (f j)) 5))
              generalize w7.drew.alloc (.cells (fullA (f j)) 5) = w8x at *
              have hok0 : ((fullS c).toList == (fullS (f j)).toList) = true ∨ ∃ i0, 0 ≤ i0 ∧ i0 < m ∧ 3 * i0 % 8 = j ∧ c = z1 i0 := by
                rcases HCC.out with h | ⟨i, hi⟩
                · left; rw [h]; simp
                · exact .inr ⟨i, by omega, hi⟩
              generalize ((fullS c).toList == (fullS (f j)).toList) = okb0 at *
              have HOK := Lib.hid hok0
              have H8 := Lib.hid h8
              clear H7 B7 C7 HCC hok0 h8
              go_wp2_with fail
              go_loopw [17, 18] (fun okv i wr => ∃ i1 : Nat, i1 ≤ len1 ∧ i1 ≤ 60 ∧ i = .int .i64 i1 ∧ OkRel w b g g7 F8 S8 A z1 c j m i1 okv wr) (fun _ i _ => 60 - (intOf i).toNat)
              case atStart => exact ⟨0, by omega, by omega, rfl, okb0, rfl, HOK.out, H8.out⟩
              case round =>
                clear HOK H8
                obtain ⟨i1, hi1, hi2, rfl, okb, rfl, hok, h9⟩ := hrel
                by_cases hlt4 : i1 < len1 ∧ i1 < 60
                · obtain ⟨hlt5, hlt6⟩ := hlt4
                  obtain ⟨lg, lo, rfl, hlg, cB⟩ := HO1.out.cell i1 hlt5
                  have cB9 : Hid (wr.cell? ⟨lg, lo + i1, none⟩ = some (.int .u8 (z1 i1))) := (World.cell?_of_block (w := w) (h9.only.block lg hlg (by simp))).trans cB
                  have B9 := Lib.hid (h9.blk (g := g7) (o := .cells (fullA c) 65) (by simp))
                  have H9 := Lib.hid h9
                  have HOK := Lib.hid hok
                  clear h9 cB hok
                  cases okb with
                  | true =>
                    go_wp2_with fail
                    refine wp_region_flow Lat [0, 0, 0, 0, 0, 0, 0, 0, 0, 1, 0, 0, 0, 1, 2, 1, 0, 0, 0, 0] (by kernel_rfl) (by kernel_rfl) Lat.refl Lat.trans ?_
                    refine fl0 (u := .bool true) (by kernel_rfl) (fun _ => by kernel_rfl) ?_
                    refine fl0 (u := .bool true) (by kernel_rfl) (fun _ => by kernel_rfl) ?_
                    simp only [Act.put, List.setIfInBounds_toArray, List.set_cons_succ, List.set_cons_zero]
                    refine flx (by kernel_rfl) ?_
                    refine flx (by kernel_rfl) ?_
                    refine flx (by kernel_rfl) ?_
                    refine flx (by kernel_rfl) ?_
                    refine flx (by kernel_rfl) ?_
                    refine flx (by kernel_rfl) ?_
                    simp only [Act.put, List.setIfInBounds_toArray, List.set_cons_succ, List.set_cons_zero]
                    refine flx (by kernel_rfl) ?_
                    refine flx (by kernel_rfl) ?_
                    refine flx (by kernel_rfl) ?_
                    refine flx (by kernel_rfl) ?_
                    refine flx (by kernel_rfl) ?_
                    refine flx (by kernel_rfl) ?_
                    refine flx (by kernel_rfl) ?_
                    refine flx (by kernel_rfl) ?_
                    refine flx (by kernel_rfl) ?_
                    refine flx (by kernel_rfl) ?_
                    simp only [Act.put, List.setIfInBounds_toArray, List.set_cons_succ, List.set_cons_zero]
                    refine fl0 (u := .bool true) (by kernel_rfl) (fun _ => by kernel_rfl) ?_
                    refine fl0 (u := .bool true) (by kernel_rfl) (fun _ => by kernel_rfl) ?_
                    simp only [Act.put, List.setIfInBounds_toArray, List.set_cons_succ, List.set_cons_zero]
                    refine flnil ?_
                    have h10 := H9.out.drew
                    generalize wr.drew = w10 at *
                    clear H9 B9 cB9 HOK
                    go_wp2
                    go_roundw
                    case rel =>
                      have hfin : ∃ i1' : Nat, i1' ≤ len1 ∧ i1' ≤ 60 ∧ Value.int .i64 (↑i1 + 1) = .int .i64 i1' ∧ OkRel w b g g7 F8 S8 A z1 c j m i1' (.bool true) w10 := ⟨i1 + 1, by omega, by omega, by go_num, true, rfl, .inl rfl, h10⟩
                      first | exact hfin | ((repeat apply Exists.intro); exact ⟨hfin, rfl⟩)
                    case measure => simp [intOf]; omega
                  | false =>
                    by_cases hq : 3 * i1 % 8 = j
                    · have hqb : (((3 * i1 % 8 : Nat) : Int) == (j : Int)) = true := by rw [hq]; simp
                      go_wp2_with fail
                      refine wp_region_flow Lat [0, 0, 0, 0, 0, 0, 0, 0, 0, 1, 0, 0, 0, 1, 2, 1, 0, 0, 0, 0] (by kernel_rfl) (by kernel_rfl) Lat.refl Lat.trans ?_
                      refine fl0 (u := .bool false) (by kernel_rfl) (fun _ => by kernel_rfl) ?_
                      refine fl0 (u := .bool false) (by kernel_rfl) (fun _ => by kernel_rfl) ?_
                      simp only [Act.put, List.setIfInBounds_toArray, List.set_cons_succ, List.set_cons_zero]
                      refine fl0 (u := .int .i64 i1) (by kernel_rfl) (fun _ => by kernel_rfl) ?_
                      simp only [Act.put, List.setIfInBounds_toArray, List.set_cons_succ, List.set_cons_zero]
                      refine fl0 (u := .int .i64 (3 * i1)) (by kernel_rfl) (run_mul3 (by omega) rfl rfl rfl) ?_
                      simp only [Act.put, List.setIfInBounds_toArray, List.set_cons_succ, List.set_cons_zero]
                      refine fl0 (u := .int .i64 j) (by kernel_rfl) (run_rem8 (by omega) rfl rfl rfl (by omega)) ?_
                      refine fl0 (u := .int .i64 j) (by kernel_rfl) (fun _ => by kernel_rfl) ?_
                      simp only [Act.put, List.setIfInBounds_toArray, List.set_cons_succ, List.set_cons_zero]
                      refine fl0 (u := .bool true) (by kernel_rfl) (run_eqi rfl rfl rfl (by simp)) ?_
                      refine fl0 (u := .bool true) (by kernel_rfl) (fun _ => by kernel_rfl) ?_
                      simp only [Act.put, List.setIfInBounds_toArray, List.set_cons_succ, List.set_cons_zero]
                      refine fl0 (u := .slice (some ⟨g7, 0, none⟩) 64 64) (by kernel_rfl) (fun _ => by kernel_rfl) ?_
                      simp only [Act.put, List.setIfInBounds_toArray, List.set_cons_succ, List.set_cons_zero]
                      refine fl1 (u := .string (fullS c)) (by kernel_rfl) (fun x hx => run_str rfl rfl (hx.at B9.out)) ?_
                      refine fl0 (u := .slice (some ⟨lg, lo, none⟩) len1 cap1) (by kernel_rfl) (fun _ => by kernel_rfl) ?_
                      refine fl0 (u := .int .i64 i1) (by kernel_rfl) (fun _ => by kernel_rfl) ?_
                      simp only [Act.put, List.setIfInBounds_toArray, List.set_cons_succ, List.set_cons_zero]
                      refine fl0 (u := .pointer (some ⟨lg, lo + i1, none⟩)) (by kernel_rfl) (run_index37o hlt5 rfl rfl rfl) ?_
                      simp only [Act.put, List.setIfInBounds_toArray, List.set_cons_succ, List.set_cons_zero]
                      refine fl1 (u := .int .u8 (z1 i1)) (by kernel_rfl) (fun x hx => run_load1 rfl rfl (hx.cell cB9.out) isAgg5) ?_
                      simp only [Act.put, List.setIfInBounds_toArray, List.set_cons_succ, List.set_cons_zero]
                      refine fl2 (u := .slice (some ⟨wr.drew.heap.size, 0, none⟩) 64 64) (w' := wr.drew.alloc (.cells (fullA (z1 i1)) 5)) (by kernel_rfl) (Lat.alloc _ _) (does_full rfl rfl) ?_
                      simp only [Act.put, List.setIfInBounds_toArray, List.set_cons_succ, List.set_cons_zero]
                      refine fl1 (u := .string (fullS (z1 i1))) (by kernel_rfl) (fun x hx => run_str rfl rfl (hx.at (heap_alloc_last wr.drew _))) ?_
                      simp only [Act.put, List.setIfInBounds_toArray, List.set_cons_succ, List.set_cons_zero]
                      refine fl0 (u := .bool ((fullS c).toList == (fullS (z1 i1)).toList)) (by kernel_rfl) (run_eql_str rfl rfl rfl) ?_
                      simp only [Act.put, List.setIfInBounds_toArray, List.set_cons_succ, List.set_cons_zero]
                      refine fl0 (u := .bool ((fullS c).toList == (fullS (z1 i1)).toList)) (by kernel_rfl) (fun _ => by kernel_rfl) ?_
                      simp only [Act.put, List.setIfInBounds_toArray, List.set_cons_succ, List.set_cons_zero]
                      refine fl0 (u := .bool ((fullS c).toList == (fullS (z1 i1)).toList)) (by kernel_rfl) (fun _ => by kernel_rfl) ?_
                      simp only [Act.put, List.setIfInBounds_toArray, List.set_cons_succ, List.set_cons_zero]
                      refine fl0 (u := .bool ((fullS c).toList == (fullS (z1 i1)).toList)) (by kernel_rfl) (fun _ => by kernel_rfl) ?_
                      simp only [Act.put, List.setIfInBounds_toArray, List.set_cons_succ, List.set_cons_zero]
                      refine flnil ?_
                      have h10 := H9.out.drew.alloc' (.cells (fullA (z1 i1)) 5)
                      generalize wr.drew.alloc (.cells (fullA (z1 i1)) 5) = w10 at *
                      have hok2 : ((fullS c).toList == (fullS (z1 i1)).toList) = true ∨ ∃ i0, i1 + 1 ≤ i0 ∧ i0 < m ∧ 3 * i0 % 8 = j ∧ c = z1 i0 := by
                        rcases HOK.out with h | ⟨i0, q1, q2, q3, q4⟩
                        · cases h
                        · by_cases he : i0 = i1
                          · left; rw [q4, he]; simp
                          · exact .inr ⟨i0, by omega, q2, q3, q4⟩
                      generalize ((fullS c).toList == (fullS (z1 i1)).toList) = ob at *
                      have HOK2 := Lib.hid hok2
                      clear H9 B9 cB9 HOK hok2 hqb
                      go_wp2
                      go_roundw
                      case rel => exact ⟨i1 + 1, by omega, by omega, by go_num, ob, rfl, HOK2.out, h10⟩
                      case measure => simp [intOf]; omega
                    · go_wp2_with fail
                      refine wp_region_flow Lat [0, 0, 0, 0, 0, 0, 0, 0, 0, 1, 0, 0, 0, 1, 2, 1, 0, 0, 0, 0] (by kernel_rfl) (by kernel_rfl) Lat.refl Lat.trans ?_
                      refine fl0 (u := .bool false) (by kernel_rfl) (fun _ => by kernel_rfl) ?_
                      refine fl0 (u := .bool false) (by kernel_rfl) (fun _ => by kernel_rfl) ?_
                      simp only [Act.put, List.setIfInBounds_toArray, List.set_cons_succ, List.set_cons_zero]
                      refine fl0 (u := .int .i64 i1) (by kernel_rfl) (fun _ => by kernel_rfl) ?_
                      simp only [Act.put, List.setIfInBounds_toArray, List.set_cons_succ, List.set_cons_zero]
                      refine fl0 (u := .int .i64 (3 * i1)) (by kernel_rfl) (run_mul3 (by omega) rfl rfl rfl) ?_
                      simp only [Act.put, List.setIfInBounds_toArray, List.set_cons_succ, List.set_cons_zero]
                      refine fl0 (u := .int .i64 ((3 * i1 % 8 : Nat) : Int)) (by kernel_rfl) (run_rem8 (by omega) rfl rfl rfl (by omega)) ?_
                      refine fl0 (u := .int .i64 j) (by kernel_rfl) (fun _ => by kernel_rfl) ?_
                      simp only [Act.put, List.setIfInBounds_toArray, List.set_cons_succ, List.set_cons_zero]
                      refine fl0 (u := .bool false) (by kernel_rfl) (run_eqi rfl rfl rfl (by simp; omega)) ?_
                      refine fl0 (u := .bool false) (by kernel_rfl) (fun _ => by kernel_rfl) ?_
                      simp only [Act.put, List.setIfInBounds_toArray, List.set_cons_succ, List.set_cons_zero]
                      refine flx (by kernel_rfl) ?_
                      refine flx (by kernel_rfl) ?_
                      refine flx (by kernel_rfl) ?_
                      refine flx (by kernel_rfl) ?_
                      refine flx (by kernel_rfl) ?_
                      refine flx (by kernel_rfl) ?_
                      refine flx (by kernel_rfl) ?_
                      refine flx (by kernel_rfl) ?_
                      refine flx (by kernel_rfl) ?_
                      simp only [Act.put, List.setIfInBounds_toArray, List.set_cons_succ, List.set_cons_zero]
                      refine fl0 (u := .bool false) (by kernel_rfl) (fun _ => by kernel_rfl) ?_
                      simp only [Act.put, List.setIfInBounds_toArray, List.set_cons_succ, List.set_cons_zero]
                      refine fl0 (u := .bool false) (by kernel_rfl) (fun _ => by kernel_rfl) ?_
                      refine fl0 (u := .bool false) (by kernel_rfl) (fun _ => by kernel_rfl) ?_
                      simp only [Act.put, List.setIfInBounds_toArray, List.set_cons_succ, List.set_cons_zero]
                      refine flnil ?_
                      have h10 := H9.out.drew
                      generalize wr.drew = w10 at *
                      have hok2 : False ∨ ∃ i0, i1 + 1 ≤ i0 ∧ i0 < m ∧ 3 * i0 % 8 = j ∧ c = z1 i0 := by
                        rcases HOK.out with h | ⟨i0, q1, q2, q3, q4⟩
                        · cases h
                        · exact .inr ⟨i0, by have : i0 ≠ i1 := fun e => hq (e ▸ q3); omega, q2, q3, q4⟩
                      have HOK2 := Lib.hid hok2
                      clear H9 B9 cB9 HOK hok2
                      go_wp2
                      go_roundw
                      case rel => exact ⟨i1 + 1, by omega, by omega, by go_num, false, rfl, HOK2.out.imp False.elim id, h10⟩
                      case measure => simp [intOf]; omega
                · have hx4 : len1 ≤ i1 := by omega
                  clear hlt4
                  have hokt : okb = true := by
                    rcases hok with h | ⟨i0, q1, q2, q3, q4⟩
                    · exact h
                    · omega
                  subst hokt
                  have H9 := Lib.hid h9
                  clear h9 hok
                  go_wp2
                  go_roundw
                  case rel =>
                    have h9 := H9.out
                    refine ⟨j + 1, by omega, by go_num, ⟨h9.only, fun r hr => h9.each r (by simp at hr ⊢; rcases hr with h | h <;> simp [h]), ?_⟩⟩
                    obtain ⟨p1, p2⟩ := List.pairwise_cons.1 h9.apart
                    exact List.pairwise_cons.2 ⟨fun r hr => p1 r (by simp at hr ⊢; simp [hr]), by simp⟩
                  case measure => simp [intOf]; omega
            · go_wp2
              go_ret
              exact ⟨rfl, h6.only⟩

set_option maxRecDepth 100000 in
set_option maxHeartbeats 8000000 in
theorem sure_any3 (w : World) (a0 : Option Addr) (len0 cap0 : Nat) (z0 : Nat → Int) (a1 : Option Addr) (len1 cap1 : Nat) (z1 : Nat → Int) (kv : Value) (keep : List Int) (hl0 : len0 ≤ 9223372036854775807) (hl1 : len1 ≤ 9223372036854775807)
    (b0 : BytesAt w a0 len0 z0) (b1 : BytesAt w a1 len1 z1) (hkeep : ∀ F : List Nat, (∀ y ∈ F, w.heap.size ≤ y) → KeepAt w F kv keep) (hc0 : 60 < len0) (hc1 : 60 < len1) :
    Calls Try.prog 4 #[.slice a0 len0 cap0, .slice a1 len1 cap1, kv] w fun e w' => e = .returned (.bool true) ∧ Only [] w w' := by
  have HO0 := Lib.hid b0
  have HO1 := Lib.hid b1
  have HKP := Lib.hid hkeep
  clear b0 b1 hkeep
  go_enter Try.func4, Try.ntmps4
  go_wp2_with fail
  refine (shown_any w).mono ?_
  rintro e w1 ⟨rfl, o1⟩
  have h1 : Has w w1 [] := (Has.start w).later o1
  have N8 := Lib.hid (has_new h1 8 (by omega) (by omega))
  clear h1 o1
  go_wp2_with fail
  refine N8.out.mono ?_
  rintro e w2 ⟨b, F, rfl, h2⟩
  clear N8
  have H := Lib.hid h2
  clear h2
  go_wp2_with fail
  have h3 := (H.out.alloc (.cells #[.int .u8 0, .int .u8 0, .int .u8 0, .int .u8 0, .int .u8 0, .int .u8 0, .int .u8 0, .int .u8 0] 47)).swap
  generalize w2.heap.size = g at *
  generalize w2.alloc (.cells #[.int .u8 0, .int .u8 0, .int .u8 0, .int .u8 0, .int .u8 0, .int .u8 0, .int .u8 0, .int .u8 0] 47) = w3 at *
  clear H
  go_loopw [11] (fun i wr => ∃ k : Nat, k ≤ len0 ∧ k ≤ 60 ∧ i = .int .i64 k ∧ SureRel w b g k wr) (fun i _ => 60 - (intOf i).toNat)
  case atStart => exact ⟨0, by omega, by omega, rfl, F, _, _, _, h3, row8, WInv.start⟩
  case round =>
    clear h3
    obtain ⟨k, hk1, hk2, rfl, F, S, A, f, h, hA, inv⟩ := hrel
    by_cases hlt : k < len0 ∧ k < 60
    · obtain ⟨hlt1, hlt2⟩ := hlt
      obtain ⟨lg, lo, rfl, hlg, cB⟩ := HO0.out.cell k hlt1
      have cell : ∀ (x : World), Only [] w x → x.cell? ⟨lg, lo + k, none⟩ = some (.int .u8 (z0 k)) := fun x ho => (World.cell?_of_block (w := w) (ho.block lg hlg (by simp))).trans cB
      have cB1 := cell _ h.only
      have hm : k % 8 < 8 := Nat.mod_lt _ (by omega)
      have H := Lib.hid h
      have CELL := Lib.hid cell
      have HAR := Lib.hid hA
      have INV := Lib.hid inv
      clear h inv cB cell hA
      go_wp2_with fail
      refine (full_any (z0 k) _).mono ?_
      rintro e w' ⟨rfl, rfl⟩
      go_wp2_with fail
      rw [show ((k : Int) % 8) = ((k % 8 : Nat) : Int) by omega]
      refine (has_write H.out ((k % 8 : Nat) : Int) (z0 k) (INV.out.reach _ hm) (by have := INV.out.fuse; omega) (by have := INV.out.steps; omega) (by have := INV.out.pend; omega)).mono ?_
      rintro e w5 ⟨rfl, F5, h5⟩
      have inv5 := INV.out.write (k % 8) (z0 k)
      have cB6 := CELL.out _ h5.only
      obtain ⟨s1, s2, s3⟩ := has_set h5.swap HAR.out hm (z0 k)
      have H7 := Lib.hid s3
      have INV5 := Lib.hid inv5
      clear h5 s3 inv5 H INV cB1
      go_wp2
      go_roundw
      case rel => exact ⟨k + 1, by omega, by omega, by go_num, F5, _, _, _, H7.out.swap, HAR.out.set _ _, INV5.out⟩
      case measure => simp [intOf]; omega
    · have hx0 : 60 ≤ k := by omega
      clear hlt
      have BR := Lib.hid (has_barrier h inv.on (by have := inv.fuse; omega) (by have := inv.steps; omega))
      have HAR := Lib.hid hA
      have binv := BInv.start inv hk2 (fun i => 3 * i % 8) z1
      generalize S.stepped.settled = S1 at *
      have BINV := Lib.hid binv
      clear h inv hA binv
      go_wp2_with fail
      refine BR.out.mono ?_
      rintro e w6 ⟨rfl, F6, h6⟩
      clear BR
      have H6 := Lib.hid h6
      clear h6
      go_wp2_with fail
      go_loopw [13] (fun i wr => ∃ m : Nat, m ≤ len1 ∧ m ≤ 60 ∧ i = .int .i64 m ∧ SureRel2 w b g A f z1 m wr) (fun i _ => 60 - (intOf i).toNat)
      case atStart => exact ⟨0, by omega, by omega, rfl, F6, S1, H6.out, BINV.out⟩
      case round =>
        clear H6 BINV
        obtain ⟨m, hm1, hm2, rfl, F7, S7, h7, inv7⟩ := hrel
        by_cases hlt1 : m < len1 ∧ m < 60
        · obtain ⟨hlt2, hlt3⟩ := hlt1
          obtain ⟨lg, lo, rfl, hlg, cB⟩ := HO1.out.cell m hlt2
          have cB1 : wr.cell? ⟨lg, lo + m, none⟩ = some (.int .u8 (z1 m)) := (World.cell?_of_block (w := w) (h7.only.block lg hlg (by simp))).trans cB
          have hq : 3 * m % 8 < 8 := Nat.mod_lt _ (by omega)
          have H := Lib.hid h7
          have INV := Lib.hid inv7
          clear h7 inv7 cB
          go_wp2_with fail
          refine (full_any (z1 m) _).mono ?_
          rintro e w' ⟨rfl, rfl⟩
          go_wp2_with fail
          rw [show ((3 * (m : Int)) % 8) = ((3 * m % 8 : Nat) : Int) by omega]
          refine (has_write H.out ((3 * m % 8 : Nat) : Int) (z1 m) (INV.out.reach _ hq) (by have := INV.out.fuse; omega) (by have := INV.out.steps; omega) (by have := INV.out.len; omega)).mono ?_
          rintro e w8 ⟨rfl, F8, h8⟩
          have inv8 := INV.out.write
          have H8 := Lib.hid h8
          have INV8 := Lib.hid inv8
          clear H INV h8 inv8 cB1
          go_wp2
          go_roundw
          case rel => exact ⟨m + 1, by omega, by omega, by go_num, F8, _, H8.out, INV8.out⟩
          case measure => simp [intOf]; omega
        · have hx1 : 60 ≤ m := by omega
          clear hlt1
          have hF7 : ∀ y ∈ F7, w.heap.size ≤ y := fun y hy => ((h7.each (DRes b F7 S7) (by simp)).2 y hy).1
          have BT := Lib.hid (has_boot h7 ((HKP.out F7 hF7).only h7.only (by simp)) (by have := inv7.len; omega))
          have hread : ∀ j : Nat, j < 8 → ∃ c, ((S7.booted keep).now j).getD Z = fullA c ∧ (c = f j ∨ ∃ i, i < m ∧ 3 * i % 8 = j ∧ c = z1 i) := fun j hj => inv7.booted keep j hj
          have hon : (S7.booted keep).on = true := rfl
          have hn : (S7.booted keep).n = 8 := inv7.n
          have hpl : (S7.booted keep).pend.length = 0 := rfl
          generalize S7.booted keep = S8 at *
          have HRD := Lib.hid hread
          have HON := Lib.hid hon
          have HN := Lib.hid hn
          have HPL := Lib.hid hpl
          clear h7 inv7 hF7 hread hon hn hpl
          go_wp2_with fail
          refine BT.out.mono ?_
          rintro e w8 ⟨rfl, F8, h8⟩
          clear BT
          have WT := waiting_any h8.dat
          rw [HPL.out] at WT
          have WTH := Lib.hid WT
          have H8 := Lib.hid h8
          clear h8 WT
          go_wp2_with fail
          refine WTH.out.mono ?_
          rintro e w' ⟨rfl, rfl⟩
          clear WTH
          go_wp2_with fail
          go_loopw [14] (fun i wr => ∃ j : Nat, j ≤ 8 ∧ i = .int .i64 j ∧ Has w wr [DRes b F8 S8, BRes g (.cells A 47)]) (fun i _ => 8 - (intOf i).toNat)
          case atStart => exact ⟨0, by omega, rfl, H8.out⟩
          case round =>
            clear H8
            obtain ⟨j, hj, rfl, h6⟩ := hrel
            by_cases hj8 : j < 8
            · obtain ⟨c, hc, hcc⟩ := HRD.out j hj8
              have R := has_read h6 j (by simp only [St.reach, HON.out, HN.out]; simp; omega)
              rw [hc] at R
              have RH := Lib.hid R
              have H6 := Lib.hid h6
              have HCC := Lib.hid hcc
              clear R h6 hc hcc
              go_wp2_with fail
              refine RH.out.mono ?_
              rintro e w' ⟨rfl, rfl⟩
              clear RH
              have h7 := (H6.out.alloc (.cells (fullA c) 65)).swap
              clear H6
              generalize wr.heap.size = g7 at *
              generalize wr.alloc (.cells (fullA c) 65) = w7 at *
              have h7' : Has w w7 [DRes b F8 S8, BRes g (.cells A 47), BRes g7 (.cells (fullA c) 65)] := by
                have a1 := h7.drop
                obtain ⟨p1, p2⟩ := List.pairwise_cons.1 h7.apart
                obtain ⟨p3, p4⟩ := List.pairwise_cons.1 p2
                refine ⟨h7.only, fun r hr => h7.each r (by simp at hr ⊢; rcases hr with h | h | h <;> simp [h]), List.pairwise_cons.2 ⟨fun r hr => p1 r (by simp at hr ⊢; rcases hr with h | h <;> simp [h]), List.pairwise_cons.2 ⟨fun r hr x hx hxr => ?_, by simp⟩⟩⟩
                simp at hr
                subst hr
                exact p3 _ (by simp) x hxr hx
              have H7 := Lib.hid h7'
              have B7 := Lib.hid (h7'.blk (g := g7) (o := .cells (fullA c) 65) (by simp))
              have C7 : Hid (w7.cell? ⟨g, j, none⟩ = some (.int .u8 (f j))) := (cell_of_row _ _ _ _ _ _ (h7'.blk (g := g) (o := .cells A 47) (by simp))).trans (HAR.out.cell j hj8)
              clear h7 h7'
              go_wp2_with fail
              refine wp_region_flow Lat [0, 1, 0, 0, 1, 2, 1, 0, 0] (by kernel_rfl) (by kernel_rfl) Lat.refl Lat.trans ?_
              refine fl0 (u := .slice (some ⟨g7, 0, none⟩) 64 64) (by kernel_rfl) (fun _ => by kernel_rfl) ?_
              simp only [Act.put, List.setIfInBounds_toArray, List.set_cons_succ, List.set_cons_zero]
              refine fl1 (u := .string (fullS c)) (by kernel_rfl) (fun x hx => run_str rfl rfl (hx.at B7.out)) ?_
              refine fl0 (u := .int .i64 j) (by kernel_rfl) (fun _ => by kernel_rfl) ?_
              simp only [Act.put, List.setIfInBounds_toArray, List.set_cons_succ, List.set_cons_zero]
              refine fl0 (u := .pointer (some ⟨g, j, none⟩)) (by kernel_rfl) (run_index47 hj8 rfl rfl rfl) ?_
              simp only [Act.put, List.setIfInBounds_toArray, List.set_cons_succ, List.set_cons_zero]
              refine fl1 (u := .int .u8 (f j)) (by kernel_rfl) (fun x hx => run_load1 rfl rfl (hx.cell C7.out) isAgg5) ?_
              simp only [Act.put, List.setIfInBounds_toArray, List.set_cons_succ, List.set_cons_zero]
              refine fl2 (u := .slice (some ⟨w7.drew.heap.size, 0, none⟩) 64 64) (w' := w7.drew.alloc (.cells (fullA (f j)) 5)) (by kernel_rfl) (Lat.alloc _ _) (does_full rfl rfl) ?_
              simp only [Act.put, List.setIfInBounds_toArray, List.set_cons_succ, List.set_cons_zero]
              refine fl1 (u := .string (fullS (f j))) (by kernel_rfl) (fun x hx => run_str rfl rfl (hx.at (heap_alloc_last w7.drew _))) ?_
              simp only [Act.put, List.setIfInBounds_toArray, List.set_cons_succ, List.set_cons_zero]
              refine fl0 (u := .bool ((fullS c).toList == (fullS (f j)).toList)) (by kernel_rfl) (run_eql_str rfl rfl rfl) ?_
              simp only [Act.put, List.setIfInBounds_toArray, List.set_cons_succ, List.set_cons_zero]
              refine fl0 (u := .bool ((fullS c).toList == (fullS (f j)).toList)) (by kernel_rfl) (fun _ => by kernel_rfl) ?_
              simp only [Act.put, List.setIfInBounds_toArray, List.set_cons_succ, List.set_cons_zero]
              refine flnil ?_
              have h8 := (H7.out.drew.alloc' (.cells (fullA (f j)) 5))
              generalize w7.drew.alloc (.cells (fullA (f j)) 5) = w8x at *
              have hok0 : ((fullS c).toList == (fullS (f j)).toList) = true ∨ ∃ i0, 0 ≤ i0 ∧ i0 < m ∧ 3 * i0 % 8 = j ∧ c = z1 i0 := by
                rcases HCC.out with h | ⟨i, hi⟩
                · left; rw [h]; simp
                · exact .inr ⟨i, by omega, hi⟩
              generalize ((fullS c).toList == (fullS (f j)).toList) = okb0 at *
              have HOK := Lib.hid hok0
              have H8 := Lib.hid h8
              clear H7 B7 C7 HCC hok0 h8
              go_wp2_with fail
              go_loopw [17, 18] (fun okv i wr => ∃ i1 : Nat, i1 ≤ len1 ∧ i1 ≤ 60 ∧ i = .int .i64 i1 ∧ OkRel w b g g7 F8 S8 A z1 c j m i1 okv wr) (fun _ i _ => 60 - (intOf i).toNat)
              case atStart => exact ⟨0, by omega, by omega, rfl, okb0, rfl, HOK.out, H8.out⟩
              case round =>
                clear HOK H8
                obtain ⟨i1, hi1, hi2, rfl, okb, rfl, hok, h9⟩ := hrel
                by_cases hlt4 : i1 < len1 ∧ i1 < 60
                · obtain ⟨hlt5, hlt6⟩ := hlt4
                  obtain ⟨lg, lo, rfl, hlg, cB⟩ := HO1.out.cell i1 hlt5
                  have cB9 : Hid (wr.cell? ⟨lg, lo + i1, none⟩ = some (.int .u8 (z1 i1))) := (World.cell?_of_block (w := w) (h9.only.block lg hlg (by simp))).trans cB
                  have B9 := Lib.hid (h9.blk (g := g7) (o := .cells (fullA c) 65) (by simp))
                  have H9 := Lib.hid h9
                  have HOK := Lib.hid hok
                  clear h9 cB hok
                  cases okb with
                  | true =>
                    go_wp2_with fail
                    refine wp_region_flow Lat [0, 0, 0, 0, 0, 0, 0, 0, 0, 1, 0, 0, 0, 1, 2, 1, 0, 0, 0, 0] (by kernel_rfl) (by kernel_rfl) Lat.refl Lat.trans ?_
                    refine fl0 (u := .bool true) (by kernel_rfl) (fun _ => by kernel_rfl) ?_
                    refine fl0 (u := .bool true) (by kernel_rfl) (fun _ => by kernel_rfl) ?_
                    simp only [Act.put, List.setIfInBounds_toArray, List.set_cons_succ, List.set_cons_zero]
                    refine flx (by kernel_rfl) ?_
                    refine flx (by kernel_rfl) ?_
                    refine flx (by kernel_rfl) ?_
                    refine flx (by kernel_rfl) ?_
                    refine flx (by kernel_rfl) ?_
                    refine flx (by kernel_rfl) ?_
                    simp only [Act.put, List.setIfInBounds_toArray, List.set_cons_succ, List.set_cons_zero]
                    refine flx (by kernel_rfl) ?_
                    refine flx (by kernel_rfl) ?_
                    refine flx (by kernel_rfl) ?_
                    refine flx (by kernel_rfl) ?_
                    refine flx (by kernel_rfl) ?_
                    refine flx (by kernel_rfl) ?_
                    refine flx (by kernel_rfl) ?_
                    refine flx (by kernel_rfl) ?_
                    refine flx (by kernel_rfl) ?_
                    refine flx (by kernel_rfl) ?_
                    simp only [Act.put, List.setIfInBounds_toArray, List.set_cons_succ, List.set_cons_zero]
                    refine fl0 (u := .bool true) (by kernel_rfl) (fun _ => by kernel_rfl) ?_
                    refine fl0 (u := .bool true) (by kernel_rfl) (fun _ => by kernel_rfl) ?_
                    simp only [Act.put, List.setIfInBounds_toArray, List.set_cons_succ, List.set_cons_zero]
                    refine flnil ?_
                    have h10 := H9.out.drew
                    generalize wr.drew = w10 at *
                    clear H9 B9 cB9 HOK
                    go_wp2
                    go_roundw
                    case rel =>
                      have hfin : ∃ i1' : Nat, i1' ≤ len1 ∧ i1' ≤ 60 ∧ Value.int .i64 (↑i1 + 1) = .int .i64 i1' ∧ OkRel w b g g7 F8 S8 A z1 c j m i1' (.bool true) w10 := ⟨i1 + 1, by omega, by omega, by go_num, true, rfl, .inl rfl, h10⟩
                      first | exact hfin | ((repeat apply Exists.intro); exact ⟨hfin, rfl⟩)
                    case measure => simp [intOf]; omega
                  | false =>
                    by_cases hq : 3 * i1 % 8 = j
                    · have hqb : (((3 * i1 % 8 : Nat) : Int) == (j : Int)) = true := by rw [hq]; simp
                      go_wp2_with fail
                      refine wp_region_flow Lat [0, 0, 0, 0, 0, 0, 0, 0, 0, 1, 0, 0, 0, 1, 2, 1, 0, 0, 0, 0] (by kernel_rfl) (by kernel_rfl) Lat.refl Lat.trans ?_
                      refine fl0 (u := .bool false) (by kernel_rfl) (fun _ => by kernel_rfl) ?_
                      refine fl0 (u := .bool false) (by kernel_rfl) (fun _ => by kernel_rfl) ?_
                      simp only [Act.put, List.setIfInBounds_toArray, List.set_cons_succ, List.set_cons_zero]
                      refine fl0 (u := .int .i64 i1) (by kernel_rfl) (fun _ => by kernel_rfl) ?_
                      simp only [Act.put, List.setIfInBounds_toArray, List.set_cons_succ, List.set_cons_zero]
                      refine fl0 (u := .int .i64 (3 * i1)) (by kernel_rfl) (run_mul3 (by omega) rfl rfl rfl) ?_
                      simp only [Act.put, List.setIfInBounds_toArray, List.set_cons_succ, List.set_cons_zero]
                      refine fl0 (u := .int .i64 j) (by kernel_rfl) (run_rem8 (by omega) rfl rfl rfl (by omega)) ?_
                      refine fl0 (u := .int .i64 j) (by kernel_rfl) (fun _ => by kernel_rfl) ?_
                      simp only [Act.put, List.setIfInBounds_toArray, List.set_cons_succ, List.set_cons_zero]
                      refine fl0 (u := .bool true) (by kernel_rfl) (run_eqi rfl rfl rfl (by simp)) ?_
                      refine fl0 (u := .bool true) (by kernel_rfl) (fun _ => by kernel_rfl) ?_
                      simp only [Act.put, List.setIfInBounds_toArray, List.set_cons_succ, List.set_cons_zero]
                      refine fl0 (u := .slice (some ⟨g7, 0, none⟩) 64 64) (by kernel_rfl) (fun _ => by kernel_rfl) ?_
                      simp only [Act.put, List.setIfInBounds_toArray, List.set_cons_succ, List.set_cons_zero]
                      refine fl1 (u := .string (fullS c)) (by kernel_rfl) (fun x hx => run_str rfl rfl (hx.at B9.out)) ?_
                      refine fl0 (u := .slice (some ⟨lg, lo, none⟩) len1 cap1) (by kernel_rfl) (fun _ => by kernel_rfl) ?_
                      refine fl0 (u := .int .i64 i1) (by kernel_rfl) (fun _ => by kernel_rfl) ?_
                      simp only [Act.put, List.setIfInBounds_toArray, List.set_cons_succ, List.set_cons_zero]
                      refine fl0 (u := .pointer (some ⟨lg, lo + i1, none⟩)) (by kernel_rfl) (run_index37o hlt5 rfl rfl rfl) ?_
                      simp only [Act.put, List.setIfInBounds_toArray, List.set_cons_succ, List.set_cons_zero]
                      refine fl1 (u := .int .u8 (z1 i1)) (by kernel_rfl) (fun x hx => run_load1 rfl rfl (hx.cell cB9.out) isAgg5) ?_
                      simp only [Act.put, List.setIfInBounds_toArray, List.set_cons_succ, List.set_cons_zero]
                      refine fl2 (u := .slice (some ⟨wr.drew.heap.size, 0, none⟩) 64 64) (w' := wr.drew.alloc (.cells (fullA (z1 i1)) 5)) (by kernel_rfl) (Lat.alloc _ _) (does_full rfl rfl) ?_
                      simp only [Act.put, List.setIfInBounds_toArray, List.set_cons_succ, List.set_cons_zero]
                      refine fl1 (u := .string (fullS (z1 i1))) (by kernel_rfl) (fun x hx => run_str rfl rfl (hx.at (heap_alloc_last wr.drew _))) ?_
                      simp only [Act.put, List.setIfInBounds_toArray, List.set_cons_succ, List.set_cons_zero]
                      refine fl0 (u := .bool ((fullS c).toList == (fullS (z1 i1)).toList)) (by kernel_rfl) (run_eql_str rfl rfl rfl) ?_
                      simp only [Act.put, List.setIfInBounds_toArray, List.set_cons_succ, List.set_cons_zero]
                      refine fl0 (u := .bool ((fullS c).toList == (fullS (z1 i1)).toList)) (by kernel_rfl) (fun _ => by kernel_rfl) ?_
                      simp only [Act.put, List.setIfInBounds_toArray, List.set_cons_succ, List.set_cons_zero]
                      refine fl0 (u := .bool ((fullS c).toList == (fullS (z1 i1)).toList)) (by kernel_rfl) (fun _ => by kernel_rfl) ?_
                      simp only [Act.put, List.setIfInBounds_toArray, List.set_cons_succ, List.set_cons_zero]
                      refine fl0 (u := .bool ((fullS c).toList == (fullS (z1 i1)).toList)) (by kernel_rfl) (fun _ => by kernel_rfl) ?_
                      simp only [Act.put, List.setIfInBounds_toArray, List.set_cons_succ, List.set_cons_zero]
                      refine flnil ?_
                      have h10 := H9.out.drew.alloc' (.cells (fullA (z1 i1)) 5)
                      generalize wr.drew.alloc (.cells (fullA (z1 i1)) 5) = w10 at *
                      have hok2 : ((fullS c).toList == (fullS (z1 i1)).toList) = true ∨ ∃ i0, i1 + 1 ≤ i0 ∧ i0 < m ∧ 3 * i0 % 8 = j ∧ c = z1 i0 := by
                        rcases HOK.out with h | ⟨i0, q1, q2, q3, q4⟩
                        · cases h
                        · by_cases he : i0 = i1
                          · left; rw [q4, he]; simp
                          · exact .inr ⟨i0, by omega, q2, q3, q4⟩
                      generalize ((fullS c).toList == (fullS (z1 i1)).toList) = ob at *
                      have HOK2 := Lib.hid hok2
                      clear H9 B9 cB9 HOK hok2 hqb
                      go_wp2
                      go_roundw
                      case rel => exact ⟨i1 + 1, by omega, by omega, by go_num, ob, rfl, HOK2.out, h10⟩
                      case measure => simp [intOf]; omega
                    · go_wp2_with fail
                      refine wp_region_flow Lat [0, 0, 0, 0, 0, 0, 0, 0, 0, 1, 0, 0, 0, 1, 2, 1, 0, 0, 0, 0] (by kernel_rfl) (by kernel_rfl) Lat.refl Lat.trans ?_
                      refine fl0 (u := .bool false) (by kernel_rfl) (fun _ => by kernel_rfl) ?_
                      refine fl0 (u := .bool false) (by kernel_rfl) (fun _ => by kernel_rfl) ?_
                      simp only [Act.put, List.setIfInBounds_toArray, List.set_cons_succ, List.set_cons_zero]
                      refine fl0 (u := .int .i64 i1) (by kernel_rfl) (fun _ => by kernel_rfl) ?_
                      simp only [Act.put, List.setIfInBounds_toArray, List.set_cons_succ, List.set_cons_zero]
                      refine fl0 (u := .int .i64 (3 * i1)) (by kernel_rfl) (run_mul3 (by omega) rfl rfl rfl) ?_
                      simp only [Act.put, List.setIfInBounds_toArray, List.set_cons_succ, List.set_cons_zero]
                      refine fl0 (u := .int .i64 ((3 * i1 % 8 : Nat) : Int)) (by kernel_rfl) (run_rem8 (by omega) rfl rfl rfl (by omega)) ?_
                      refine fl0 (u := .int .i64 j) (by kernel_rfl) (fun _ => by kernel_rfl) ?_
                      simp only [Act.put, List.setIfInBounds_toArray, List.set_cons_succ, List.set_cons_zero]
                      refine fl0 (u := .bool false) (by kernel_rfl) (run_eqi rfl rfl rfl (by simp; omega)) ?_
                      refine fl0 (u := .bool false) (by kernel_rfl) (fun _ => by kernel_rfl) ?_
                      simp only [Act.put, List.setIfInBounds_toArray, List.set_cons_succ, List.set_cons_zero]
                      refine flx (by kernel_rfl) ?_
                      refine flx (by kernel_rfl) ?_
                      refine flx (by kernel_rfl) ?_
                      refine flx (by kernel_rfl) ?_
                      refine flx (by kernel_rfl) ?_
                      refine flx (by kernel_rfl) ?_
                      refine flx (by kernel_rfl) ?_
                      refine flx (by kernel_rfl) ?_
                      refine flx (by kernel_rfl) ?_
                      simp only [Act.put, List.setIfInBounds_toArray, List.set_cons_succ, List.set_cons_zero]
                      refine fl0 (u := .bool false) (by kernel_rfl) (fun _ => by kernel_rfl) ?_
                      simp only [Act.put, List.setIfInBounds_toArray, List.set_cons_succ, List.set_cons_zero]
                      refine fl0 (u := .bool false) (by kernel_rfl) (fun _ => by kernel_rfl) ?_
                      refine fl0 (u := .bool false) (by kernel_rfl) (fun _ => by kernel_rfl) ?_
                      simp only [Act.put, List.setIfInBounds_toArray, List.set_cons_succ, List.set_cons_zero]
                      refine flnil ?_
                      have h10 := H9.out.drew
                      generalize wr.drew = w10 at *
                      have hok2 : False ∨ ∃ i0, i1 + 1 ≤ i0 ∧ i0 < m ∧ 3 * i0 % 8 = j ∧ c = z1 i0 := by
                        rcases HOK.out with h | ⟨i0, q1, q2, q3, q4⟩
                        · cases h
                        · exact .inr ⟨i0, by have : i0 ≠ i1 := fun e => hq (e ▸ q3); omega, q2, q3, q4⟩
                      have HOK2 := Lib.hid hok2
                      clear H9 B9 cB9 HOK hok2
                      go_wp2
                      go_roundw
                      case rel => exact ⟨i1 + 1, by omega, by omega, by go_num, false, rfl, HOK2.out.imp False.elim id, h10⟩
                      case measure => simp [intOf]; omega
                · have hx4 : 60 ≤ i1 := by omega
                  clear hlt4
                  have hokt : okb = true := by
                    rcases hok with h | ⟨i0, q1, q2, q3, q4⟩
                    · exact h
                    · omega
                  subst hokt
                  have H9 := Lib.hid h9
                  clear h9 hok
                  go_wp2
                  go_roundw
                  case rel =>
                    have h9 := H9.out
                    refine ⟨j + 1, by omega, by go_num, ⟨h9.only, fun r hr => h9.each r (by simp at hr ⊢; rcases hr with h | h <;> simp [h]), ?_⟩⟩
                    obtain ⟨p1, p2⟩ := List.pairwise_cons.1 h9.apart
                    exact List.pairwise_cons.2 ⟨fun r hr => p1 r (by simp at hr ⊢; simp [hr]), by simp⟩
                  case measure => simp [intOf]; omega
            · go_wp2
              go_ret
              exact ⟨rfl, h6.only⟩


end Go.Proofs.Ytabddepidhfelaa
