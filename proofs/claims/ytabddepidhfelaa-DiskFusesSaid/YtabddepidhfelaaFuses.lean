/- With a fuse just so many steps are done: the walk of the law. -/
import Derived.Test.YtabddepidhfelaaDo
set_option linter.unusedSimpArgs false
namespace Go.Proofs.Ytabddepidhfelaa
open Go.RowKit

structure FuseInv (n : Int) (k : Nat) (f : Nat → Int) (S : St) : Prop where
  size : S.n = 16
  live : 2 * (k : Int) ≤ n → S.on = true ∧ S.fuse = n - 2 * k ∧ S.steps = 2 * k ∧ S.pend = [] ∧ ∀ j, S.sure j = none
  dead : n < 2 * (k : Int) → S.on = false ∧ S.steps = n ∧ S.pend.length ≤ 1
  base : ∀ j : Nat, j < 16 → (S.base j).getD Z = fullA (f j)

theorem FuseInv.start (n : Int) (hn : 0 ≤ n) : FuseInv n 0 (fun _ => 0) ((St.new 16).fused n) :=
  ⟨rfl, fun _ => ⟨rfl, by simp [St.fused, St.new], rfl, rfl, fun _ => rfl⟩, fun h => by omega, fun j _ => by simp only [St.base, St.fused, St.new]; rfl⟩

theorem FuseInv.bounds {n : Int} {k : Nat} {f : Nat → Int} {S : St} (h : FuseInv n k f S) (_hn : 0 ≤ n) (hn2 : n < 30) (hk : k ≤ 20) : S.steps < 1000 ∧ S.pend.length ≤ 1 := by
  by_cases hl : 2 * (k : Int) ≤ n
  · obtain ⟨_, _, h3, h4, _⟩ := h.live hl
    rw [h3, h4]; exact ⟨by omega, by simp⟩
  · obtain ⟨_, h3, h4⟩ := h.dead (by omega)
    exact ⟨by omega, h4⟩

/-- What a round does. -/
theorem FuseInv.round {n : Int} {k : Nat} {f : Nat → Int} {S : St} (h : FuseInv n k f S) (hn : 0 ≤ n) (i : Nat) (hi : i < 16) (c : Int) :
    let r := S.doWrite i (fullA c)
    let q := r.2.doBarrier
    (r.1 = 0 ∧ q.1 = 0 ∧ 2 * (k : Int) < n ∧ 2 * (k : Int) + 1 < n ∧ FuseInv n (k + 1) (fun j => if j = i then c else f j) q.2) ∨
    (r.1 = 0 ∧ q.1 = 2 ∧ 2 * (k : Int) < n ∧ n ≤ 2 * (k : Int) + 1 ∧ FuseInv n (k + 1) f q.2) ∨
    (r.1 = 2 ∧ q.1 = 2 ∧ n ≤ 2 * (k : Int) ∧ n ≤ 2 * (k : Int) + 1 ∧ FuseInv n (k + 1) f q.2) := by
  intro r q
  by_cases hl : 2 * (k : Int) ≤ n
  · obtain ⟨h1, h2, h3, h4, h5⟩ := h.live hl
    have hreach : S.reach i = 0 := by simp only [St.reach, h1, h.size]; simp; omega
    by_cases hz : S.fuse = 0
    · -- the write falls
      have hr : r = (2, S.fallen) := by simp only [r, St.doWrite]; rw [if_neg (by simp [hreach]), if_pos hz]
      have hq : q = (2, S.fallen) := by simp only [q, hr, St.doBarrier]; rfl
      refine .inr (.inr ⟨by rw [hr], by rw [hq], by omega, by omega, ?_⟩)
      rw [hq]
      exact ⟨h.size, fun hc => by omega, fun _ => ⟨rfl, by simp only [St.fallen]; omega, by simp [St.fallen, h4]⟩, h.base⟩
    · have hpos : 0 < S.fuse := by omega
      have hr : r = (0, S.write i (fullA c)) := by simp only [r, St.doWrite]; rw [if_neg (by simp [hreach]), if_neg hz]
      have hfu : (S.write i (fullA c)).fuse = n - 2 * k - 1 := by simp only [St.write, St.written, St.kept, St.stepped, if_pos hpos]; omega
      have hst : (S.write i (fullA c)).steps = 2 * k + 1 := by simp only [St.write, St.written, St.kept, St.stepped]; omega
      have hon : (S.write i (fullA c)).on = true := h1
      have hpl : (S.write i (fullA c)).pend.length = 1 := by simp [St.write, St.written, St.kept, St.stepped, h4]
      have hbase : ∀ j : Nat, j < 16 → ((S.write i (fullA c)).base j).getD Z = fullA (f j) := by
        intro j hj
        rw [← h.base j hj]
        simp only [St.base, St.write, St.written, St.kept, St.stepped, h5, Option.isSome_none, Bool.false_eq_true, if_false, updF]
        by_cases hji : (j : Int) = (i : Int)
        · simp [hji]
        · simp [hji]
      by_cases hz2 : (S.write i (fullA c)).fuse = 0
      · have hq : q = (2, (S.write i (fullA c)).fallen) := by simp only [q, hr, St.doBarrier, hon]; rw [if_neg (by simp), if_pos hz2]
        refine .inr (.inl ⟨by rw [hr], by rw [hq], by omega, by omega, ?_⟩)
        rw [hq]
        exact ⟨h.size, fun hc => by omega, fun _ => ⟨rfl, by simp only [St.fallen]; omega, by simp only [St.fallen]; omega⟩, hbase⟩
      · have hq : q = (0, (S.write i (fullA c)).stepped.settled) := by simp only [q, hr, St.doBarrier, hon]; rw [if_neg (by simp), if_neg hz2]
        refine .inl ⟨by rw [hr], by rw [hq], by omega, by omega, ?_⟩
        rw [hq]
        refine ⟨h.size, fun _ => ⟨h1, ?_, ?_, rfl, fun _ => rfl⟩, fun hc => by omega, ?_⟩
        · simp only [St.settled]; rw [show (S.write i (fullA c)).stepped.fuse = (if 0 < (S.write i (fullA c)).fuse then (S.write i (fullA c)).fuse - 1 else (S.write i (fullA c)).fuse) from rfl, if_pos (by omega)]; omega
        · simp only [St.settled]; rw [show (S.write i (fullA c)).stepped.steps = (S.write i (fullA c)).steps + 1 from rfl]; omega
        · intro j hj
          have hb := h.base j hj
          simp only [St.base, h5, Option.none_or] at hb
          simp only [St.base, St.settled, St.stepped, St.write, St.written, St.kept, updF, Option.none_or]
          by_cases hji : j = i
          · subst hji; simp
          · have : ¬ ((j : Int) = (i : Int)) := by omega
            rw [if_neg this, if_neg hji]
            exact hb
  · obtain ⟨h1, h2, h3⟩ := h.dead (by omega)
    have hreach : S.reach i = 2 := by simp [St.reach, h1]
    have hr : r = (2, S) := by simp only [r, St.doWrite]; rw [if_pos (by simp [hreach]), hreach]
    have hq : q = (2, S) := by simp only [q, hr, St.doBarrier]; rw [if_pos h1]
    refine .inr (.inr ⟨by rw [hr], by rw [hq], by omega, by omega, ?_⟩)
    rw [hq]
    exact ⟨h.size, fun hc => by omega, fun _ => ⟨h1, h2, h3⟩, h.base⟩

theorem bootF_nil (base : Int → Option (Array Value)) (pend : List (Int × Array Value)) : ∀ j, bootF base [] pend j = base
  | 0 => rfl
  | j + 1 => by
    cases h : pend[j]? with
    | none => rw [bootF_none h, bootF_nil base pend j]
    | some p => rw [bootF_some h, bootF_nil base pend j]; rfl

theorem make16 (w : World) : (Instr.makeSlice 37 (.int .i64 16) (.int .i64 16)).run Try.prog w = .ok (.slice (some ⟨w.heap.size, 0, none⟩) 16 16) (w.alloc (.cells (Array.replicate 16 (.int .u8 0)) 5)) := by kernel_rfl
theorem row16 : RowIs (Array.replicate 16 (.int .u8 0)) 16 (fun _ => 0) := ⟨by simp, fun j hj => by simp [hj]⟩

def FuseRel (w : World) (b g : Nat) (n : Int) (k : Nat) (wr : World) : Prop := ∃ F S A f, Has w wr [DRes b F S, BRes g (.cells A 5)] ∧ RowIs A 16 f ∧ FuseInv n k f S

set_option maxRecDepth 100000 in
set_option maxHeartbeats 2000000 in
theorem fuses_any (w : World) (a : Option Addr) (len cap : Nat) (z : Nat → Int) (fuse : Int) (hl : len ≤ 9223372036854775807) (ho : BytesAt w a len z) (hf0 : -9223372036854775808 ≤ fuse) (hf1 : fuse ≤ 9223372036854775807) :
    Calls Try.prog 5 #[.slice a len cap, .int .i64 fuse] w fun e w' => e = .returned (.bool true) ∧ Only [] w w' := by
  have HO := Lib.hid ho
  have hkb := kindF_bd fuse 30 (by omega)
  have KN := Lib.hid (fun x => kind_any fuse 30 x hf0 hf1 (by omega) (by omega))
  have hmk := make16
  clear ho hf0 hf1
  generalize kindF fuse 30 = n at *
  obtain ⟨hn0, hn1⟩ := hkb
  go_enter Try.func5, Try.ntmps5
  go_wp2_with fail
  refine (shown_any w).mono ?_
  rintro e w1 ⟨rfl, o1⟩
  have h1 : Has w w1 [] := (Has.start w).later o1
  have N8 := Lib.hid (has_new h1 16 (by omega) (by omega))
  clear h1 o1
  go_wp2_with fail
  refine N8.out.mono ?_
  rintro e w2 ⟨b, F, rfl, h2⟩
  clear N8
  have H := Lib.hid h2
  clear h2
  go_wp2_with fail
  refine (KN.out _).mono ?_
  rintro e w' ⟨rfl, rfl⟩
  go_wp2_with fail
  refine (has_fuse H.out n (by omega)).mono ?_
  rintro e w3 ⟨rfl, F3, h3⟩
  clear H KN
  have H := Lib.hid h3
  clear h3
  go_wp2_with fail
  have h4 := (H.out.alloc (.cells (Array.replicate 16 (.int .u8 0)) 5)).swap
  generalize w3.heap.size = g at *
  generalize w3.alloc (.cells (Array.replicate 16 (.int .u8 0)) 5) = w4 at *
  clear H hmk
  go_loopw [10] (fun i wr => ∃ k : Nat, k ≤ len ∧ k ≤ 20 ∧ i = .int .i64 k ∧ FuseRel w b g n k wr) (fun i _ => 20 - (intOf i).toNat)
  case atStart => exact ⟨0, by omega, by omega, rfl, F3, _, _, _, h4, row16, FuseInv.start n hn0⟩
  case round =>
    clear h4
    obtain ⟨k, hk1, hk2, rfl, F, S, A, f, h, hA, inv⟩ := hrel
    by_cases hlt : k < len
    · by_cases hlt2 : k < 20
      · obtain ⟨lg, lo, rfl, hlg, cB⟩ := HO.out.cell k hlt
        have cell : ∀ (x : World), Only [] w x → x.cell? ⟨lg, lo + k, none⟩ = some (.int .u8 (z k)) := fun x ho => (World.cell?_of_block (w := w) (ho.block lg hlg (by simp))).trans cB
        have cB1 := cell _ h.only
        obtain ⟨bd1, bd2⟩ := inv.bounds hn0 hn1 hk2
        have hm : k % 16 < 16 := Nat.mod_lt _ (by omega)
        have RD := Lib.hid (inv.round hn0 (k % 16) hm (z k))
        have H := Lib.hid h
        have CELL := Lib.hid cell
        have HAR := Lib.hid hA
        clear h inv cB cell hA
        go_wp2_with fail
        refine (full_any (z k) _).mono ?_
        rintro e w' ⟨rfl, rfl⟩
        go_wp2_with fail
        rw [show ((k : Int) % 16) = ((k % 16 : Nat) : Int) by omega]
        refine (has_doWrite H.out ((k % 16 : Nat) : Int) (z k) (by omega) (by omega)).mono ?_
        rintro e w5 ⟨rfl, F5, h5⟩
        have bd3 : (S.doWrite ((k % 16 : Nat) : Int) (fullA (z k))).2.steps < 1000000000 := by
          unfold St.doWrite; split
          · show S.steps < _; omega
          · split
            · show S.steps < _; omega
            · show S.steps + 1 < _; omega
        have BR := Lib.hid (has_doBarrier h5 bd3)
        clear H h5 bd1 bd2 bd3 cB1
        have RD2 := RD.out
        clear RD
        generalize (S.doWrite ((k % 16 : Nat) : Int) (fullA (z k))).1 = c1 at *
        generalize (S.doWrite ((k % 16 : Nat) : Int) (fullA (z k))).2 = S5 at *
        generalize S5.doBarrier.1 = c2 at *
        generalize S5.doBarrier.2 = S6 at *
        rcases RD2 with ⟨rfl, rfl, q1, q2, inv6⟩ | ⟨rfl, rfl, q1, q2, inv6⟩ | ⟨rfl, rfl, q1, q2, inv6⟩
        · have INV6 := Lib.hid inv6
          clear inv6
          go_wp2_with fail
          refine BR.out.mono ?_
          rintro e w6 ⟨rfl, F6, h6⟩
          clear BR
          have cB6 := CELL.out _ h6.only
          obtain ⟨s1, s2, s3⟩ := has_set h6.swap HAR.out hm (z k)
          have H7 := Lib.hid s3
          clear h6 s3
          go_wp2
          go_roundw
          case rel => exact ⟨k + 1, by omega, by omega, by go_num, F6, S6, _, _, H7.out.swap, HAR.out.set _ _, INV6.out⟩
          case measure => simp [intOf]; omega
        · have INV6 := Lib.hid inv6
          clear inv6
          go_wp2_with fail
          refine BR.out.mono ?_
          rintro e w6 ⟨rfl, F6, h6⟩
          clear BR
          have H7 := Lib.hid h6
          clear h6
          go_wp2
          go_roundw
          case rel => exact ⟨k + 1, by omega, by omega, by go_num, F6, S6, _, _, H7.out, HAR.out, INV6.out⟩
          case measure => simp [intOf]; omega
        · have INV6 := Lib.hid inv6
          clear inv6
          go_wp2_with fail
          refine BR.out.mono ?_
          rintro e w6 ⟨rfl, F6, h6⟩
          clear BR
          have H7 := Lib.hid h6
          clear h6
          go_wp2
          go_roundw
          case rel => exact ⟨k + 1, by omega, by omega, by go_num, F6, S6, _, _, H7.out, HAR.out, INV6.out⟩
          case measure => simp [intOf]; omega
      · have hkl : k = 20 := by omega
        obtain ⟨bd1, bd2⟩ := inv.bounds hn0 hn1 hk2
        subst hkl
        have hc : n ≤ 2 * ((20 : Nat) : Int) := by omega
        have hst : S.steps = n := by by_cases h2 : 2 * ((20 : Nat) : Int) = n; (rw [(inv.live (by omega)).2.2.1]; omega); exact (inv.dead (by omega)).2.1
        have H := Lib.hid h
        have HAR := Lib.hid hA
        have INV := Lib.hid inv
        have ST := steps_any h.dat
        rw [hst] at ST
        have STH := Lib.hid ST
        clear h hA inv hst ST
        go_wp2_with fail
        refine STH.out.mono ?_
        rintro e w' ⟨rfl, rfl⟩
        clear STH
        go_wp2_with fail
        refine (has_boot (keep := []) H.out ⟨none, 0, rfl, by simp, fun hne => absurd rfl hne⟩ (by omega)).mono ?_
        rintro e w7 ⟨rfl, F7, h7⟩
        have hb7 : ∀ j : Nat, j < 16 → ((S.booted []).now j).getD Z = fullA (f j) := fun j hj => by simp only [St.booted, bootF_nil]; exact INV.out.base j hj
        have on7 : (S.booted []).on = true := rfl
        have n7 : (S.booted []).n = 16 := INV.out.size
        generalize S.booted [] = S7 at *
        clear H INV
        have H7 := Lib.hid h7
        have HB7 := Lib.hid hb7
        have ON7 := Lib.hid on7
        have N7 := Lib.hid n7
        clear h7 hb7 on7 n7
        go_wp2_with fail
        go_loopw [13] (fun i wr => ∃ j : Nat, j ≤ 16 ∧ i = .int .i64 j ∧ Has w wr [DRes b F7 S7, BRes g (.cells A 5)]) (fun i _ => 16 - (intOf i).toNat)
        case atStart => exact ⟨0, by omega, rfl, H7.out⟩
        case round =>
          clear H7
          obtain ⟨j, hj, rfl, h6⟩ := hrel
          by_cases hj8 : j < 16
          · have R := has_read h6 j (by simp only [St.reach, ON7.out, N7.out]; simp; omega)
            rw [HB7.out j hj8] at R
            have RH := Lib.hid R
            have H6 := Lib.hid h6
            clear R h6
            go_wp2_with fail
            refine RH.out.mono ?_
            rintro e w' ⟨rfl, rfl⟩
            clear RH
            have h7 := H6.out.alloc (.cells (fullA (f j)) 65)
            clear H6
            generalize wr.heap.size = g7 at *
            generalize wr.alloc (.cells (fullA (f j)) 65) = w7 at *
            have H7 := Lib.hid h7
            have B7 := Lib.hid (h7.blk (g := g7) (o := .cells (fullA (f j)) 65) (by simp))
            have C7 : Hid (w7.cell? ⟨g, j, none⟩ = some (.int .u8 (f j))) := (cell_of_row _ _ _ _ _ _ (h7.blk (g := g) (o := .cells A 5) (by simp))).trans (HAR.out.cell j hj8)
            clear h7
            go_wp2_with fail
            refine wp_region_flow Lat [0, 0, 0, 0, 1, 0, 0, 0, 1, 2, 1, 0, 0] (by kernel_rfl) (by kernel_rfl) Lat.refl Lat.trans ?_
            refine fl0 (u := .int .i64 0) (by kernel_rfl) (fun _ => by kernel_rfl) ?_
            refine fl0 (u := .bool false) (by kernel_rfl) (fun _ => by kernel_rfl) ?_
            refine fl0 (u := .bool false) (by kernel_rfl) (fun _ => by kernel_rfl) ?_
            simp only [Act.put, List.setIfInBounds_toArray, List.set_cons_succ, List.set_cons_zero]
            refine fl0 (u := .slice (some ⟨g7, 0, none⟩) 64 64) (by kernel_rfl) (fun _ => by kernel_rfl) ?_
            simp only [Act.put, List.setIfInBounds_toArray, List.set_cons_succ, List.set_cons_zero]
            refine fl1 (u := .string (fullS (f j))) (by kernel_rfl) (fun x hx => run_str rfl rfl (hx.at B7.out)) ?_
            refine fl0 (u := .slice (some ⟨g, 0, none⟩) 16 16) (by kernel_rfl) (fun _ => by kernel_rfl) ?_
            refine fl0 (u := .int .i64 j) (by kernel_rfl) (fun _ => by kernel_rfl) ?_
            simp only [Act.put, List.setIfInBounds_toArray, List.set_cons_succ, List.set_cons_zero]
            refine fl0 (u := .pointer (some ⟨g, j, none⟩)) (by kernel_rfl) (run_index37 hj8 rfl rfl rfl) ?_
            simp only [Act.put, List.setIfInBounds_toArray, List.set_cons_succ, List.set_cons_zero]
            refine fl1 (u := .int .u8 (f j)) (by kernel_rfl) (fun x hx => run_load1 rfl rfl (hx.cell C7.out) isAgg5) ?_
            simp only [Act.put, List.setIfInBounds_toArray, List.set_cons_succ, List.set_cons_zero]
            refine fl2 (u := .slice (some ⟨w7.drew.heap.size, 0, none⟩) 64 64) (w' := w7.drew.alloc (.cells (fullA (f j)) 5)) (by kernel_rfl) (Lat.alloc _ _) (does_full rfl rfl) ?_
            simp only [Act.put, List.setIfInBounds_toArray, List.set_cons_succ, List.set_cons_zero]
            refine fl1 (u := .string (fullS (f j))) (by kernel_rfl) (fun x hx => run_str rfl rfl (hx.at (heap_alloc_last w7.drew _))) ?_
            simp only [Act.put, List.setIfInBounds_toArray, List.set_cons_succ, List.set_cons_zero]
            refine fl0 (u := .bool false) (by kernel_rfl) (run_neq_self rfl rfl rfl) ?_
            refine fl0 (u := .bool false) (by kernel_rfl) (fun _ => by kernel_rfl) ?_
            simp only [Act.put, List.setIfInBounds_toArray, List.set_cons_succ, List.set_cons_zero]
            refine flnil ?_
            have h8 := (H7.out.drop.drew.alloc' (.cells (fullA (f j)) 5))
            generalize w7.drew.alloc (.cells (fullA (f j)) 5) = w8 at *
            clear H7 B7 C7
            go_wp2
            go_roundw
            case rel => exact ⟨j + 1, by omega, by go_num, h8⟩
            case measure => simp [intOf]; omega
          · have H6 := Lib.hid h6
            have ONC := on_any h6.dat
            rw [ON7.out] at ONC
            have ONH := Lib.hid ONC
            clear h6 ONC
            go_wp2_with fail
            refine ONH.out.mono ?_
            rintro e w' ⟨rfl, rfl⟩
            go_wp2
            go_ret
            exact ⟨rfl, H6.out.only⟩
    · have hkl : k = len := by omega
      obtain ⟨bd1, bd2⟩ := inv.bounds hn0 hn1 hk2
      subst hkl
      rcases Int.lt_or_le (2 * (k : Int)) n with hc | hc
      · have hst : S.steps = 2 * (k : Int) := (inv.live (by omega)).2.2.1
        have H := Lib.hid h
        have HAR := Lib.hid hA
        have INV := Lib.hid inv
        have ST := steps_any h.dat
        rw [hst] at ST
        have STH := Lib.hid ST
        clear h hA inv hst ST
        go_wp2_with fail
        refine STH.out.mono ?_
        rintro e w' ⟨rfl, rfl⟩
        clear STH
        go_wp2_with fail
        refine (has_boot (keep := []) H.out ⟨none, 0, rfl, by simp, fun hne => absurd rfl hne⟩ (by omega)).mono ?_
        rintro e w7 ⟨rfl, F7, h7⟩
        have hb7 : ∀ j : Nat, j < 16 → ((S.booted []).now j).getD Z = fullA (f j) := fun j hj => by simp only [St.booted, bootF_nil]; exact INV.out.base j hj
        have on7 : (S.booted []).on = true := rfl
        have n7 : (S.booted []).n = 16 := INV.out.size
        generalize S.booted [] = S7 at *
        clear H INV
        have H7 := Lib.hid h7
        have HB7 := Lib.hid hb7
        have ON7 := Lib.hid on7
        have N7 := Lib.hid n7
        clear h7 hb7 on7 n7
        go_wp2_with fail
        go_loopw [13] (fun i wr => ∃ j : Nat, j ≤ 16 ∧ i = .int .i64 j ∧ Has w wr [DRes b F7 S7, BRes g (.cells A 5)]) (fun i _ => 16 - (intOf i).toNat)
        case atStart => exact ⟨0, by omega, rfl, H7.out⟩
        case round =>
          clear H7
          obtain ⟨j, hj, rfl, h6⟩ := hrel
          by_cases hj8 : j < 16
          · have R := has_read h6 j (by simp only [St.reach, ON7.out, N7.out]; simp; omega)
            rw [HB7.out j hj8] at R
            have RH := Lib.hid R
            have H6 := Lib.hid h6
            clear R h6
            go_wp2_with fail
            refine RH.out.mono ?_
            rintro e w' ⟨rfl, rfl⟩
            clear RH
            have h7 := H6.out.alloc (.cells (fullA (f j)) 65)
            clear H6
            generalize wr.heap.size = g7 at *
            generalize wr.alloc (.cells (fullA (f j)) 65) = w7 at *
            have H7 := Lib.hid h7
            have B7 := Lib.hid (h7.blk (g := g7) (o := .cells (fullA (f j)) 65) (by simp))
            have C7 : Hid (w7.cell? ⟨g, j, none⟩ = some (.int .u8 (f j))) := (cell_of_row _ _ _ _ _ _ (h7.blk (g := g) (o := .cells A 5) (by simp))).trans (HAR.out.cell j hj8)
            clear h7
            go_wp2_with fail
            refine wp_region_flow Lat [0, 0, 0, 0, 1, 0, 0, 0, 1, 2, 1, 0, 0] (by kernel_rfl) (by kernel_rfl) Lat.refl Lat.trans ?_
            refine fl0 (u := .int .i64 0) (by kernel_rfl) (fun _ => by kernel_rfl) ?_
            refine fl0 (u := .bool false) (by kernel_rfl) (fun _ => by kernel_rfl) ?_
            refine fl0 (u := .bool false) (by kernel_rfl) (fun _ => by kernel_rfl) ?_
            simp only [Act.put, List.setIfInBounds_toArray, List.set_cons_succ, List.set_cons_zero]
            refine fl0 (u := .slice (some ⟨g7, 0, none⟩) 64 64) (by kernel_rfl) (fun _ => by kernel_rfl) ?_
            simp only [Act.put, List.setIfInBounds_toArray, List.set_cons_succ, List.set_cons_zero]
            refine fl1 (u := .string (fullS (f j))) (by kernel_rfl) (fun x hx => run_str rfl rfl (hx.at B7.out)) ?_
            refine fl0 (u := .slice (some ⟨g, 0, none⟩) 16 16) (by kernel_rfl) (fun _ => by kernel_rfl) ?_
            refine fl0 (u := .int .i64 j) (by kernel_rfl) (fun _ => by kernel_rfl) ?_
            simp only [Act.put, List.setIfInBounds_toArray, List.set_cons_succ, List.set_cons_zero]
            refine fl0 (u := .pointer (some ⟨g, j, none⟩)) (by kernel_rfl) (run_index37 hj8 rfl rfl rfl) ?_
            simp only [Act.put, List.setIfInBounds_toArray, List.set_cons_succ, List.set_cons_zero]
            refine fl1 (u := .int .u8 (f j)) (by kernel_rfl) (fun x hx => run_load1 rfl rfl (hx.cell C7.out) isAgg5) ?_
            simp only [Act.put, List.setIfInBounds_toArray, List.set_cons_succ, List.set_cons_zero]
            refine fl2 (u := .slice (some ⟨w7.drew.heap.size, 0, none⟩) 64 64) (w' := w7.drew.alloc (.cells (fullA (f j)) 5)) (by kernel_rfl) (Lat.alloc _ _) (does_full rfl rfl) ?_
            simp only [Act.put, List.setIfInBounds_toArray, List.set_cons_succ, List.set_cons_zero]
            refine fl1 (u := .string (fullS (f j))) (by kernel_rfl) (fun x hx => run_str rfl rfl (hx.at (heap_alloc_last w7.drew _))) ?_
            simp only [Act.put, List.setIfInBounds_toArray, List.set_cons_succ, List.set_cons_zero]
            refine fl0 (u := .bool false) (by kernel_rfl) (run_neq_self rfl rfl rfl) ?_
            refine fl0 (u := .bool false) (by kernel_rfl) (fun _ => by kernel_rfl) ?_
            simp only [Act.put, List.setIfInBounds_toArray, List.set_cons_succ, List.set_cons_zero]
            refine flnil ?_
            have h8 := (H7.out.drop.drew.alloc' (.cells (fullA (f j)) 5))
            generalize w7.drew.alloc (.cells (fullA (f j)) 5) = w8 at *
            clear H7 B7 C7
            go_wp2
            go_roundw
            case rel => exact ⟨j + 1, by omega, by go_num, h8⟩
            case measure => simp [intOf]; omega
          · have H6 := Lib.hid h6
            have ONC := on_any h6.dat
            rw [ON7.out] at ONC
            have ONH := Lib.hid ONC
            clear h6 ONC
            go_wp2_with fail
            refine ONH.out.mono ?_
            rintro e w' ⟨rfl, rfl⟩
            go_wp2
            go_ret
            exact ⟨rfl, H6.out.only⟩
      · have hst : S.steps = n := by by_cases h2 : 2 * (k : Int) = n; (rw [(inv.live (by omega)).2.2.1]; omega); exact (inv.dead (by omega)).2.1
        have H := Lib.hid h
        have HAR := Lib.hid hA
        have INV := Lib.hid inv
        have ST := steps_any h.dat
        rw [hst] at ST
        have STH := Lib.hid ST
        clear h hA inv hst ST
        go_wp2_with fail
        refine STH.out.mono ?_
        rintro e w' ⟨rfl, rfl⟩
        clear STH
        go_wp2_with fail
        refine (has_boot (keep := []) H.out ⟨none, 0, rfl, by simp, fun hne => absurd rfl hne⟩ (by omega)).mono ?_
        rintro e w7 ⟨rfl, F7, h7⟩
        have hb7 : ∀ j : Nat, j < 16 → ((S.booted []).now j).getD Z = fullA (f j) := fun j hj => by simp only [St.booted, bootF_nil]; exact INV.out.base j hj
        have on7 : (S.booted []).on = true := rfl
        have n7 : (S.booted []).n = 16 := INV.out.size
        generalize S.booted [] = S7 at *
        clear H INV
        have H7 := Lib.hid h7
        have HB7 := Lib.hid hb7
        have ON7 := Lib.hid on7
        have N7 := Lib.hid n7
        clear h7 hb7 on7 n7
        go_wp2_with fail
        go_loopw [13] (fun i wr => ∃ j : Nat, j ≤ 16 ∧ i = .int .i64 j ∧ Has w wr [DRes b F7 S7, BRes g (.cells A 5)]) (fun i _ => 16 - (intOf i).toNat)
        case atStart => exact ⟨0, by omega, rfl, H7.out⟩
        case round =>
          clear H7
          obtain ⟨j, hj, rfl, h6⟩ := hrel
          by_cases hj8 : j < 16
          · have R := has_read h6 j (by simp only [St.reach, ON7.out, N7.out]; simp; omega)
            rw [HB7.out j hj8] at R
            have RH := Lib.hid R
            have H6 := Lib.hid h6
            clear R h6
            go_wp2_with fail
            refine RH.out.mono ?_
            rintro e w' ⟨rfl, rfl⟩
            clear RH
            have h7 := H6.out.alloc (.cells (fullA (f j)) 65)
            clear H6
            generalize wr.heap.size = g7 at *
            generalize wr.alloc (.cells (fullA (f j)) 65) = w7 at *
            have H7 := Lib.hid h7
            have B7 := Lib.hid (h7.blk (g := g7) (o := .cells (fullA (f j)) 65) (by simp))
            have C7 : Hid (w7.cell? ⟨g, j, none⟩ = some (.int .u8 (f j))) := (cell_of_row _ _ _ _ _ _ (h7.blk (g := g) (o := .cells A 5) (by simp))).trans (HAR.out.cell j hj8)
            clear h7
            go_wp2_with fail
            refine wp_region_flow Lat [0, 0, 0, 0, 1, 0, 0, 0, 1, 2, 1, 0, 0] (by kernel_rfl) (by kernel_rfl) Lat.refl Lat.trans ?_
            refine fl0 (u := .int .i64 0) (by kernel_rfl) (fun _ => by kernel_rfl) ?_
            refine fl0 (u := .bool false) (by kernel_rfl) (fun _ => by kernel_rfl) ?_
            refine fl0 (u := .bool false) (by kernel_rfl) (fun _ => by kernel_rfl) ?_
            simp only [Act.put, List.setIfInBounds_toArray, List.set_cons_succ, List.set_cons_zero]
            refine fl0 (u := .slice (some ⟨g7, 0, none⟩) 64 64) (by kernel_rfl) (fun _ => by kernel_rfl) ?_
            simp only [Act.put, List.setIfInBounds_toArray, List.set_cons_succ, List.set_cons_zero]
            refine fl1 (u := .string (fullS (f j))) (by kernel_rfl) (fun x hx => run_str rfl rfl (hx.at B7.out)) ?_
            refine fl0 (u := .slice (some ⟨g, 0, none⟩) 16 16) (by kernel_rfl) (fun _ => by kernel_rfl) ?_
            refine fl0 (u := .int .i64 j) (by kernel_rfl) (fun _ => by kernel_rfl) ?_
            simp only [Act.put, List.setIfInBounds_toArray, List.set_cons_succ, List.set_cons_zero]
            refine fl0 (u := .pointer (some ⟨g, j, none⟩)) (by kernel_rfl) (run_index37 hj8 rfl rfl rfl) ?_
            simp only [Act.put, List.setIfInBounds_toArray, List.set_cons_succ, List.set_cons_zero]
            refine fl1 (u := .int .u8 (f j)) (by kernel_rfl) (fun x hx => run_load1 rfl rfl (hx.cell C7.out) isAgg5) ?_
            simp only [Act.put, List.setIfInBounds_toArray, List.set_cons_succ, List.set_cons_zero]
            refine fl2 (u := .slice (some ⟨w7.drew.heap.size, 0, none⟩) 64 64) (w' := w7.drew.alloc (.cells (fullA (f j)) 5)) (by kernel_rfl) (Lat.alloc _ _) (does_full rfl rfl) ?_
            simp only [Act.put, List.setIfInBounds_toArray, List.set_cons_succ, List.set_cons_zero]
            refine fl1 (u := .string (fullS (f j))) (by kernel_rfl) (fun x hx => run_str rfl rfl (hx.at (heap_alloc_last w7.drew _))) ?_
            simp only [Act.put, List.setIfInBounds_toArray, List.set_cons_succ, List.set_cons_zero]
            refine fl0 (u := .bool false) (by kernel_rfl) (run_neq_self rfl rfl rfl) ?_
            refine fl0 (u := .bool false) (by kernel_rfl) (fun _ => by kernel_rfl) ?_
            simp only [Act.put, List.setIfInBounds_toArray, List.set_cons_succ, List.set_cons_zero]
            refine flnil ?_
            have h8 := (H7.out.drop.drew.alloc' (.cells (fullA (f j)) 5))
            generalize w7.drew.alloc (.cells (fullA (f j)) 5) = w8 at *
            clear H7 B7 C7
            go_wp2
            go_roundw
            case rel => exact ⟨j + 1, by omega, by go_num, h8⟩
            case measure => simp [intOf]; omega
          · have H6 := Lib.hid h6
            have ONC := on_any h6.dat
            rw [ON7.out] at ONC
            have ONH := Lib.hid ONC
            clear h6 ONC
            go_wp2_with fail
            refine ONH.out.mono ?_
            rintro e w' ⟨rfl, rfl⟩
            go_wp2
            go_ret
            exact ⟨rfl, H6.out.only⟩

end Go.Proofs.Ytabddepidhfelaa
