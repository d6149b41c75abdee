/- A sector has what was written there last: the walk of the law. -/
import Derived.Test.YtabddepidhfelaaShown
set_option linter.unusedSimpArgs false
namespace Go.Proofs.Ytabddepidhfelaa
open Go.RowKit

theorem kind_nat (c : Int) (n : Nat) (w : World) (h0 : -9223372036854775808 ≤ c) (h1 : c ≤ 9223372036854775807) (hn : 0 < n) (hn1 : n ≤ 100) :
    Calls Try.prog 14 #[.int .i64 c, .int .i64 (n : Int)] w fun e w' => e = .returned (.int .i64 ((kindF c n).toNat : Nat)) ∧ w = w' := by
  refine (kind_any c n w h0 h1 (by omega) (by omega)).mono ?_
  rintro e w' ⟨rfl, rfl⟩
  exact ⟨ret_int (by have := kindF_bd c n (by omega); omega), rfl⟩

/-- The elements of a slice of calls, as the law reads them. -/
structure OpsAt (w : World) (a : Option Addr) (len : Nat) (kd at_ by_ : Nat → Int) : Prop where
  cell : ∀ i, i < len → ∃ g o, a = some ⟨g, o, none⟩ ∧ g < w.heap.size ∧ w.cell? ⟨g, o + i * 5, none⟩ = some (.int .i64 (kd i)) ∧ w.cell? ⟨g, o + i * 5 + 1, none⟩ = some (.int .i64 (at_ i)) ∧ w.cell? ⟨g, o + i * 5 + 3, none⟩ = some (.int .u8 (by_ i))
  rg : ∀ i, i < len → -9223372036854775808 ≤ at_ i ∧ at_ i ≤ 9223372036854775807

/-- The state of the disk and of what should be there. -/
structure LastInv (S : St) (A : Array Value) (f : Nat → Int) (k : Nat) : Prop where
  on : S.on = true
  fuse : S.fuse = -1
  n : S.n = 8
  steps : S.steps ≤ 2 * k
  pend : S.pend.length ≤ k
  size : A.size = 8
  cell : ∀ j, j < 8 → A[j]? = some (.int .u8 (f j))
  now : ∀ j : Nat, j < 8 → (S.now j).getD Z = fullA (f j)

def LastRel (w : World) (b hb k : Nat) (wr : World) : Prop := ∃ F S A f, Has w wr [DRes b F S, BRes hb (.cells A 47)] ∧ LastInv S A f k

theorem LastInv.start : LastInv (St.new 8) #[.int .u8 0, .int .u8 0, .int .u8 0, .int .u8 0, .int .u8 0, .int .u8 0, .int .u8 0, .int .u8 0] (fun _ => 0) 0 :=
  ⟨rfl, rfl, rfl, by simp [St.new], by simp [St.new], rfl, fun j hj => by match j, hj with | 0, _ | 1, _ | 2, _ | 3, _ | 4, _ | 5, _ | 6, _ | 7, _ => rfl, fun j _ => by simp only [St.new, Option.getD_none]; rfl⟩

theorem LastInv.write {S : St} {A : Array Value} {f : Nat → Int} {k : Nat} (h : LastInv S A f k) (i : Nat) (hi : i < 8) (c : Int) :
    LastInv (S.write i (fullA c)) (A.setIfInBounds i (.int .u8 c)) (fun j => if j = i then c else f j) (k + 1) := by
  refine ⟨h.on, ?_, h.n, ?_, ?_, by simpa using h.size, fun j hj => ?_, fun j hj => ?_⟩
  · simp [St.write, St.written, St.kept, St.stepped, h.fuse]
  · have := h.steps; simp only [St.write, St.written, St.kept, St.stepped]; omega
  · have := h.pend; simp only [St.write, St.written, St.kept, St.stepped, List.length_append, List.length_cons, List.length_nil]; omega
  · by_cases hji : j = i
    · subst hji; simp [h.size, hj]
    · have : i ≠ j := fun e => hji e.symm
      rw [Array.getElem?_setIfInBounds_ne this, h.cell j hj, if_neg hji]
  · simp only [St.write, St.written, St.kept, St.stepped, updF]
    by_cases hji : j = i
    · subst hji; simp
    · have : ¬ ((j : Int) = (i : Int)) := by omega
      rw [if_neg this, if_neg hji]
      exact h.now j hj

theorem LastInv.barrier {S : St} {A : Array Value} {f : Nat → Int} {k : Nat} (h : LastInv S A f k) (hs : S.steps + 1 ≤ 2 * k) : LastInv S.stepped.settled A f k := by
  refine ⟨h.on, ?_, h.n, ?_, by simp [St.settled], h.size, h.cell, h.now⟩
  · simp [St.settled, St.stepped, h.fuse]
  · simp only [St.settled, St.stepped]; omega

section
variable {o : Oper} {a : Act}
theorem run_neq_self {x y : Operand} {s : ByteArray} {t : TypeId} (ho : o.op = .binOp .neq 9 x y t) (hx : a.eval x = .string s) (hy : a.eval y = .string s) : ∀ w, (execOp a.eval o).run Try.prog w = .ok (.value (.bool false)) w := by
  intro w
  unfold execOp
  simp only [ho, hx, hy]
  go_simp
theorem run_index47 {x y : Operand} {g j : Nat} (hj : j < 8) (ho : o.op = .indexAddr 47 x y) (hx : a.eval x = .pointer (some ⟨g, 0, none⟩)) (hy : a.eval y = .int .i64 j) : ∀ w, (execOp a.eval o).run Try.prog w = .ok (.value (.pointer (some ⟨g, j, none⟩))) w := by
  intro w
  have h1 : (0 : Int) ≤ (j : Int) := by omega
  have h2 : (j : Int) < 8 := by omega
  unfold execOp
  simp only [ho, hx, hy]
  go_simp
theorem isAgg5 (w : World) : (isAgg 5).run Try.prog w = .ok false w := by kernel_rfl
end

set_option maxRecDepth 100000 in
set_option maxHeartbeats 1000000 in
theorem last_any (w : World) (a : Option Addr) (len cap : Nat) (kd at_ by_ : Nat → Int) (hl : len ≤ 9223372036854775807) (ho : OpsAt w a len kd at_ by_) :
    Calls Try.prog 6 #[.slice a len cap] w fun e w' => e = .returned (.bool true) ∧ Only [] w w' := by
  have HO := Lib.hid ho
  clear ho
  go_enter Try.func6, Try.ntmps6
  go_wp2_with fail
  refine (shown_any w).mono ?_
  rintro e w1 ⟨rfl, o1⟩
  have h1 : Has w w1 [] := (Has.start w).later o1
  have N8 := Lib.hid (has_new h1 8 (by omega) (by omega))
  clear h1 o1
  go_wp2_with fail
  refine N8.out.mono ?_
  rintro e w2 ⟨b, F, rfl, h2⟩
  clear N8
  have H := Lib.hid h2
  clear h2
  go_wp2_with fail
  have h3 := (H.out.alloc (.cells #[.int .u8 0, .int .u8 0, .int .u8 0, .int .u8 0, .int .u8 0, .int .u8 0, .int .u8 0, .int .u8 0] 47)).swap
  generalize w2.heap.size = hb at *
  generalize w2.alloc (.cells #[.int .u8 0, .int .u8 0, .int .u8 0, .int .u8 0, .int .u8 0, .int .u8 0, .int .u8 0, .int .u8 0] 47) = w3 at *
  clear H
  go_loopw [7] (fun i wr => ∃ k : Nat, k ≤ len ∧ k ≤ 100 ∧ i = .int .i64 k ∧ LastRel w b hb k wr) (fun i _ => 100 - (intOf i).toNat)
  case atStart => exact ⟨0, by omega, by omega, rfl, F, _, _, _, h3, LastInv.start⟩
  case round =>
    clear h3
    obtain ⟨k, hk1, hk2, rfl, F, S, A, f, h, inv⟩ := hrel
    by_cases hlt : k < len
    · by_cases hlt2 : k < 100
      · obtain ⟨g, o, rfl, hg, cK, cA, cB⟩ := HO.out.cell k hlt
        obtain ⟨r1, r2⟩ := HO.out.rg k hlt
        have cell : ∀ (x : World) (off : Nat) (v : Value), Only [] w x → w.cell? ⟨g, off, none⟩ = some v → x.cell? ⟨g, off, none⟩ = some v := fun x off v ho hc => (World.cell?_of_block (w := w) (ho.block g hg (by simp))).trans hc
        have cA1 := cell _ _ _ h.only cA
        have cB1 := cell _ _ _ h.only cB
        have H := Lib.hid h
        have INV := Lib.hid inv
        have CK := Lib.hid cK
        have CB := Lib.hid cB
        have CELL := Lib.hid cell
        clear h inv cK cA cB cell
        have hkb := kindF_bd (at_ k) 8 (by omega)
        have hkn : (kindF (at_ k) 8).toNat < 8 := by omega
        have KN := Lib.hid (kind_nat (at_ k) 8 wr r1 r2 (by omega) (by omega))
        generalize (kindF (at_ k) 8).toNat = kn at *
        clear hkb r1 r2
        go_wp2_with fail
        refine KN.out.mono ?_
        rintro e w' ⟨rfl, rfl⟩
        clear KN
        go_wp2_with fail
        refine (full_any (by_ k) _).mono ?_
        rintro e w' ⟨rfl, rfl⟩
        go_wp2_with fail
        refine (has_write H.out kn (by_ k) ?_ ?_ ?_ ?_).mono ?_
        · have := INV.out; simp only [St.reach, this.on, this.n]; simp; omega
        · have := INV.out.fuse; omega
        · have := INV.out.steps; omega
        · have := INV.out.pend; omega
        rintro e w4 ⟨rfl, F4, h4⟩
        have cK4 := CELL.out _ _ _ h4.only CK.out
        have inv4 := INV.out.write kn hkn (by_ k)
        have hst : (S.write kn (fullA (by_ k))).steps + 1 ≤ 2 * ((k + 1 : Nat) : Int) := by have := INV.out.steps; simp only [St.write, St.written, St.kept, St.stepped]; omega
        generalize hS4 : S.write kn (fullA (by_ k)) = S4 at *
        have H4 := Lib.hid h4
        have INV4 := Lib.hid inv4
        have HST := Lib.hid hst
        clear h4 inv4 hst hS4
        generalize hf5 : (fun j => if j = kn then by_ k else f j) = f5 at *
        clear hf5
        cases hk3 : (kd k == 3) with
        | true =>
          go_wp2_with fail
          refine (has_barrier H4.out INV4.out.on (by have := INV4.out.fuse; omega) (by have := HST.out; omega)).mono ?_
          rintro e w5 ⟨rfl, F5, h5⟩
          have inv5 := INV4.out.barrier HST.out
          generalize S4.stepped.settled = S5 at *
          clear H4 INV4 HST cK4 hk3
          have c5 := CELL.out _ _ _ h5.only CB.out
          have hblk5 := h5.blk (g := hb) (o := .cells A 47) (by simp)
          have hc5 : w5.cell? ⟨hb, kn, none⟩ = some (.int .u8 (f kn)) := (cell_of_row _ _ _ _ _ _ hblk5).trans (INV.out.cell kn hkn)
          have hf5 : w5.frozen? ⟨hb, kn, none⟩ = false := by simp [World.frozen?, hblk5]
          have h6 : Has w (w5.setCell ⟨hb, kn, none⟩ (.int .u8 (by_ k))) [DRes b F5 S5, BRes hb (.cells (A.setIfInBounds kn (.int .u8 (by_ k))) 47)] :=
            (h5.swap.turn (r' := BRes hb (.cells (A.setIfInBounds kn (.int .u8 (by_ k))) 47)) ((Only.refl [hb] w5).setCell (by simp) _) (heap_setCell_row hblk5 _ _) (fun x hx => ⟨.inl hx, by simp [BRes] at hx; subst hx; simpa using ((h5.each (BRes x (.cells A 47)) (by simp)).2 x (by simp [BRes])).2⟩)).swap
          have H6 := Lib.hid h6
          clear h5 hblk5 h6
          go_wp2_with fail
          have h6 := H6.out
          clear H6
          generalize w5.setCell ⟨hb, kn, none⟩ (.int .u8 (by_ k)) = w6 at *
          generalize A.setIfInBounds kn (.int .u8 (by_ k)) = A5 at *
          clear c5 hc5 hf5 INV H cA1 cB1 CK CB CELL
          go_loopw [10] (fun i wr => ∃ j : Nat, j ≤ 8 ∧ i = .int .i64 j ∧ Has w wr [DRes b F5 S5, BRes hb (.cells A5 47)]) (fun i _ => 8 - (intOf i).toNat)
          case atStart => exact ⟨0, by omega, rfl, h6⟩
          case round =>
            clear h6
            obtain ⟨j, hj, rfl, h6⟩ := hrel
            by_cases hj8 : j < 8
            · have R := has_read h6 j (by simp only [St.reach, inv5.on, inv5.n]; simp; omega)
              rw [inv5.now j hj8] at R
              have RH := Lib.hid R
              have H6 := Lib.hid h6
              have INV5 := Lib.hid inv5
              clear R h6 inv5
              go_wp2_with fail
              refine RH.out.mono ?_
              rintro e w' ⟨rfl, rfl⟩
              clear RH
              have h7 := H6.out.alloc (.cells (fullA (f5 j)) 65)
              clear H6
              generalize wr.heap.size = g7 at *
              generalize wr.alloc (.cells (fullA (f5 j)) 65) = w7 at *
              have H7 := Lib.hid h7
              have B7 := Lib.hid (h7.blk (g := g7) (o := .cells (fullA (f5 j)) 65) (by simp))
              have C7 : Hid (w7.cell? ⟨hb, j, none⟩ = some (.int .u8 (f5 j))) := (cell_of_row _ _ _ _ _ _ (h7.blk (g := hb) (o := .cells A5 47) (by simp))).trans (INV5.out.cell j hj8)
              clear h7
              go_wp2_with fail
              refine wp_region_flow Lat [0, 0, 0, 0, 0, 0, 0, 0, 1, 0, 0, 1, 2, 1, 0, 0] (by kernel_rfl) (by kernel_rfl) Lat.refl Lat.trans ?_
              refine fl0 (u := .int .i64 0) (by kernel_rfl) (fun _ => by kernel_rfl) ?_
              refine fl0 (u := .bool false) (by kernel_rfl) (fun _ => by kernel_rfl) ?_
              refine fl0 (u := .bool false) (by kernel_rfl) (fun _ => by kernel_rfl) ?_
              simp only [Act.put, List.setIfInBounds_toArray, List.set_cons_succ, List.set_cons_zero]
              refine fl0 (u := .int .i64 0) (by kernel_rfl) (fun _ => by kernel_rfl) ?_
              refine fl0 (u := .bool false) (by kernel_rfl) (fun _ => by kernel_rfl) ?_
              refine fl0 (u := .bool false) (by kernel_rfl) (fun _ => by kernel_rfl) ?_
              refine fl0 (u := .bool false) (by kernel_rfl) (fun _ => by kernel_rfl) ?_
              simp only [Act.put, List.setIfInBounds_toArray, List.set_cons_succ, List.set_cons_zero]
              refine fl0 (u := .slice (some ⟨g7, 0, none⟩) 64 64) (by kernel_rfl) (fun _ => by kernel_rfl) ?_
              simp only [Act.put, List.setIfInBounds_toArray, List.set_cons_succ, List.set_cons_zero]
              refine fl1 (u := .string (fullS (f5 j))) (by kernel_rfl) (fun x hx => run_str rfl rfl (hx.at B7.out)) ?_
              refine fl0 (u := .int .i64 j) (by kernel_rfl) (fun _ => by kernel_rfl) ?_
              simp only [Act.put, List.setIfInBounds_toArray, List.set_cons_succ, List.set_cons_zero]
              refine fl0 (u := .pointer (some ⟨hb, j, none⟩)) (by kernel_rfl) (run_index47 hj8 rfl rfl rfl) ?_
              simp only [Act.put, List.setIfInBounds_toArray, List.set_cons_succ, List.set_cons_zero]
              refine fl1 (u := .int .u8 (f5 j)) (by kernel_rfl) (fun x hx => run_load1 rfl rfl (hx.cell C7.out) isAgg5) ?_
              simp only [Act.put, List.setIfInBounds_toArray, List.set_cons_succ, List.set_cons_zero]
              refine fl2 (u := .slice (some ⟨w7.drew.heap.size, 0, none⟩) 64 64) (w' := w7.drew.alloc (.cells (fullA (f5 j)) 5)) (by kernel_rfl) (Lat.alloc _ _) (does_full rfl rfl) ?_
              simp only [Act.put, List.setIfInBounds_toArray, List.set_cons_succ, List.set_cons_zero]
              refine fl1 (u := .string (fullS (f5 j))) (by kernel_rfl) (fun x hx => run_str rfl rfl (hx.at (heap_alloc_last w7.drew _))) ?_
              simp only [Act.put, List.setIfInBounds_toArray, List.set_cons_succ, List.set_cons_zero]
              refine fl0 (u := .bool false) (by kernel_rfl) (run_neq_self rfl rfl rfl) ?_
              refine fl0 (u := .bool false) (by kernel_rfl) (fun _ => by kernel_rfl) ?_
              simp only [Act.put, List.setIfInBounds_toArray, List.set_cons_succ, List.set_cons_zero]
              refine flnil ?_
              have h8 := (H7.out.drop.drew.alloc' (.cells (fullA (f5 j)) 5))
              generalize w7.drew.alloc (.cells (fullA (f5 j)) 5) = w8 at *
              clear H7 B7 C7
              go_wp2
              go_roundw
              case rel => exact ⟨j + 1, by omega, by go_num, h8⟩
              case measure => simp [intOf]; omega
            · go_wp2
              go_roundw
              case rel => exact ⟨k + 1, by omega, by omega, by go_num, F5, S5, A5, f5, h6, inv5⟩
              case measure => simp [intOf]; omega
        | false =>
          have h5 := H4.out
          have inv5 := INV4.out
          clear H4 INV4 HST
          generalize S4 = S5 at *
          generalize F4 = F5 at *
          generalize w4 = w5 at *
          have c5 := CELL.out _ _ _ h5.only CB.out
          have hblk5 := h5.blk (g := hb) (o := .cells A 47) (by simp)
          have hc5 : w5.cell? ⟨hb, kn, none⟩ = some (.int .u8 (f kn)) := (cell_of_row _ _ _ _ _ _ hblk5).trans (INV.out.cell kn hkn)
          have hf5 : w5.frozen? ⟨hb, kn, none⟩ = false := by simp [World.frozen?, hblk5]
          have h6 : Has w (w5.setCell ⟨hb, kn, none⟩ (.int .u8 (by_ k))) [DRes b F5 S5, BRes hb (.cells (A.setIfInBounds kn (.int .u8 (by_ k))) 47)] :=
            (h5.swap.turn (r' := BRes hb (.cells (A.setIfInBounds kn (.int .u8 (by_ k))) 47)) ((Only.refl [hb] w5).setCell (by simp) _) (heap_setCell_row hblk5 _ _) (fun x hx => ⟨.inl hx, by simp [BRes] at hx; subst hx; simpa using ((h5.each (BRes x (.cells A 47)) (by simp)).2 x (by simp [BRes])).2⟩)).swap
          have H6 := Lib.hid h6
          clear h5 hblk5 h6
          go_wp2_with fail
          have h6 := H6.out
          clear H6
          generalize w5.setCell ⟨hb, kn, none⟩ (.int .u8 (by_ k)) = w6 at *
          generalize A.setIfInBounds kn (.int .u8 (by_ k)) = A5 at *
          clear c5 hc5 hf5 INV H cA1 cB1 CK CB CELL
          go_loopw [10] (fun i wr => ∃ j : Nat, j ≤ 8 ∧ i = .int .i64 j ∧ Has w wr [DRes b F5 S5, BRes hb (.cells A5 47)]) (fun i _ => 8 - (intOf i).toNat)
          case atStart => exact ⟨0, by omega, rfl, h6⟩
          case round =>
            clear h6
            obtain ⟨j, hj, rfl, h6⟩ := hrel
            by_cases hj8 : j < 8
            · have R := has_read h6 j (by simp only [St.reach, inv5.on, inv5.n]; simp; omega)
              rw [inv5.now j hj8] at R
              have RH := Lib.hid R
              have H6 := Lib.hid h6
              have INV5 := Lib.hid inv5
              clear R h6 inv5
              go_wp2_with fail
              refine RH.out.mono ?_
              rintro e w' ⟨rfl, rfl⟩
              clear RH
              have h7 := H6.out.alloc (.cells (fullA (f5 j)) 65)
              clear H6
              generalize wr.heap.size = g7 at *
              generalize wr.alloc (.cells (fullA (f5 j)) 65) = w7 at *
              have H7 := Lib.hid h7
              have B7 := Lib.hid (h7.blk (g := g7) (o := .cells (fullA (f5 j)) 65) (by simp))
              have C7 : Hid (w7.cell? ⟨hb, j, none⟩ = some (.int .u8 (f5 j))) := (cell_of_row _ _ _ _ _ _ (h7.blk (g := hb) (o := .cells A5 47) (by simp))).trans (INV5.out.cell j hj8)
              clear h7
              go_wp2_with fail
              refine wp_region_flow Lat [0, 0, 0, 0, 0, 0, 0, 0, 1, 0, 0, 1, 2, 1, 0, 0] (by kernel_rfl) (by kernel_rfl) Lat.refl Lat.trans ?_
              refine fl0 (u := .int .i64 0) (by kernel_rfl) (fun _ => by kernel_rfl) ?_
              refine fl0 (u := .bool false) (by kernel_rfl) (fun _ => by kernel_rfl) ?_
              refine fl0 (u := .bool false) (by kernel_rfl) (fun _ => by kernel_rfl) ?_
              simp only [Act.put, List.setIfInBounds_toArray, List.set_cons_succ, List.set_cons_zero]
              refine fl0 (u := .int .i64 0) (by kernel_rfl) (fun _ => by kernel_rfl) ?_
              refine fl0 (u := .bool false) (by kernel_rfl) (fun _ => by kernel_rfl) ?_
              refine fl0 (u := .bool false) (by kernel_rfl) (fun _ => by kernel_rfl) ?_
              refine fl0 (u := .bool false) (by kernel_rfl) (fun _ => by kernel_rfl) ?_
              simp only [Act.put, List.setIfInBounds_toArray, List.set_cons_succ, List.set_cons_zero]
              refine fl0 (u := .slice (some ⟨g7, 0, none⟩) 64 64) (by kernel_rfl) (fun _ => by kernel_rfl) ?_
              simp only [Act.put, List.setIfInBounds_toArray, List.set_cons_succ, List.set_cons_zero]
              refine fl1 (u := .string (fullS (f5 j))) (by kernel_rfl) (fun x hx => run_str rfl rfl (hx.at B7.out)) ?_
              refine fl0 (u := .int .i64 j) (by kernel_rfl) (fun _ => by kernel_rfl) ?_
              simp only [Act.put, List.setIfInBounds_toArray, List.set_cons_succ, List.set_cons_zero]
              refine fl0 (u := .pointer (some ⟨hb, j, none⟩)) (by kernel_rfl) (run_index47 hj8 rfl rfl rfl) ?_
              simp only [Act.put, List.setIfInBounds_toArray, List.set_cons_succ, List.set_cons_zero]
              refine fl1 (u := .int .u8 (f5 j)) (by kernel_rfl) (fun x hx => run_load1 rfl rfl (hx.cell C7.out) isAgg5) ?_
              simp only [Act.put, List.setIfInBounds_toArray, List.set_cons_succ, List.set_cons_zero]
              refine fl2 (u := .slice (some ⟨w7.drew.heap.size, 0, none⟩) 64 64) (w' := w7.drew.alloc (.cells (fullA (f5 j)) 5)) (by kernel_rfl) (Lat.alloc _ _) (does_full rfl rfl) ?_
              simp only [Act.put, List.setIfInBounds_toArray, List.set_cons_succ, List.set_cons_zero]
              refine fl1 (u := .string (fullS (f5 j))) (by kernel_rfl) (fun x hx => run_str rfl rfl (hx.at (heap_alloc_last w7.drew _))) ?_
              simp only [Act.put, List.setIfInBounds_toArray, List.set_cons_succ, List.set_cons_zero]
              refine fl0 (u := .bool false) (by kernel_rfl) (run_neq_self rfl rfl rfl) ?_
              refine fl0 (u := .bool false) (by kernel_rfl) (fun _ => by kernel_rfl) ?_
              simp only [Act.put, List.setIfInBounds_toArray, List.set_cons_succ, List.set_cons_zero]
              refine flnil ?_
              have h8 := (H7.out.drop.drew.alloc' (.cells (fullA (f5 j)) 5))
              generalize w7.drew.alloc (.cells (fullA (f5 j)) 5) = w8 at *
              clear H7 B7 C7
              go_wp2
              go_roundw
              case rel => exact ⟨j + 1, by omega, by go_num, h8⟩
              case measure => simp [intOf]; omega
            · go_wp2
              go_roundw
              case rel => exact ⟨k + 1, by omega, by omega, by go_num, F5, S5, A5, f5, h6, inv5⟩
              case measure => simp [intOf]; omega
      · go_wp2
        go_ret
        exact ⟨rfl, h.only⟩
    · go_wp2
      go_ret
      exact ⟨rfl, h.only⟩

end Go.Proofs.Ytabddepidhfelaa
