/- A disk and its clone go their own ways: the walk of the law. -/
import Derived.Test.YtabddepidhfelaaClone
import Derived.Test.YtabddepidhfelaaInv
set_option linter.unusedSimpArgs false
namespace Go.Proofs.Ytabddepidhfelaa
open Go.RowKit

/-- What k bytes leave in eight sectors, one behind the other. -/
def lastOf (z : Nat → Int) : Nat → Nat → Int
  | 0 => fun _ => 0
  | k + 1 => fun j => if j = k % 8 then z k else lastOf z k j

theorem WInv.mono {S : St} {f : Nat → Int} {k k' : Nat} (h : WInv S f k) (hk : k ≤ k') : WInv S f k' :=
  ⟨h.on, h.fuse, h.n, by have := h.steps; omega, by have := h.pend; omega, h.now⟩
theorem WInv.congr {S : St} {f f' : Nat → Int} {k : Nat} (h : WInv S f k) (he : ∀ j, j < 8 → f' j = f j) : WInv S f' k := ⟨h.on, h.fuse, h.n, h.steps, h.pend, fun j hj => by rw [he j hj]; exact h.now j hj⟩
theorem RowIs.congr {A : Array Value} {n : Nat} {f f' : Nat → Int} (h : RowIs A n f) (he : ∀ j, j < n → f' j = f j) : RowIs A n f' := ⟨h.size, fun j hj => by rw [he j hj]; exact h.cell j hj⟩

theorem Has.rot {w0 w : World} {r s t : Res} {Rs : List Res} (h : Has w0 w (r :: s :: t :: Rs)) : Has w0 w (t :: r :: s :: Rs) := by
  obtain ⟨h1, h2⟩ := List.pairwise_cons.1 h.apart
  obtain ⟨h3, h4⟩ := List.pairwise_cons.1 h2
  obtain ⟨h5, h6⟩ := List.pairwise_cons.1 h4
  refine ⟨h.only, fun q hq => h.each q (by simp at hq ⊢; rcases hq with h | h | h | h <;> simp [h]), List.pairwise_cons.2 ⟨fun q hq x hx hxq => ?_, List.pairwise_cons.2 ⟨fun q hq => h1 q (by simp at hq ⊢; rcases hq with h | h <;> simp [h]), List.pairwise_cons.2 ⟨fun q hq => h3 q (by simp [hq]), h6⟩⟩⟩⟩
  simp at hq
  rcases hq with rfl | rfl | hq
  · exact h1 t (by simp) x hxq hx
  · exact h3 t (by simp) x hxq hx
  · exact h5 q hq x hx hxq

theorem row16z (z : Nat → Int) : RowIs #[.int .u8 0, .int .u8 0, .int .u8 0, .int .u8 0, .int .u8 0, .int .u8 0, .int .u8 0, .int .u8 0, .int .u8 0, .int .u8 0, .int .u8 0, .int .u8 0, .int .u8 0, .int .u8 0, .int .u8 0, .int .u8 0] 16 (fun j => lastOf z 0 (j % 8)) := by
  have e : (#[.int .u8 0, .int .u8 0, .int .u8 0, .int .u8 0, .int .u8 0, .int .u8 0, .int .u8 0, .int .u8 0, .int .u8 0, .int .u8 0, .int .u8 0, .int .u8 0, .int .u8 0, .int .u8 0, .int .u8 0, .int .u8 0] : Array Value) = Array.replicate 16 (.int .u8 0) := rfl
  rw [e]
  exact ⟨by simp, fun j hj => by simp [hj, lastOf]⟩

def ApartRel (w : World) (b : Nat) (z : Nat → Int) (k : Nat) (wr : World) : Prop := ∃ F S, Has w wr [DRes b F S] ∧ WInv S (lastOf z k) k
def ApartRel2 (w : World) (b bc g : Nat) (F Fc : List Nat) (S : St) (z : Nat → Int) (k : Nat) (wr : World) : Prop := ∃ A, Has w wr [BRes g (.cells A 52), DRes bc Fc S, DRes b F S] ∧ RowIs A 16 (fun j => lastOf z k (j % 8))
def ApartRel3 (w : World) (b bc g : Nat) (m : Nat) (wr : World) : Prop :=
  ∃ Fd Sd Fc Sc A f, Has w wr [DRes b Fd Sd, DRes bc Fc Sc, BRes g (.cells A 52)] ∧ RowIs A 16 f ∧ WInv Sd f (40 + m) ∧ WInv Sc (fun j => f (8 + j)) (40 + m)

theorem bootF_nil' (base : Int → Option (Array Value)) (pend : List (Int × Array Value)) : ∀ j, bootF base [] pend j = base
  | 0 => rfl
  | j + 1 => by
    cases h : pend[j]? with
    | none => rw [bootF_none h, bootF_nil' base pend j]
    | some p => rw [bootF_some h, bootF_nil' base pend j]; rfl

section
variable {o : Oper} {a : Act}
theorem run_index52 {x : Operand} {g : Nat} (i : Nat) (hi : i < 2) (ho : o.op = .indexAddr 52 x (.const (.int .i64 i))) (hx : a.eval x = .pointer (some ⟨g, 0, none⟩)) : ∀ w, (execOp a.eval o).run Try.prog w = .ok (.value (.pointer (some ⟨g, i * 8, none⟩))) w := by
  intro w
  match i, hi with
  | 0, _ =>
    have hc : a.eval (.const (.int .i64 ((0 : Nat) : Int))) = .int .i64 0 := rfl
    unfold execOp
    simp only [ho, hx, hc]
    go_simp
  | 1, _ =>
    have hc : a.eval (.const (.int .i64 ((1 : Nat) : Int))) = .int .i64 1 := rfl
    unfold execOp
    simp only [ho, hx, hc]
    go_simp
theorem run_index47o {x y : Operand} {g o1 j : Nat} (hj : j < 8) (ho : o.op = .indexAddr 47 x y) (hx : a.eval x = .pointer (some ⟨g, o1, none⟩)) (hy : a.eval y = .int .i64 j) : ∀ w, (execOp a.eval o).run Try.prog w = .ok (.value (.pointer (some ⟨g, o1 + j, none⟩))) w := by
  intro w
  have h1 : (0 : Int) ≤ (j : Int) := by omega
  have h2 : (j : Int) < 8 := by omega
  unfold execOp
  simp only [ho, hx, hy]
  go_simp
end

set_option maxRecDepth 100000 in
set_option maxHeartbeats 8000000 in
theorem apart_any0 (w : World) (a0 : Option Addr) (len0 cap0 : Nat) (z0 : Nat → Int) (a1 : Option Addr) (len1 cap1 : Nat) (z1 : Nat → Int) (a2 : Option Addr) (len2 cap2 : Nat) (z2 : Nat → Int) (hl0 : len0 ≤ 9223372036854775807) (hl1 : len1 ≤ 9223372036854775807) (hl2 : len2 ≤ 9223372036854775807)
    (b0 : BytesAt w a0 len0 z0) (b1 : BytesAt w a1 len1 z1) (b2 : BytesAt w a2 len2 z2) (hc0 : len0 ≤ 40) :
    Calls Try.prog 7 #[.slice a0 len0 cap0, .slice a1 len1 cap1, .slice a2 len2 cap2] w fun e w' => e = .returned (.bool true) ∧ Only [] w w' := by
  have HO0 := Lib.hid b0
  have HO1 := Lib.hid b1
  have HO2 := Lib.hid b2
  clear b0 b1 b2
  go_enter Try.func7, Try.ntmps7
  go_wp2_with fail
  refine (shown_any w).mono ?_
  rintro e w1 ⟨rfl, o1⟩
  have h1 : Has w w1 [] := (Has.start w).later o1
  have N8 := Lib.hid (has_new h1 8 (by omega) (by omega))
  clear h1 o1
  go_wp2_with fail
  refine N8.out.mono ?_
  rintro e w2 ⟨b, F, rfl, h2⟩
  clear N8
  have H := Lib.hid h2
  clear h2
  go_wp2_with fail
  go_loopw [10] (fun i wr => ∃ k : Nat, k ≤ len0 ∧ k ≤ 40 ∧ i = .int .i64 k ∧ ApartRel w b z0 k wr) (fun i _ => 40 - (intOf i).toNat)
  case atStart => exact ⟨0, by omega, by omega, rfl, F, _, H.out, WInv.start⟩
  case round =>
    clear H
    obtain ⟨k, hk1, hk2, rfl, F, S, h, inv⟩ := hrel
    by_cases hlt : k < len0 ∧ k < 40
    · obtain ⟨hlt1, hlt2⟩ := hlt
      obtain ⟨lg, lo, rfl, hlg, cB⟩ := HO0.out.cell k hlt1
      have cB1 : wr.cell? ⟨lg, lo + k, none⟩ = some (.int .u8 (z0 k)) := (World.cell?_of_block (w := w) (h.only.block lg hlg (by simp))).trans cB
      have hm : k % 8 < 8 := Nat.mod_lt _ (by omega)
      have H := Lib.hid h
      have INV := Lib.hid inv
      clear h inv cB
      go_wp2_with fail
      refine (full_any (z0 k) _).mono ?_
      rintro e w' ⟨rfl, rfl⟩
      go_wp2_with fail
      rw [show ((k : Int) % 8) = ((k % 8 : Nat) : Int) by omega]
      refine (has_write H.out ((k % 8 : Nat) : Int) (z0 k) (INV.out.reach _ hm) (by have := INV.out.fuse; omega) (by have := INV.out.steps; omega) (by have := INV.out.pend; omega)).mono ?_
      rintro e w5 ⟨rfl, F5, h5⟩
      have H5 := Lib.hid h5
      have INV5 := Lib.hid (INV.out.write (k % 8) (z0 k))
      clear h5 H INV cB1
      go_wp2
      go_roundw
      case rel => exact ⟨k + 1, by omega, by omega, by go_num, F5, _, H5.out, INV5.out⟩
      case measure => simp [intOf]; omega
    · have hx0 : len0 ≤ k := by omega
      clear hlt
      have INV := Lib.hid inv
      have CL := Lib.hid (has_clone h (by have := inv.pend; omega))
      clear h inv
      go_wp2_with fail
      refine CL.out.mono ?_
      rintro e w3 ⟨bc, Fc, rfl, h3⟩
      clear CL
      have W1 := Lib.hid (waiting_any h3.dat)
      have W2 := Lib.hid (waiting_any h3.swap.dat)
      have H3 := Lib.hid h3
      clear h3
      go_wp2_with fail
      refine W1.out.mono ?_
      rintro e w' ⟨rfl, rfl⟩
      go_wp2_with fail
      refine W2.out.mono ?_
      rintro e w' ⟨rfl, rfl⟩
      clear W1 W2
      go_wp2_with fail
      have h4 := H3.out.alloc (.cells #[.int .u8 0, .int .u8 0, .int .u8 0, .int .u8 0, .int .u8 0, .int .u8 0, .int .u8 0, .int .u8 0, .int .u8 0, .int .u8 0, .int .u8 0, .int .u8 0, .int .u8 0, .int .u8 0, .int .u8 0, .int .u8 0] 52)
      generalize w3.heap.size = g at *
      generalize w3.alloc (.cells #[.int .u8 0, .int .u8 0, .int .u8 0, .int .u8 0, .int .u8 0, .int .u8 0, .int .u8 0, .int .u8 0, .int .u8 0, .int .u8 0, .int .u8 0, .int .u8 0, .int .u8 0, .int .u8 0, .int .u8 0, .int .u8 0] 52) = w4 at *
      clear H3
      go_loopw [13] (fun i wr => ∃ k' : Nat, k' ≤ len0 ∧ k' ≤ 40 ∧ i = .int .i64 k' ∧ ApartRel2 w b bc g F Fc S z0 k' wr) (fun i _ => 40 - (intOf i).toNat)
      case atStart => exact ⟨0, by omega, by omega, rfl, _, h4, row16z z0⟩
      case round =>
        clear h4
        obtain ⟨k', hk1', hk2', rfl, A, h5, hA⟩ := hrel
        by_cases hlt : k' < len0 ∧ k' < 40
        · obtain ⟨hlt1, hlt2⟩ := hlt
          obtain ⟨lg, lo, rfl, hlg, cB⟩ := HO0.out.cell k' hlt1
          have cell : ∀ (x : World), Only [] w x → x.cell? ⟨lg, lo + k', none⟩ = some (.int .u8 (z0 k')) := fun x ho => (World.cell?_of_block (w := w) (ho.block lg hlg (by simp))).trans cB
          have cB1 := cell _ h5.only
          have hm : k' % 8 < 8 := Nat.mod_lt _ (by omega)
          obtain ⟨s1, s2, s3⟩ := has_set (i := k' % 8) h5 hA (by omega) (z0 k')
          have hA1 := hA.set (k' % 8) (z0 k')
          obtain ⟨t1, t2, t3⟩ := has_set (i := 8 + k' % 8) s3 hA1 (by omega) (z0 k')
          have hA2 := hA1.set (8 + k' % 8) (z0 k')
          have cB2 := cell _ s3.only
          have hA3 : RowIs ((A.setIfInBounds (k' % 8) (.int .u8 (z0 k'))).setIfInBounds (8 + k' % 8) (.int .u8 (z0 k'))) 16 (fun j => lastOf z0 (k' + 1) (j % 8)) := hA2.congr (fun j hj => by
            simp only [lastOf]
            by_cases h1 : j = 8 + k' % 8
            · rw [if_pos (by omega), if_pos h1]
            · rw [if_neg h1]
              by_cases h2 : j = k' % 8
              · rw [if_pos (by omega), if_pos h2]
              · rw [if_neg (by omega), if_neg h2])
          have T3 := Lib.hid t3
          have A3 := Lib.hid hA3
          clear h5 hA cB cell s3 hA1 t3 hA2 hA3
          go_wp2
          go_roundw
          case rel => exact ⟨k' + 1, by omega, by omega, by go_num, _, T3.out, A3.out⟩
          case measure => simp [intOf]; omega
        · have hx1 : len0 ≤ k' := by omega
          have hkk : k' = k := by omega
          subst hkk
          clear hlt
          have H5 := Lib.hid h5.rot.rot.swap
          have HAR := Lib.hid hA
          clear h5 hA
          go_wp2_with fail
          go_loopw [14] (fun i wr => ∃ m : Nat, m ≤ 40 ∧ i = .int .i64 m ∧ ApartRel3 w b bc g m wr) (fun i _ => 40 - (intOf i).toNat)
          case atStart =>
            have h6 := H5.out
            have iA : WInv S (fun j => lastOf z0 k' (j % 8)) (40 + 0) := (INV.out.congr (fun j hj => by rw [Nat.mod_eq_of_lt hj])).mono (by omega)
            have iB : WInv S (fun j => lastOf z0 k' ((8 + j) % 8)) (40 + 0) := (INV.out.congr (fun j hj => by rw [show (8 + j) % 8 = j by omega])).mono (by omega)
            exact ⟨0, by omega, rfl, F, S, Fc, S, A, _, h6, HAR.out, iA, iB⟩
          case round =>
            clear H5 HAR INV
            obtain ⟨m, hm1, rfl, Fd, Sd, Fc, Sc, A, fS, h6, hA, iD, iC⟩ := hrel
            by_cases hm40 : m < 40
            · by_cases hA1 : m < len1
              · obtain ⟨lg, lo, rfl, hlg, cB⟩ := HO1.out.cell m hA1
                have cB1 : wr.cell? ⟨lg, lo + m, none⟩ = some (.int .u8 (z1 m)) := (World.cell?_of_block (w := w) (h6.only.block lg hlg (by simp))).trans cB
                have hq : 3 * m % 8 < 8 := Nat.mod_lt _ (by omega)
                have HS0 := Lib.hid h6
                have ID0 := Lib.hid iD
                have IC0 := Lib.hid iC
                have AR0 := Lib.hid hA
                clear h6 iD iC hA
                go_wp2_with fail
                refine (full_any (z1 m) _).mono ?_
                rintro e w' ⟨rfl, rfl⟩
                go_wp2_with fail
                rw [show ((3 * (m : Int)) % 8) = ((3 * m % 8 : Nat) : Int) by omega]
                refine (has_write HS0.out ((3 * m % 8 : Nat) : Int) (z1 m) (ID0.out.reach _ hq) (by have := ID0.out.fuse; omega) (by have := ID0.out.steps; omega) (by have := ID0.out.pend; omega)).mono ?_
                rintro e w7 ⟨rfl, F7, h7⟩
                have cB2 : w7.cell? ⟨lg, lo + m, none⟩ = some (.int .u8 (z1 m)) := (World.cell?_of_block (w := w) (h7.only.block lg hlg (by simp))).trans cB
                obtain ⟨s1, s2, s3⟩ := has_set (i := 3 * m % 8) h7.rot AR0.out (by omega) (z1 m)
                have HS := Lib.hid (s3.rot.rot)
                obtain ⟨fT, ID, IC, AR⟩ : ∃ fT : Nat → Int, Hid (WInv (Sd.write ((3 * m % 8 : Nat) : Int) (fullA (z1 m))) fT (40 + m + 1)) ∧ Hid (WInv Sc (fun j => fT (8 + j)) (40 + m)) ∧ Hid (RowIs (A.setIfInBounds (3 * m % 8) (.int .u8 (z1 m))) 16 fT) :=
                  ⟨_, ID0.out.write (3 * m % 8) (z1 m), IC0.out.congr (fun j hj => by show (if 8 + j = 3 * m % 8 then z1 m else fS (8 + j)) = _; rw [if_neg (by omega)]), AR0.out.set (3 * m % 8) (z1 m)⟩
                clear HS0 ID0 IC0 AR0 h7 s3 cB cB1
                by_cases hB : m < len2
                · obtain ⟨lg2, lo2, rfl, hlg2, cC⟩ := HO2.out.cell m hB
                  have cC1 : (w7.setCell ⟨g, 3 * m % 8, none⟩ (.int .u8 (z1 m))).cell? ⟨lg2, lo2 + m, none⟩ = some (.int .u8 (z2 m)) := (World.cell?_of_block (w := w) (HS.out.only.block lg2 hlg2 (by simp))).trans cC
                  have hq2 : 5 * m % 8 < 8 := Nat.mod_lt _ (by omega)
                  have CC := Lib.hid cC
                  clear cC
                  go_wp2_with fail
                  generalize w7.setCell ⟨g, 3 * m % 8, none⟩ (.int .u8 (z1 m)) = wS at *
                  refine (full_any (z2 m) _).mono ?_
                  rintro e w' ⟨rfl, rfl⟩
                  go_wp2_with fail
                  rw [show ((5 * (m : Int)) % 8) = ((5 * m % 8 : Nat) : Int) by omega]
                  refine (has_write HS.out.swap ((5 * m % 8 : Nat) : Int) (z2 m) (IC.out.reach _ hq2) (by have := IC.out.fuse; omega) (by have := IC.out.steps; omega) (by have := IC.out.pend; omega)).mono ?_
                  rintro e w8 ⟨rfl, F8, h8⟩
                  have cC2 : w8.cell? ⟨lg2, lo2 + m, none⟩ = some (.int .u8 (z2 m)) := (World.cell?_of_block (w := w) (h8.only.block lg2 hlg2 (by simp))).trans CC.out
                  obtain ⟨s1, s2, s3⟩ := has_set (i := 8 + 5 * m % 8) h8.rot AR.out (by omega) (z2 m)
                  have H9 := Lib.hid s3
                  have ID9 := Lib.hid ((ID.out.congr (f' := fun j => if j = 8 + 5 * m % 8 then z2 m else fT j) (fun j hj => by rw [if_neg (by omega)])).mono (k' := 40 + (m + 1)) (by omega))
                  have IC9 := Lib.hid (((IC.out.write (5 * m % 8) (z2 m)).congr (f' := fun j => if 8 + j = 8 + 5 * m % 8 then z2 m else fT (8 + j)) (fun j hj => by by_cases h : j = 5 * m % 8 <;> simp [h])).mono (k' := 40 + (m + 1)) (by omega))
                  have AR9 := Lib.hid (AR.out.set (8 + 5 * m % 8) (z2 m))
                  clear HS ID IC AR h8 s3 CC
                  go_wp2
                  go_roundw
                  case rel => exact ⟨m + 1, by omega, by go_num, _, _, _, _, _, _, H9.out.rot.rot.swap, AR9.out, ID9.out, IC9.out⟩
                  case measure => simp [intOf]; omega
                · have ID9 := Lib.hid (ID.out.mono (k' := 40 + (m + 1)) (by omega))
                  have IC9 := Lib.hid (IC.out.mono (k' := 40 + (m + 1)) (by omega))
                  clear ID IC
                  go_wp2
                  go_roundw
                  case rel => exact ⟨m + 1, by omega, by go_num, _, _, _, _, _, _, HS.out, AR.out, ID9.out, IC9.out⟩
                  case measure => simp [intOf]; omega
              · by_cases hB : m < len2
                · obtain ⟨lg2, lo2, rfl, hlg2, cC⟩ := HO2.out.cell m hB
                  have cC1 : wr.cell? ⟨lg2, lo2 + m, none⟩ = some (.int .u8 (z2 m)) := (World.cell?_of_block (w := w) (h6.only.block lg2 hlg2 (by simp))).trans cC
                  have hq2 : 5 * m % 8 < 8 := Nat.mod_lt _ (by omega)
                  have CC := Lib.hid cC
                  have HS := Lib.hid h6
                  have ID := Lib.hid iD
                  have IC := Lib.hid iC
                  have AR := Lib.hid hA
                  clear cC h6 iD iC hA
                  go_wp2_with fail
                  refine (full_any (z2 m) _).mono ?_
                  rintro e w' ⟨rfl, rfl⟩
                  go_wp2_with fail
                  rw [show ((5 * (m : Int)) % 8) = ((5 * m % 8 : Nat) : Int) by omega]
                  refine (has_write HS.out.swap ((5 * m % 8 : Nat) : Int) (z2 m) (IC.out.reach _ hq2) (by have := IC.out.fuse; omega) (by have := IC.out.steps; omega) (by have := IC.out.pend; omega)).mono ?_
                  rintro e w8 ⟨rfl, F8, h8⟩
                  have cC2 : w8.cell? ⟨lg2, lo2 + m, none⟩ = some (.int .u8 (z2 m)) := (World.cell?_of_block (w := w) (h8.only.block lg2 hlg2 (by simp))).trans CC.out
                  obtain ⟨s1, s2, s3⟩ := has_set (i := 8 + 5 * m % 8) h8.rot AR.out (by omega) (z2 m)
                  have H9 := Lib.hid s3
                  have ID9 := Lib.hid ((ID.out.congr (f' := fun j => if j = 8 + 5 * m % 8 then z2 m else fS j) (fun j hj => by rw [if_neg (by omega)])).mono (k' := 40 + (m + 1)) (by omega))
                  have IC9 := Lib.hid (((IC.out.write (5 * m % 8) (z2 m)).congr (f' := fun j => if 8 + j = 8 + 5 * m % 8 then z2 m else fS (8 + j)) (fun j hj => by by_cases h : j = 5 * m % 8 <;> simp [h])).mono (k' := 40 + (m + 1)) (by omega))
                  have AR9 := Lib.hid (AR.out.set (8 + 5 * m % 8) (z2 m))
                  clear HS ID IC AR h8 s3 CC
                  go_wp2
                  go_roundw
                  case rel => exact ⟨m + 1, by omega, by go_num, _, _, _, _, _, _, H9.out.rot.rot.swap, AR9.out, ID9.out, IC9.out⟩
                  case measure => simp [intOf]; omega
                · have HS := Lib.hid h6
                  have ID9 := Lib.hid (iD.mono (k' := 40 + (m + 1)) (by omega))
                  have IC9 := Lib.hid (iC.mono (k' := 40 + (m + 1)) (by omega))
                  have AR := Lib.hid hA
                  clear h6 iD iC hA
                  go_wp2
                  go_roundw
                  case rel => exact ⟨m + 1, by omega, by go_num, _, _, _, _, _, _, HS.out, AR.out, ID9.out, IC9.out⟩
                  case measure => simp [intOf]; omega
            · have BR := Lib.hid (has_barrier h6 iD.on (by have := iD.fuse; omega) (by have := iD.steps; omega))
              have AR := Lib.hid hA
              have vd : ∀ j : Nat, j < 8 → ((Sd.stepped.settled.booted []).now j).getD Z = fullA (fS j) := fun j hj => by
                simp only [St.booted, St.settled, List.length_nil, bootF, St.base, Option.none_or, St.stepped]; exact iD.now j hj
              have vc : ∀ j : Nat, j < 8 → (Sc.now j).getD Z = fullA (fS (8 + j)) := iC.now
              have rd : (Sd.stepped.settled.booted []).on = true ∧ (Sd.stepped.settled.booted []).n = 8 := ⟨rfl, iD.n⟩
              have rc : Sc.on = true ∧ Sc.n = 8 := ⟨iC.on, iC.n⟩
              have VD := Lib.hid vd
              have VC := Lib.hid vc
              have RD := Lib.hid rd
              have RC := Lib.hid rc
              clear h6 iD iC hA vd vc rd rc
              go_wp2_with fail
              refine BR.out.mono ?_
              rintro e w7 ⟨rfl, F7, h7⟩
              clear BR
              have BT := Lib.hid (has_boot (keep := []) h7 ⟨none, 0, rfl, by simp, fun hne => absurd rfl hne⟩ (by simp [St.settled]))
              clear h7
              go_wp2_with fail
              refine BT.out.mono ?_
              rintro e w8 ⟨rfl, F8, h8⟩
              clear BT
              generalize Sd.stepped.settled.booted [] = Se at *
              have H8 := Lib.hid h8
              clear h8
              go_wp2_with fail
              go_loopw [15] (fun i wr => ∃ j : Nat, j ≤ 8 ∧ i = .int .i64 j ∧ Has w wr [DRes b F8 Se, DRes bc Fc Sc, BRes g (.cells A 52)]) (fun i _ => 8 - (intOf i).toNat)
              case atStart => exact ⟨0, by omega, rfl, H8.out⟩
              case round =>
                clear H8
                obtain ⟨j, hj, rfl, h6⟩ := hrel
                by_cases hj8 : j < 8
                · have R := has_read h6 j (by simp only [St.reach, RD.out.1, RD.out.2]; simp; omega)
                  rw [VD.out j hj8] at R
                  have RH := Lib.hid R
                  have h7' := Lib.hid (h6.alloc' (.cells (fullA (fS j)) 65))
                  have g1e := Lib.hid (heap_alloc_last wr (.cells (fullA (fS j)) 65))
                  clear R h6
                  go_wp2_with fail
                  refine RH.out.mono ?_
                  rintro e w' ⟨rfl, rfl⟩
                  clear RH
                  generalize wr.heap.size = g1 at *
                  generalize wr.alloc (.cells (fullA (fS j)) 65) = x1 at *
                  have h7 := h7'.out
                  clear h7'
                  have R := has_read h7.swap j (by simp only [St.reach, RC.out.1, RC.out.2]; simp; omega)
                  rw [VC.out j hj8] at R
                  have RH := Lib.hid R
                  have h8' := Lib.hid (h7.alloc' (.cells (fullA (fS (8 + j))) 65))
                  have g2e := Lib.hid (heap_alloc_last x1 (.cells (fullA (fS (8 + j))) 65))
                  have g1e' := Lib.hid ((Below.heap_alloc _ (.cells (fullA (fS (8 + j))) 65) _ (Array.getElem?_eq_some_iff.1 g1e.out).1).trans g1e.out)
                  clear R h7 g1e
                  go_wp2_with fail
                  refine RH.out.mono ?_
                  rintro e w' ⟨rfl, rfl⟩
                  clear RH
                  generalize x1.heap.size = g2 at *
                  generalize x1.alloc (.cells (fullA (fS (8 + j))) 65) = x2 at *
                  have H8 := h8'
                  have blk := H8.out.blk (g := g) (o := .cells A 52) (by simp)
                  have C1 : Hid (x2.cell? ⟨g, 0 + j, none⟩ = some (.int .u8 (fS j))) := by show _ = _; rw [Nat.zero_add]; exact (cell_of_row _ _ _ _ _ _ blk).trans (AR.out.cell j (by omega))
                  have C2 : Hid (x2.cell? ⟨g, 8 + j, none⟩ = some (.int .u8 (fS (8 + j)))) := (cell_of_row _ _ _ _ _ _ blk).trans (AR.out.cell (8 + j) (by omega))
                  clear h8' blk
                  go_wp2_with fail
                  refine wp_region_flow Lat [0, 0, 0, 0, 0, 0, 0, 0, 1, 0, 0, 0, 1, 2, 1, 0, 0, 0, 0, 1, 0, 0, 0, 1, 2, 1, 0, 0] (by kernel_rfl) (by kernel_rfl) Lat.refl Lat.trans ?_
                  refine fl0 (u := .int .i64 0) (by kernel_rfl) (fun _ => by kernel_rfl) ?_
                  refine fl0 (u := .bool false) (by kernel_rfl) (fun _ => by kernel_rfl) ?_
                  refine fl0 (u := .bool false) (by kernel_rfl) (fun _ => by kernel_rfl) ?_
                  simp only [Act.put, List.setIfInBounds_toArray, List.set_cons_succ, List.set_cons_zero]
                  refine fl0 (u := .int .i64 0) (by kernel_rfl) (fun _ => by kernel_rfl) ?_
                  refine fl0 (u := .bool false) (by kernel_rfl) (fun _ => by kernel_rfl) ?_
                  refine fl0 (u := .bool false) (by kernel_rfl) (fun _ => by kernel_rfl) ?_
                  refine fl0 (u := .bool false) (by kernel_rfl) (fun _ => by kernel_rfl) ?_
                  simp only [Act.put, List.setIfInBounds_toArray, List.set_cons_succ, List.set_cons_zero]
                  refine fl0 (u := .slice (some ⟨g1, 0, none⟩) 64 64) (by kernel_rfl) (fun _ => by kernel_rfl) ?_
                  simp only [Act.put, List.setIfInBounds_toArray, List.set_cons_succ, List.set_cons_zero]
                  refine fl1 (u := .string (fullS (fS j))) (by kernel_rfl) (fun x hx => run_str rfl rfl (hx.at g1e'.out)) ?_
                  refine fl0 (u := .int .i64 j) (by kernel_rfl) (fun _ => by kernel_rfl) ?_
                  simp only [Act.put, List.setIfInBounds_toArray, List.set_cons_succ, List.set_cons_zero]
                  refine fl0 (u := .pointer (some ⟨g, 0, none⟩)) (by kernel_rfl) (run_index52 0 (by omega) rfl rfl) ?_
                  simp only [Act.put, List.setIfInBounds_toArray, List.set_cons_succ, List.set_cons_zero]
                  refine fl0 (u := .pointer (some ⟨g, 0 + j, none⟩)) (by kernel_rfl) (run_index47o hj8 rfl rfl rfl) ?_
                  simp only [Act.put, List.setIfInBounds_toArray, List.set_cons_succ, List.set_cons_zero]
                  refine fl1 (u := .int .u8 (fS j)) (by kernel_rfl) (fun x hx => run_load1 rfl rfl (hx.cell C1.out) isAgg5) ?_
                  simp only [Act.put, List.setIfInBounds_toArray, List.set_cons_succ, List.set_cons_zero]
                  refine fl2 (u := .slice (some ⟨x2.drew.heap.size, 0, none⟩) 64 64) (w' := x2.drew.alloc (.cells (fullA (fS j)) 5)) (by kernel_rfl) (Lat.alloc _ _) (does_full rfl rfl) ?_
                  simp only [Act.put, List.setIfInBounds_toArray, List.set_cons_succ, List.set_cons_zero]
                  refine fl1 (u := .string (fullS (fS j))) (by kernel_rfl) (fun x hx => run_str rfl rfl (hx.at (heap_alloc_last x2.drew _))) ?_
                  simp only [Act.put, List.setIfInBounds_toArray, List.set_cons_succ, List.set_cons_zero]
                  refine fl0 (u := .bool false) (by kernel_rfl) (run_neq_self rfl rfl rfl) ?_
                  refine fl0 (u := .bool false) (by kernel_rfl) (fun _ => by kernel_rfl) ?_
                  refine fl0 (u := .bool false) (by kernel_rfl) (fun _ => by kernel_rfl) ?_
                  simp only [Act.put, List.setIfInBounds_toArray, List.set_cons_succ, List.set_cons_zero]
                  refine fl0 (u := .slice (some ⟨g2, 0, none⟩) 64 64) (by kernel_rfl) (fun _ => by kernel_rfl) ?_
                  simp only [Act.put, List.setIfInBounds_toArray, List.set_cons_succ, List.set_cons_zero]
                  refine fl1 (u := .string (fullS (fS (8 + j)))) (by kernel_rfl) (fun x hx => run_str rfl rfl (hx.at ((Lat.alloc _ _).at g2e.out))) ?_
                  refine fl0 (u := .int .i64 j) (by kernel_rfl) (fun _ => by kernel_rfl) ?_
                  simp only [Act.put, List.setIfInBounds_toArray, List.set_cons_succ, List.set_cons_zero]
                  refine fl0 (u := .pointer (some ⟨g, 8, none⟩)) (by kernel_rfl) (run_index52 1 (by omega) rfl rfl) ?_
                  simp only [Act.put, List.setIfInBounds_toArray, List.set_cons_succ, List.set_cons_zero]
                  refine fl0 (u := .pointer (some ⟨g, 8 + j, none⟩)) (by kernel_rfl) (run_index47o hj8 rfl rfl rfl) ?_
                  simp only [Act.put, List.setIfInBounds_toArray, List.set_cons_succ, List.set_cons_zero]
                  refine fl1 (u := .int .u8 (fS (8 + j))) (by kernel_rfl) (fun x hx => run_load1 rfl rfl (hx.cell ((Lat.alloc _ _).cell C2.out)) isAgg5) ?_
                  simp only [Act.put, List.setIfInBounds_toArray, List.set_cons_succ, List.set_cons_zero]
                  refine fl2 (u := .slice (some ⟨(x2.drew.alloc (.cells (fullA (fS j)) 5)).heap.size, 0, none⟩) 64 64) (w' := (x2.drew.alloc (.cells (fullA (fS j)) 5)).alloc (.cells (fullA (fS (8 + j))) 5)) (by kernel_rfl) (Lat.alloc _ _) (does_full rfl rfl) ?_
                  simp only [Act.put, List.setIfInBounds_toArray, List.set_cons_succ, List.set_cons_zero]
                  refine fl1 (u := .string (fullS (fS (8 + j)))) (by kernel_rfl) (fun x hx => run_str rfl rfl (hx.at (heap_alloc_last (x2.drew.alloc (.cells (fullA (fS j)) 5)) _))) ?_
                  simp only [Act.put, List.setIfInBounds_toArray, List.set_cons_succ, List.set_cons_zero]
                  refine fl0 (u := .bool false) (by kernel_rfl) (run_neq_self rfl rfl rfl) ?_
                  refine fl0 (u := .bool false) (by kernel_rfl) (fun _ => by kernel_rfl) ?_
                  simp only [Act.put, List.setIfInBounds_toArray, List.set_cons_succ, List.set_cons_zero]
                  refine flnil ?_
                  have h9 := (H8.out.drew.alloc' (.cells (fullA (fS j)) 5)).alloc' (.cells (fullA (fS (8 + j))) 5)
                  generalize (x2.drew.alloc (.cells (fullA (fS j)) 5)).alloc (.cells (fullA (fS (8 + j))) 5) = x3 at *
                  clear H8 C1 C2 g1e' g2e
                  go_wp2
                  go_roundw
                  case rel => exact ⟨j + 1, by omega, by go_num, h9⟩
                  case measure => simp [intOf]; omega
                · go_wp2
                  go_ret
                  exact ⟨rfl, h6.only⟩

set_option maxRecDepth 100000 in
set_option maxHeartbeats 8000000 in
theorem apart_any1 (w : World) (a0 : Option Addr) (len0 cap0 : Nat) (z0 : Nat → Int) (a1 : Option Addr) (len1 cap1 : Nat) (z1 : Nat → Int) (a2 : Option Addr) (len2 cap2 : Nat) (z2 : Nat → Int) (hl0 : len0 ≤ 9223372036854775807) (hl1 : len1 ≤ 9223372036854775807) (hl2 : len2 ≤ 9223372036854775807)
    (b0 : BytesAt w a0 len0 z0) (b1 : BytesAt w a1 len1 z1) (b2 : BytesAt w a2 len2 z2) (hc0 : 40 < len0) :
    Calls Try.prog 7 #[.slice a0 len0 cap0, .slice a1 len1 cap1, .slice a2 len2 cap2] w fun e w' => e = .returned (.bool true) ∧ Only [] w w' := by
  have HO0 := Lib.hid b0
  have HO1 := Lib.hid b1
  have HO2 := Lib.hid b2
  clear b0 b1 b2
  go_enter Try.func7, Try.ntmps7
  go_wp2_with fail
  refine (shown_any w).mono ?_
  rintro e w1 ⟨rfl, o1⟩
  have h1 : Has w w1 [] := (Has.start w).later o1
  have N8 := Lib.hid (has_new h1 8 (by omega) (by omega))
  clear h1 o1
  go_wp2_with fail
  refine N8.out.mono ?_
  rintro e w2 ⟨b, F, rfl, h2⟩
  clear N8
  have H := Lib.hid h2
  clear h2
  go_wp2_with fail
  go_loopw [10] (fun i wr => ∃ k : Nat, k ≤ len0 ∧ k ≤ 40 ∧ i = .int .i64 k ∧ ApartRel w b z0 k wr) (fun i _ => 40 - (intOf i).toNat)
  case atStart => exact ⟨0, by omega, by omega, rfl, F, _, H.out, WInv.start⟩
  case round =>
    clear H
    obtain ⟨k, hk1, hk2, rfl, F, S, h, inv⟩ := hrel
    by_cases hlt : k < len0 ∧ k < 40
    · obtain ⟨hlt1, hlt2⟩ := hlt
      obtain ⟨lg, lo, rfl, hlg, cB⟩ := HO0.out.cell k hlt1
      have cB1 : wr.cell? ⟨lg, lo + k, none⟩ = some (.int .u8 (z0 k)) := (World.cell?_of_block (w := w) (h.only.block lg hlg (by simp))).trans cB
      have hm : k % 8 < 8 := Nat.mod_lt _ (by omega)
      have H := Lib.hid h
      have INV := Lib.hid inv
      clear h inv cB
      go_wp2_with fail
      refine (full_any (z0 k) _).mono ?_
      rintro e w' ⟨rfl, rfl⟩
      go_wp2_with fail
      rw [show ((k : Int) % 8) = ((k % 8 : Nat) : Int) by omega]
      refine (has_write H.out ((k % 8 : Nat) : Int) (z0 k) (INV.out.reach _ hm) (by have := INV.out.fuse; omega) (by have := INV.out.steps; omega) (by have := INV.out.pend; omega)).mono ?_
      rintro e w5 ⟨rfl, F5, h5⟩
      have H5 := Lib.hid h5
      have INV5 := Lib.hid (INV.out.write (k % 8) (z0 k))
      clear h5 H INV cB1
      go_wp2
      go_roundw
      case rel => exact ⟨k + 1, by omega, by omega, by go_num, F5, _, H5.out, INV5.out⟩
      case measure => simp [intOf]; omega
    · have hx0 : 40 ≤ k := by omega
      clear hlt
      have INV := Lib.hid inv
      have CL := Lib.hid (has_clone h (by have := inv.pend; omega))
      clear h inv
      go_wp2_with fail
      refine CL.out.mono ?_
      rintro e w3 ⟨bc, Fc, rfl, h3⟩
      clear CL
      have W1 := Lib.hid (waiting_any h3.dat)
      have W2 := Lib.hid (waiting_any h3.swap.dat)
      have H3 := Lib.hid h3
      clear h3
      go_wp2_with fail
      refine W1.out.mono ?_
      rintro e w' ⟨rfl, rfl⟩
      go_wp2_with fail
      refine W2.out.mono ?_
      rintro e w' ⟨rfl, rfl⟩
      clear W1 W2
      go_wp2_with fail
      have h4 := H3.out.alloc (.cells #[.int .u8 0, .int .u8 0, .int .u8 0, .int .u8 0, .int .u8 0, .int .u8 0, .int .u8 0, .int .u8 0, .int .u8 0, .int .u8 0, .int .u8 0, .int .u8 0, .int .u8 0, .int .u8 0, .int .u8 0, .int .u8 0] 52)
      generalize w3.heap.size = g at *
      generalize w3.alloc (.cells #[.int .u8 0, .int .u8 0, .int .u8 0, .int .u8 0, .int .u8 0, .int .u8 0, .int .u8 0, .int .u8 0, .int .u8 0, .int .u8 0, .int .u8 0, .int .u8 0, .int .u8 0, .int .u8 0, .int .u8 0, .int .u8 0] 52) = w4 at *
      clear H3
      go_loopw [13] (fun i wr => ∃ k' : Nat, k' ≤ len0 ∧ k' ≤ 40 ∧ i = .int .i64 k' ∧ ApartRel2 w b bc g F Fc S z0 k' wr) (fun i _ => 40 - (intOf i).toNat)
      case atStart => exact ⟨0, by omega, by omega, rfl, _, h4, row16z z0⟩
      case round =>
        clear h4
        obtain ⟨k', hk1', hk2', rfl, A, h5, hA⟩ := hrel
        by_cases hlt : k' < len0 ∧ k' < 40
        · obtain ⟨hlt1, hlt2⟩ := hlt
          obtain ⟨lg, lo, rfl, hlg, cB⟩ := HO0.out.cell k' hlt1
          have cell : ∀ (x : World), Only [] w x → x.cell? ⟨lg, lo + k', none⟩ = some (.int .u8 (z0 k')) := fun x ho => (World.cell?_of_block (w := w) (ho.block lg hlg (by simp))).trans cB
          have cB1 := cell _ h5.only
          have hm : k' % 8 < 8 := Nat.mod_lt _ (by omega)
          obtain ⟨s1, s2, s3⟩ := has_set (i := k' % 8) h5 hA (by omega) (z0 k')
          have hA1 := hA.set (k' % 8) (z0 k')
          obtain ⟨t1, t2, t3⟩ := has_set (i := 8 + k' % 8) s3 hA1 (by omega) (z0 k')
          have hA2 := hA1.set (8 + k' % 8) (z0 k')
          have cB2 := cell _ s3.only
          have hA3 : RowIs ((A.setIfInBounds (k' % 8) (.int .u8 (z0 k'))).setIfInBounds (8 + k' % 8) (.int .u8 (z0 k'))) 16 (fun j => lastOf z0 (k' + 1) (j % 8)) := hA2.congr (fun j hj => by
            simp only [lastOf]
            by_cases h1 : j = 8 + k' % 8
            · rw [if_pos (by omega), if_pos h1]
            · rw [if_neg h1]
              by_cases h2 : j = k' % 8
              · rw [if_pos (by omega), if_pos h2]
              · rw [if_neg (by omega), if_neg h2])
          have T3 := Lib.hid t3
          have A3 := Lib.hid hA3
          clear h5 hA cB cell s3 hA1 t3 hA2 hA3
          go_wp2
          go_roundw
          case rel => exact ⟨k' + 1, by omega, by omega, by go_num, _, T3.out, A3.out⟩
          case measure => simp [intOf]; omega
        · have hx1 : 40 ≤ k' := by omega
          have hkk : k' = k := by omega
          subst hkk
          clear hlt
          have H5 := Lib.hid h5.rot.rot.swap
          have HAR := Lib.hid hA
          clear h5 hA
          go_wp2_with fail
          go_loopw [14] (fun i wr => ∃ m : Nat, m ≤ 40 ∧ i = .int .i64 m ∧ ApartRel3 w b bc g m wr) (fun i _ => 40 - (intOf i).toNat)
          case atStart =>
            have h6 := H5.out
            have iA : WInv S (fun j => lastOf z0 k' (j % 8)) (40 + 0) := (INV.out.congr (fun j hj => by rw [Nat.mod_eq_of_lt hj])).mono (by omega)
            have iB : WInv S (fun j => lastOf z0 k' ((8 + j) % 8)) (40 + 0) := (INV.out.congr (fun j hj => by rw [show (8 + j) % 8 = j by omega])).mono (by omega)
            exact ⟨0, by omega, rfl, F, S, Fc, S, A, _, h6, HAR.out, iA, iB⟩
          case round =>
            clear H5 HAR INV
            obtain ⟨m, hm1, rfl, Fd, Sd, Fc, Sc, A, fS, h6, hA, iD, iC⟩ := hrel
            by_cases hm40 : m < 40
            · by_cases hA1 : m < len1
              · obtain ⟨lg, lo, rfl, hlg, cB⟩ := HO1.out.cell m hA1
                have cB1 : wr.cell? ⟨lg, lo + m, none⟩ = some (.int .u8 (z1 m)) := (World.cell?_of_block (w := w) (h6.only.block lg hlg (by simp))).trans cB
                have hq : 3 * m % 8 < 8 := Nat.mod_lt _ (by omega)
                have HS0 := Lib.hid h6
                have ID0 := Lib.hid iD
                have IC0 := Lib.hid iC
                have AR0 := Lib.hid hA
                clear h6 iD iC hA
                go_wp2_with fail
                refine (full_any (z1 m) _).mono ?_
                rintro e w' ⟨rfl, rfl⟩
                go_wp2_with fail
                rw [show ((3 * (m : Int)) % 8) = ((3 * m % 8 : Nat) : Int) by omega]
                refine (has_write HS0.out ((3 * m % 8 : Nat) : Int) (z1 m) (ID0.out.reach _ hq) (by have := ID0.out.fuse; omega) (by have := ID0.out.steps; omega) (by have := ID0.out.pend; omega)).mono ?_
                rintro e w7 ⟨rfl, F7, h7⟩
                have cB2 : w7.cell? ⟨lg, lo + m, none⟩ = some (.int .u8 (z1 m)) := (World.cell?_of_block (w := w) (h7.only.block lg hlg (by simp))).trans cB
                obtain ⟨s1, s2, s3⟩ := has_set (i := 3 * m % 8) h7.rot AR0.out (by omega) (z1 m)
                have HS := Lib.hid (s3.rot.rot)
                obtain ⟨fT, ID, IC, AR⟩ : ∃ fT : Nat → Int, Hid (WInv (Sd.write ((3 * m % 8 : Nat) : Int) (fullA (z1 m))) fT (40 + m + 1)) ∧ Hid (WInv Sc (fun j => fT (8 + j)) (40 + m)) ∧ Hid (RowIs (A.setIfInBounds (3 * m % 8) (.int .u8 (z1 m))) 16 fT) :=
                  ⟨_, ID0.out.write (3 * m % 8) (z1 m), IC0.out.congr (fun j hj => by show (if 8 + j = 3 * m % 8 then z1 m else fS (8 + j)) = _; rw [if_neg (by omega)]), AR0.out.set (3 * m % 8) (z1 m)⟩
                clear HS0 ID0 IC0 AR0 h7 s3 cB cB1
                by_cases hB : m < len2
                · obtain ⟨lg2, lo2, rfl, hlg2, cC⟩ := HO2.out.cell m hB
                  have cC1 : (w7.setCell ⟨g, 3 * m % 8, none⟩ (.int .u8 (z1 m))).cell? ⟨lg2, lo2 + m, none⟩ = some (.int .u8 (z2 m)) := (World.cell?_of_block (w := w) (HS.out.only.block lg2 hlg2 (by simp))).trans cC
                  have hq2 : 5 * m % 8 < 8 := Nat.mod_lt _ (by omega)
                  have CC := Lib.hid cC
                  clear cC
                  go_wp2_with fail
                  generalize w7.setCell ⟨g, 3 * m % 8, none⟩ (.int .u8 (z1 m)) = wS at *
                  refine (full_any (z2 m) _).mono ?_
                  rintro e w' ⟨rfl, rfl⟩
                  go_wp2_with fail
                  rw [show ((5 * (m : Int)) % 8) = ((5 * m % 8 : Nat) : Int) by omega]
                  refine (has_write HS.out.swap ((5 * m % 8 : Nat) : Int) (z2 m) (IC.out.reach _ hq2) (by have := IC.out.fuse; omega) (by have := IC.out.steps; omega) (by have := IC.out.pend; omega)).mono ?_
                  rintro e w8 ⟨rfl, F8, h8⟩
                  have cC2 : w8.cell? ⟨lg2, lo2 + m, none⟩ = some (.int .u8 (z2 m)) := (World.cell?_of_block (w := w) (h8.only.block lg2 hlg2 (by simp))).trans CC.out
                  obtain ⟨s1, s2, s3⟩ := has_set (i := 8 + 5 * m % 8) h8.rot AR.out (by omega) (z2 m)
                  have H9 := Lib.hid s3
                  have ID9 := Lib.hid ((ID.out.congr (f' := fun j => if j = 8 + 5 * m % 8 then z2 m else fT j) (fun j hj => by rw [if_neg (by omega)])).mono (k' := 40 + (m + 1)) (by omega))
                  have IC9 := Lib.hid (((IC.out.write (5 * m % 8) (z2 m)).congr (f' := fun j => if 8 + j = 8 + 5 * m % 8 then z2 m else fT (8 + j)) (fun j hj => by by_cases h : j = 5 * m % 8 <;> simp [h])).mono (k' := 40 + (m + 1)) (by omega))
                  have AR9 := Lib.hid (AR.out.set (8 + 5 * m % 8) (z2 m))
                  clear HS ID IC AR h8 s3 CC
                  go_wp2
                  go_roundw
                  case rel => exact ⟨m + 1, by omega, by go_num, _, _, _, _, _, _, H9.out.rot.rot.swap, AR9.out, ID9.out, IC9.out⟩
                  case measure => simp [intOf]; omega
                · have ID9 := Lib.hid (ID.out.mono (k' := 40 + (m + 1)) (by omega))
                  have IC9 := Lib.hid (IC.out.mono (k' := 40 + (m + 1)) (by omega))
                  clear ID IC
                  go_wp2
                  go_roundw
                  case rel => exact ⟨m + 1, by omega, by go_num, _, _, _, _, _, _, HS.out, AR.out, ID9.out, IC9.out⟩
                  case measure => simp [intOf]; omega
              · by_cases hB : m < len2
                · obtain ⟨lg2, lo2, rfl, hlg2, cC⟩ := HO2.out.cell m hB
                  have cC1 : wr.cell? ⟨lg2, lo2 + m, none⟩ = some (.int .u8 (z2 m)) := (World.cell?_of_block (w := w) (h6.only.block lg2 hlg2 (by simp))).trans cC
                  have hq2 : 5 * m % 8 < 8 := Nat.mod_lt _ (by omega)
                  have CC := Lib.hid cC
                  have HS := Lib.hid h6
                  have ID := Lib.hid iD
                  have IC := Lib.hid iC
                  have AR := Lib.hid hA
                  clear cC h6 iD iC hA
                  go_wp2_with fail
                  refine (full_any (z2 m) _).mono ?_
                  rintro e w' ⟨rfl, rfl⟩
                  go_wp2_with fail
                  rw [show ((5 * (m : Int)) % 8) = ((5 * m % 8 : Nat) : Int) by omega]
                  refine (has_write HS.out.swap ((5 * m % 8 : Nat) : Int) (z2 m) (IC.out.reach _ hq2) (by have := IC.out.fuse; omega) (by have := IC.out.steps; omega) (by have := IC.out.pend; omega)).mono ?_
                  rintro e w8 ⟨rfl, F8, h8⟩
                  have cC2 : w8.cell? ⟨lg2, lo2 + m, none⟩ = some (.int .u8 (z2 m)) := (World.cell?_of_block (w := w) (h8.only.block lg2 hlg2 (by simp))).trans CC.out
                  obtain ⟨s1, s2, s3⟩ := has_set (i := 8 + 5 * m % 8) h8.rot AR.out (by omega) (z2 m)
                  have H9 := Lib.hid s3
                  have ID9 := Lib.hid ((ID.out.congr (f' := fun j => if j = 8 + 5 * m % 8 then z2 m else fS j) (fun j hj => by rw [if_neg (by omega)])).mono (k' := 40 + (m + 1)) (by omega))
                  have IC9 := Lib.hid (((IC.out.write (5 * m % 8) (z2 m)).congr (f' := fun j => if 8 + j = 8 + 5 * m % 8 then z2 m else fS (8 + j)) (fun j hj => by by_cases h : j = 5 * m % 8 <;> simp [h])).mono (k' := 40 + (m + 1)) (by omega))
                  have AR9 := Lib.hid (AR.out.set (8 + 5 * m % 8) (z2 m))
                  clear HS ID IC AR h8 s3 CC
                  go_wp2
                  go_roundw
                  case rel => exact ⟨m + 1, by omega, by go_num, _, _, _, _, _, _, H9.out.rot.rot.swap, AR9.out, ID9.out, IC9.out⟩
                  case measure => simp [intOf]; omega
                · have HS := Lib.hid h6
                  have ID9 := Lib.hid (iD.mono (k' := 40 + (m + 1)) (by omega))
                  have IC9 := Lib.hid (iC.mono (k' := 40 + (m + 1)) (by omega))
                  have AR := Lib.hid hA
                  clear h6 iD iC hA
                  go_wp2
                  go_roundw
                  case rel => exact ⟨m + 1, by omega, by go_num, _, _, _, _, _, _, HS.out, AR.out, ID9.out, IC9.out⟩
                  case measure => simp [intOf]; omega
            · have BR := Lib.hid (has_barrier h6 iD.on (by have := iD.fuse; omega) (by have := iD.steps; omega))
              have AR := Lib.hid hA
              have vd : ∀ j : Nat, j < 8 → ((Sd.stepped.settled.booted []).now j).getD Z = fullA (fS j) := fun j hj => by
                simp only [St.booted, St.settled, List.length_nil, bootF, St.base, Option.none_or, St.stepped]; exact iD.now j hj
              have vc : ∀ j : Nat, j < 8 → (Sc.now j).getD Z = fullA (fS (8 + j)) := iC.now
              have rd : (Sd.stepped.settled.booted []).on = true ∧ (Sd.stepped.settled.booted []).n = 8 := ⟨rfl, iD.n⟩
              have rc : Sc.on = true ∧ Sc.n = 8 := ⟨iC.on, iC.n⟩
              have VD := Lib.hid vd
              have VC := Lib.hid vc
              have RD := Lib.hid rd
              have RC := Lib.hid rc
              clear h6 iD iC hA vd vc rd rc
              go_wp2_with fail
              refine BR.out.mono ?_
              rintro e w7 ⟨rfl, F7, h7⟩
              clear BR
              have BT := Lib.hid (has_boot (keep := []) h7 ⟨none, 0, rfl, by simp, fun hne => absurd rfl hne⟩ (by simp [St.settled]))
              clear h7
              go_wp2_with fail
              refine BT.out.mono ?_
              rintro e w8 ⟨rfl, F8, h8⟩
              clear BT
              generalize Sd.stepped.settled.booted [] = Se at *
              have H8 := Lib.hid h8
              clear h8
              go_wp2_with fail
              go_loopw [15] (fun i wr => ∃ j : Nat, j ≤ 8 ∧ i = .int .i64 j ∧ Has w wr [DRes b F8 Se, DRes bc Fc Sc, BRes g (.cells A 52)]) (fun i _ => 8 - (intOf i).toNat)
              case atStart => exact ⟨0, by omega, rfl, H8.out⟩
              case round =>
                clear H8
                obtain ⟨j, hj, rfl, h6⟩ := hrel
                by_cases hj8 : j < 8
                · have R := has_read h6 j (by simp only [St.reach, RD.out.1, RD.out.2]; simp; omega)
                  rw [VD.out j hj8] at R
                  have RH := Lib.hid R
                  have h7' := Lib.hid (h6.alloc' (.cells (fullA (fS j)) 65))
                  have g1e := Lib.hid (heap_alloc_last wr (.cells (fullA (fS j)) 65))
                  clear R h6
                  go_wp2_with fail
                  refine RH.out.mono ?_
                  rintro e w' ⟨rfl, rfl⟩
                  clear RH
                  generalize wr.heap.size = g1 at *
                  generalize wr.alloc (.cells (fullA (fS j)) 65) = x1 at *
                  have h7 := h7'.out
                  clear h7'
                  have R := has_read h7.swap j (by simp only [St.reach, RC.out.1, RC.out.2]; simp; omega)
                  rw [VC.out j hj8] at R
                  have RH := Lib.hid R
                  have h8' := Lib.hid (h7.alloc' (.cells (fullA (fS (8 + j))) 65))
                  have g2e := Lib.hid (heap_alloc_last x1 (.cells (fullA (fS (8 + j))) 65))
                  have g1e' := Lib.hid ((Below.heap_alloc _ (.cells (fullA (fS (8 + j))) 65) _ (Array.getElem?_eq_some_iff.1 g1e.out).1).trans g1e.out)
                  clear R h7 g1e
                  go_wp2_with fail
                  refine RH.out.mono ?_
                  rintro e w' ⟨rfl, rfl⟩
                  clear RH
                  generalize x1.heap.size = g2 at *
                  generalize x1.alloc (.cells (fullA (fS (8 + j))) 65) = x2 at *
                  have H8 := h8'
                  have blk := H8.out.blk (g := g) (o := .cells A 52) (by simp)
                  have C1 : Hid (x2.cell? ⟨g, 0 + j, none⟩ = some (.int .u8 (fS j))) := by show _ = _; rw [Nat.zero_add]; exact (cell_of_row _ _ _ _ _ _ blk).trans (AR.out.cell j (by omega))
                  have C2 : Hid (x2.cell? ⟨g, 8 + j, none⟩ = some (.int .u8 (fS (8 + j)))) := (cell_of_row _ _ _ _ _ _ blk).trans (AR.out.cell (8 + j) (by omega))
                  clear h8' blk
                  go_wp2_with fail
                  refine wp_region_flow Lat [0, 0, 0, 0, 0, 0, 0, 0, 1, 0, 0, 0, 1, 2, 1, 0, 0, 0, 0, 1, 0, 0, 0, 1, 2, 1, 0, 0] (by kernel_rfl) (by kernel_rfl) Lat.refl Lat.trans ?_
                  refine fl0 (u := .int .i64 0) (by kernel_rfl) (fun _ => by kernel_rfl) ?_
                  refine fl0 (u := .bool false) (by kernel_rfl) (fun _ => by kernel_rfl) ?_
                  refine fl0 (u := .bool false) (by kernel_rfl) (fun _ => by kernel_rfl) ?_
                  simp only [Act.put, List.setIfInBounds_toArray, List.set_cons_succ, List.set_cons_zero]
                  refine fl0 (u := .int .i64 0) (by kernel_rfl) (fun _ => by kernel_rfl) ?_
                  refine fl0 (u := .bool false) (by kernel_rfl) (fun _ => by kernel_rfl) ?_
                  refine fl0 (u := .bool false) (by kernel_rfl) (fun _ => by kernel_rfl) ?_
                  refine fl0 (u := .bool false) (by kernel_rfl) (fun _ => by kernel_rfl) ?_
                  simp only [Act.put, List.setIfInBounds_toArray, List.set_cons_succ, List.set_cons_zero]
                  refine fl0 (u := .slice (some ⟨g1, 0, none⟩) 64 64) (by kernel_rfl) (fun _ => by kernel_rfl) ?_
                  simp only [Act.put, List.setIfInBounds_toArray, List.set_cons_succ, List.set_cons_zero]
                  refine fl1 (u := .string (fullS (fS j))) (by kernel_rfl) (fun x hx => run_str rfl rfl (hx.at g1e'.out)) ?_
                  refine fl0 (u := .int .i64 j) (by kernel_rfl) (fun _ => by kernel_rfl) ?_
                  simp only [Act.put, List.setIfInBounds_toArray, List.set_cons_succ, List.set_cons_zero]
                  refine fl0 (u := .pointer (some ⟨g, 0, none⟩)) (by kernel_rfl) (run_index52 0 (by omega) rfl rfl) ?_
                  simp only [Act.put, List.setIfInBounds_toArray, List.set_cons_succ, List.set_cons_zero]
                  refine fl0 (u := .pointer (some ⟨g, 0 + j, none⟩)) (by kernel_rfl) (run_index47o hj8 rfl rfl rfl) ?_
                  simp only [Act.put, List.setIfInBounds_toArray, List.set_cons_succ, List.set_cons_zero]
                  refine fl1 (u := .int .u8 (fS j)) (by kernel_rfl) (fun x hx => run_load1 rfl rfl (hx.cell C1.out) isAgg5) ?_
                  simp only [Act.put, List.setIfInBounds_toArray, List.set_cons_succ, List.set_cons_zero]
                  refine fl2 (u := .slice (some ⟨x2.drew.heap.size, 0, none⟩) 64 64) (w' := x2.drew.alloc (.cells (fullA (fS j)) 5)) (by kernel_rfl) (Lat.alloc _ _) (does_full rfl rfl) ?_
                  simp only [Act.put, List.setIfInBounds_toArray, List.set_cons_succ, List.set_cons_zero]
                  refine fl1 (u := .string (fullS (fS j))) (by kernel_rfl) (fun x hx => run_str rfl rfl (hx.at (heap_alloc_last x2.drew _))) ?_
                  simp only [Act.put, List.setIfInBounds_toArray, List.set_cons_succ, List.set_cons_zero]
                  refine fl0 (u := .bool false) (by kernel_rfl) (run_neq_self rfl rfl rfl) ?_
                  refine fl0 (u := .bool false) (by kernel_rfl) (fun _ => by kernel_rfl) ?_
                  refine fl0 (u := .bool false) (by kernel_rfl) (fun _ => by kernel_rfl) ?_
                  simp only [Act.put, List.setIfInBounds_toArray, List.set_cons_succ, List.set_cons_zero]
                  refine fl0 (u := .slice (some ⟨g2, 0, none⟩) 64 64) (by kernel_rfl) (fun _ => by kernel_rfl) ?_
                  simp only [Act.put, List.setIfInBounds_toArray, List.set_cons_succ, List.set_cons_zero]
                  refine fl1 (u := .string (fullS (fS (8 + j)))) (by kernel_rfl) (fun x hx => run_str rfl rfl (hx.at ((Lat.alloc _ _).at g2e.out))) ?_
                  refine fl0 (u := .int .i64 j) (by kernel_rfl) (fun _ => by kernel_rfl) ?_
                  simp only [Act.put, List.setIfInBounds_toArray, List.set_cons_succ, List.set_cons_zero]
                  refine fl0 (u := .pointer (some ⟨g, 8, none⟩)) (by kernel_rfl) (run_index52 1 (by omega) rfl rfl) ?_
                  simp only [Act.put, List.setIfInBounds_toArray, List.set_cons_succ, List.set_cons_zero]
                  refine fl0 (u := .pointer (some ⟨g, 8 + j, none⟩)) (by kernel_rfl) (run_index47o hj8 rfl rfl rfl) ?_
                  simp only [Act.put, List.setIfInBounds_toArray, List.set_cons_succ, List.set_cons_zero]
                  refine fl1 (u := .int .u8 (fS (8 + j))) (by kernel_rfl) (fun x hx => run_load1 rfl rfl (hx.cell ((Lat.alloc _ _).cell C2.out)) isAgg5) ?_
                  simp only [Act.put, List.setIfInBounds_toArray, List.set_cons_succ, List.set_cons_zero]
                  refine fl2 (u := .slice (some ⟨(x2.drew.alloc (.cells (fullA (fS j)) 5)).heap.size, 0, none⟩) 64 64) (w' := (x2.drew.alloc (.cells (fullA (fS j)) 5)).alloc (.cells (fullA (fS (8 + j))) 5)) (by kernel_rfl) (Lat.alloc _ _) (does_full rfl rfl) ?_
                  simp only [Act.put, List.setIfInBounds_toArray, List.set_cons_succ, List.set_cons_zero]
                  refine fl1 (u := .string (fullS (fS (8 + j)))) (by kernel_rfl) (fun x hx => run_str rfl rfl (hx.at (heap_alloc_last (x2.drew.alloc (.cells (fullA (fS j)) 5)) _))) ?_
                  simp only [Act.put, List.setIfInBounds_toArray, List.set_cons_succ, List.set_cons_zero]
                  refine fl0 (u := .bool false) (by kernel_rfl) (run_neq_self rfl rfl rfl) ?_
                  refine fl0 (u := .bool false) (by kernel_rfl) (fun _ => by kernel_rfl) ?_
                  simp only [Act.put, List.setIfInBounds_toArray, List.set_cons_succ, List.set_cons_zero]
                  refine flnil ?_
                  have h9 := (H8.out.drew.alloc' (.cells (fullA (fS j)) 5)).alloc' (.cells (fullA (fS (8 + j))) 5)
                  generalize (x2.drew.alloc (.cells (fullA (fS j)) 5)).alloc (.cells (fullA (fS (8 + j))) 5) = x3 at *
                  clear H8 C1 C2 g1e' g2e
                  go_wp2
                  go_roundw
                  case rel => exact ⟨j + 1, by omega, by go_num, h9⟩
                  case measure => simp [intOf]; omega
                · go_wp2
                  go_ret
                  exact ⟨rfl, h6.only⟩

end Go.Proofs.Ytabddepidhfelaa
