/- A boot that keeps all is as a barrier ahead of it, and one that keeps nothing as if what waited had not been written: the walk of the law. -/
import Derived.Test.YtabddepidhfelaaClone
import Derived.Test.YtabddepidhfelaaInv
set_option linter.unusedSimpArgs false
namespace Go.Proofs.Ytabddepidhfelaa
open Go.RowKit

theorem bootF_congr {base base' : Int → Option (Array Value)} (h : ∀ j, (base j).getD Z = (base' j).getD Z) (keep : List Int) (pend : List (Int × Array Value)) : ∀ m j, (bootF base keep pend m j).getD Z = (bootF base' keep pend m j).getD Z
  | 0, j => h j
  | m + 1, j => by
    have ih := bootF_congr h keep pend m
    cases hp : pend[m]? with
    | none => rw [bootF_none hp, bootF_none hp]; exact ih j
    | some p =>
      rw [bootF_some hp, bootF_some hp]
      split
      · simp only [updF]; split
        · rfl
        · exact ih j
      · exact ih j

theorem bootF_take (base : Int → Option (Array Value)) (keep : List Int) (pend : List (Int × Array Value)) (q : Int × Array Value) : ∀ m, m ≤ pend.length → bootF base keep (pend ++ [q]) m = bootF base keep pend m
  | 0, _ => rfl
  | m + 1, hm => by
    have ih := bootF_take base keep pend q m (by omega)
    have hp : pend[m]? = some pend[m] := List.getElem?_eq_getElem (by omega)
    have hp' : (pend ++ [q])[m]? = some pend[m] := by rw [List.getElem?_append_left (by omega)]; exact hp
    rw [bootF_some hp, bootF_some hp', ih]

/-- What waits, laid over what is sure, is what can be read. -/
structure NInv (S : St) (h : Nat → Int) : Prop where
  now : ∀ j : Nat, j < 8 → (S.now j).getD Z = fullA (h j)
  all : ∀ j : Nat, j < 8 → (bootF S.base [1] S.pend S.pend.length j).getD Z = fullA (h j)

theorem NInv.start {S : St} {f : Nat → Int} {k : Nat} (h : WInv S f k) : NInv S.stepped.settled f :=
  ⟨h.now, fun j hj => by simp only [St.settled, St.stepped, List.length_nil, bootF, St.base, Option.none_or]; exact h.now j hj⟩

theorem surv_one (k : Nat) : surv [1] k = true := by
  simp [surv, Nat.mod_one]
theorem surv_even (k : Nat) : surv [0, 2, -4] k = false := by
  have h : k % 3 = 0 ∨ k % 3 = 1 ∨ k % 3 = 2 := by omega
  rcases h with h | h | h <;> simp [surv, h] <;> decide

theorem NInv.write {S : St} {h : Nat → Int} (hn : NInv S h) (i : Nat) (c : Int) : NInv (S.write i (fullA c)) (fun j => if j = i then c else h j) := by
  refine ⟨fun j hj => ?_, fun j hj => ?_⟩
  · simp only [St.write, St.written, St.kept, St.stepped, updF]
    by_cases hji : j = i
    · subst hji; simp
    · have : ¬ ((j : Int) = (i : Int)) := by omega
      rw [if_neg this, if_neg hji]
      exact hn.now j hj
  · have ep : (S.write i (fullA c)).pend = S.pend ++ [((i : Int), fullA c)] := rfl
    have el : (S.pend ++ [((i : Int), fullA c)]).length = S.pend.length + 1 := by simp
    have hg : (S.pend ++ [((i : Int), fullA c)])[S.pend.length]? = some ((i : Int), fullA c) := by rw [List.getElem?_append_right (Nat.le_refl _)]; simp
    rw [ep, el, bootF_some hg, surv_one, if_pos rfl]
    simp only [updF]
    by_cases hji : j = i
    · subst hji; simp
    · have : ¬ ((j : Int) = (i : Int)) := by omega
      rw [if_neg this, if_neg hji, bootF_take _ _ _ _ _ (Nat.le_refl _), bootF_congr (fun j => write_base S i (fullA c) j)]
      exact hn.all j hj

theorem bootF_even (base : Int → Option (Array Value)) (pend : List (Int × Array Value)) : ∀ m, bootF base [0, 2, -4] pend m = base
  | 0 => rfl
  | m + 1 => by
    cases h : pend[m]? with
    | none => rw [bootF_none h, bootF_even base pend m]
    | some p => rw [bootF_some h, surv_even, if_neg (by simp), bootF_even base pend m]

theorem keep_lit {w : World} {F : List Nat} {keep : List Int} {t : TypeId} (hF : ∀ x ∈ F, x < w.heap.size) (hl : keep.length ≤ 9223372036854775807) :
    KeepAt (w.alloc (.cells (keep.map (Value.int .i64)).toArray t)) F (.slice (some ⟨w.heap.size, 0, none⟩) keep.length keep.length) keep := by
  refine ⟨_, _, rfl, hl, fun _ => ⟨w.heap.size, 0, rfl, by simp, fun hx => by have := hF _ hx; omega, fun j z hz => ?_⟩⟩
  rw [Nat.zero_add, cell_of_row _ _ _ _ _ _ (heap_alloc_last w _)]
  simp [hz]

theorem Has.rot {w0 w : World} {r s t : Res} {Rs : List Res} (h : Has w0 w (r :: s :: t :: Rs)) : Has w0 w (t :: r :: s :: Rs) := by
  obtain ⟨h1, h2⟩ := List.pairwise_cons.1 h.apart
  obtain ⟨h3, h4⟩ := List.pairwise_cons.1 h2
  obtain ⟨h5, h6⟩ := List.pairwise_cons.1 h4
  refine ⟨h.only, fun q hq => h.each q (by simp at hq ⊢; rcases hq with h | h | h | h <;> simp [h]), List.pairwise_cons.2 ⟨fun q hq x hx hxq => ?_, List.pairwise_cons.2 ⟨fun q hq => h1 q (by simp at hq ⊢; rcases hq with h | h <;> simp [h]), List.pairwise_cons.2 ⟨fun q hq => h3 q (by simp [hq]), h6⟩⟩⟩⟩
  simp at hq
  rcases hq with rfl | rfl | hq
  · exact h1 t (by simp) x hxq hx
  · exact h3 t (by simp) x hxq hx
  · exact h5 q hq x hx hxq

/-- The last of four comes to the front. -/
theorem Has.rot4 {w0 w : World} {r s t u : Res} {Rs : List Res} (h : Has w0 w (r :: s :: t :: u :: Rs)) : Has w0 w (u :: r :: s :: t :: Rs) := by
  have h1 := h.rot          -- t r s u
  obtain ⟨p1, p2⟩ := List.pairwise_cons.1 h.apart
  obtain ⟨p3, p4⟩ := List.pairwise_cons.1 p2
  obtain ⟨p5, p6⟩ := List.pairwise_cons.1 p4
  obtain ⟨p7, p8⟩ := List.pairwise_cons.1 p6
  refine ⟨h.only, fun q hq => h.each q (by simp at hq ⊢; rcases hq with h | h | h | h | h <;> simp [h]), List.pairwise_cons.2 ⟨fun q hq x hx hxq => ?_, List.pairwise_cons.2 ⟨fun q hq => p1 q (by simp at hq ⊢; rcases hq with h | h | h <;> simp [h]), List.pairwise_cons.2 ⟨fun q hq => p3 q (by simp at hq ⊢; rcases hq with h | h <;> simp [h]), List.pairwise_cons.2 ⟨fun q hq => p5 q (by simp [hq]), p8⟩⟩⟩⟩⟩
  simp at hq
  rcases hq with rfl | rfl | rfl | hq
  · exact p1 u (by simp) x hxq hx
  · exact p3 u (by simp) x hxq hx
  · exact p5 u (by simp) x hxq hx
  · exact p7 q hq x hx hxq

def BootsRel (w : World) (b k : Nat) (wr : World) : Prop := ∃ F S f, Has w wr [DRes b F S] ∧ WInv S f k
def BootsRel2 (w : World) (b bo : Nat) (Fo : List Nat) (So : St) (f : Nat → Int) (z : Nat → Int) (m : Nat) (wr : World) : Prop := ∃ F S h, Has w wr [DRes b F S, DRes bo Fo So] ∧ BInv S f (fun i => 5 * i % 8) z m ∧ NInv S h

section
variable {o : Oper} {a : Act} {ops : Array Oper} {rest : List Oper} {Q : Exit → Act → World → Prop} {w : World}
theorem wpL_str {x : Operand} {g : Nat} {c : Int} {t : TypeId} (hw : Region.wanted o (yielded ops a.tmps) = true) (ho : o.op = .convert 37 9 x) (hx : a.eval x = .slice (some ⟨g, 0, none⟩) 64 64) (hb : w.heap[g]? = some (.cells (fullA c) t (0, 0)))
    (h : wpList Try.prog ops Q rest (a.put o.dst (.string (fullS c))) w) : wpList Try.prog ops Q (o :: rest) a w :=
  wpList_step fun K hK => by
    rw [if_pos hw]
    unfold Oper.wp
    rw [run_str ho hx hb]
    exact hK _ _ h
end

set_option maxRecDepth 100000 in
set_option maxHeartbeats 8000000 in
theorem boots_any0 (w : World) (a0 : Option Addr) (len0 cap0 : Nat) (z0 : Nat → Int) (a1 : Option Addr) (len1 cap1 : Nat) (z1 : Nat → Int) (hl0 : len0 ≤ 9223372036854775807) (hl1 : len1 ≤ 9223372036854775807)
    (b0 : BytesAt w a0 len0 z0) (b1 : BytesAt w a1 len1 z1) (hc0 : len0 ≤ 40) (hc1 : len1 ≤ 40) :
    Calls Try.prog 8 #[.slice a0 len0 cap0, .slice a1 len1 cap1] w fun e w' => e = .returned (.bool true) ∧ Only [] w w' := by
  have HO0 := Lib.hid b0
  have HO1 := Lib.hid b1
  clear b0 b1
  go_enter Try.func8, Try.ntmps8
  go_wp2_with fail
  refine (shown_any w).mono ?_
  rintro e w1 ⟨rfl, o1⟩
  have h1 : Has w w1 [] := (Has.start w).later o1
  have N8 := Lib.hid (has_new h1 8 (by omega) (by omega))
  clear h1 o1
  go_wp2_with fail
  refine N8.out.mono ?_
  rintro e w2 ⟨b, F, rfl, h2⟩
  clear N8
  have H := Lib.hid h2
  clear h2
  go_wp2_with fail
  go_loopw [8] (fun i wr => ∃ k : Nat, k ≤ len0 ∧ k ≤ 40 ∧ i = .int .i64 k ∧ BootsRel w b k wr) (fun i _ => 40 - (intOf i).toNat)
  case atStart => exact ⟨0, by omega, by omega, rfl, F, _, _, H.out, WInv.start⟩
  case round =>
    clear H
    obtain ⟨k, hk1, hk2, rfl, F, S, f, h, inv⟩ := hrel
    by_cases hlt : k < len0 ∧ k < 40
    · obtain ⟨hlt1, hlt2⟩ := hlt
      obtain ⟨lg, lo, rfl, hlg, cB⟩ := HO0.out.cell k hlt1
      have cB1 : wr.cell? ⟨lg, lo + k, none⟩ = some (.int .u8 (z0 k)) := (World.cell?_of_block (w := w) (h.only.block lg hlg (by simp))).trans cB
      have hm : k % 8 < 8 := Nat.mod_lt _ (by omega)
      have H := Lib.hid h
      have INV := Lib.hid inv
      clear h inv cB
      go_wp2_with fail
      refine (full_any (z0 k) _).mono ?_
      rintro e w' ⟨rfl, rfl⟩
      go_wp2_with fail
      rw [show ((k : Int) % 8) = ((k % 8 : Nat) : Int) by omega]
      refine (has_write H.out ((k % 8 : Nat) : Int) (z0 k) (INV.out.reach _ hm) (by have := INV.out.fuse; omega) (by have := INV.out.steps; omega) (by have := INV.out.pend; omega)).mono ?_
      rintro e w5 ⟨rfl, F5, h5⟩
      have H5 := Lib.hid h5
      have INV5 := Lib.hid (INV.out.write (k % 8) (z0 k))
      clear h5 H INV cB1
      go_wp2
      go_roundw
      case rel => exact ⟨k + 1, by omega, by omega, by go_num, F5, _, _, H5.out, INV5.out⟩
      case measure => simp [intOf]; omega
    · have hx0 : len0 ≤ k := by omega
      clear hlt
      have BR := Lib.hid (has_barrier h inv.on (by have := inv.fuse; omega) (by have := inv.steps; omega))
      have binv := BInv.start inv (by omega) (fun i => 5 * i % 8) z1
      have ninv := NInv.start inv
      generalize S.stepped.settled = S1 at *
      have BINV := Lib.hid binv
      have NINV := Lib.hid ninv
      clear h inv binv ninv
      go_wp2_with fail
      refine BR.out.mono ?_
      rintro e w6 ⟨rfl, F6, h6⟩
      clear BR
      have CL := Lib.hid (has_clone h6 (by rw [BINV.out.len]; omega))
      clear h6
      go_wp2_with fail
      refine CL.out.mono ?_
      rintro e w7 ⟨bo, Fo, rfl, h7⟩
      clear CL
      have H7 := Lib.hid h7.swap
      clear h7
      go_wp2_with fail
      go_loopw [10] (fun i wr => ∃ m : Nat, m ≤ len1 ∧ m ≤ 40 ∧ i = .int .i64 m ∧ BootsRel2 w b bo Fo S1 f z1 m wr) (fun i _ => 40 - (intOf i).toNat)
      case atStart => exact ⟨0, by omega, by omega, rfl, F6, S1, f, H7.out, BINV.out, NINV.out⟩
      case round =>
        clear H7
        obtain ⟨m, hm1, hm2, rfl, F7, S7, hf, h7, inv7, ninv7⟩ := hrel
        by_cases hlt1 : m < len1 ∧ m < 40
        · obtain ⟨hlt2, hlt3⟩ := hlt1
          obtain ⟨lg, lo, rfl, hlg, cB⟩ := HO1.out.cell m hlt2
          have cB1 : wr.cell? ⟨lg, lo + m, none⟩ = some (.int .u8 (z1 m)) := (World.cell?_of_block (w := w) (h7.only.block lg hlg (by simp))).trans cB
          have hq : 5 * m % 8 < 8 := Nat.mod_lt _ (by omega)
          have H := Lib.hid h7
          have INV := Lib.hid inv7
          have NIN := Lib.hid ninv7
          clear h7 inv7 cB ninv7
          go_wp2_with fail
          refine (full_any (z1 m) _).mono ?_
          rintro e w' ⟨rfl, rfl⟩
          go_wp2_with fail
          rw [show ((5 * (m : Int)) % 8) = ((5 * m % 8 : Nat) : Int) by omega]
          refine (has_write H.out ((5 * m % 8 : Nat) : Int) (z1 m) (INV.out.reach _ hq) (by have := INV.out.fuse; omega) (by have := INV.out.steps; omega) (by have := INV.out.len; omega)).mono ?_
          rintro e w8 ⟨rfl, F8, h8⟩
          have H8 := Lib.hid h8
          have INV8 := Lib.hid INV.out.write
          have NIN8 := Lib.hid (NIN.out.write (5 * m % 8) (z1 m))
          clear H INV NIN h8 cB1
          go_wp2
          go_roundw
          case rel => exact ⟨m + 1, by omega, by omega, by go_num, F8, _, _, H8.out, INV8.out, NIN8.out⟩
          case measure => simp [intOf]; omega
        · have hx1 : len1 ≤ m := by omega
          clear hlt1
          have INV := Lib.hid inv7
          have NIN := Lib.hid ninv7
          have CL1 := Lib.hid (has_clone h7 (by rw [inv7.len]; omega))
          clear h7 inv7 ninv7
          go_wp2_with fail
          refine CL1.out.mono ?_
          rintro e w8 ⟨ba, Fa, rfl, h8⟩
          clear CL1
          have CL2 := Lib.hid (has_clone h8.swap (by rw [INV.out.len]; omega))
          clear h8
          go_wp2_with fail
          refine CL2.out.mono ?_
          rintro e w9 ⟨bn, Fn, rfl, h9⟩
          clear CL2
          -- none, d, all, old
          have BR := Lib.hid (has_barrier h9.swap INV.out.on (by have := INV.out.fuse; omega) (by have := INV.out.steps; omega))
          clear h9
          go_wp2_with fail
          refine BR.out.mono ?_
          rintro e w10 ⟨rfl, F10, h10⟩
          clear BR
          have BT := Lib.hid (has_boot (keep := []) h10 ⟨none, 0, rfl, by simp, fun hne => absurd rfl hne⟩ (by simp [St.settled]))
          clear h10
          go_wp2_with fail
          refine BT.out.mono ?_
          rintro e w11 ⟨rfl, F11, h11⟩
          clear BT
          -- d, none, all, old
          have h12 := (h11.rot).alloc' (.cells #[.int .i64 1] 3)
          have K12 : KeepAt (w11.alloc (.cells #[.int .i64 1] 3)) Fa (.slice (some ⟨w11.heap.size, 0, none⟩) 1 1) [1] := keep_lit (keep := [1]) (dAt_lt h11.rot.dat) (by simp)
          have BT := Lib.hid (has_boot h12 K12 (by rw [INV.out.len]; omega))
          clear h11 h12 K12
          go_wp2_with fail
          refine BT.out.mono ?_
          rintro e w13 ⟨rfl, F13, h13⟩
          clear BT
          -- all, d, none, old
          have h14 := (h13.rot).alloc' (.cells #[.int .i64 0, .int .i64 2, .int .i64 (-4)] 3)
          have K14 : KeepAt (w13.alloc (.cells #[.int .i64 0, .int .i64 2, .int .i64 (-4)] 3)) Fn (.slice (some ⟨w13.heap.size, 0, none⟩) 3 3) [0, 2, -4] := keep_lit (keep := [0, 2, -4]) (dAt_lt h13.rot.dat) (by simp)
          have BT := Lib.hid (has_boot h14 K14 (by rw [INV.out.len]; omega))
          clear h13 h14 K14
          go_wp2_with fail
          refine BT.out.mono ?_
          rintro e w15 ⟨rfl, F15, h15⟩
          clear BT
          -- none, all, d, old
          have vd : ∀ j : Nat, j < 8 → ((S7.stepped.settled.booted []).now j).getD Z = fullA (hf j) := fun j hj => by
            simp only [St.booted, St.settled, List.length_nil, bootF, St.base, Option.none_or, St.stepped]; exact NIN.out.now j hj
          have va : ∀ j : Nat, j < 8 → ((S7.booted [1]).now j).getD Z = fullA (hf j) := fun j hj => NIN.out.all j hj
          have vn : ∀ j : Nat, j < 8 → ((S7.booted [0, 2, -4]).now j).getD Z = fullA (f j) := fun j hj => by
            simp only [St.booted, bootF_even]; exact INV.out.base j hj
          have vo : ∀ j : Nat, j < 8 → (S1.now j).getD Z = fullA (f j) := fun j hj => by
            have := BINV.out.base j hj
            have hs : S1.pend = [] := List.eq_nil_of_length_eq_zero BINV.out.len
            exact NINV.out.now j hj
          have rd : (S7.stepped.settled.booted []).on = true ∧ (S7.stepped.settled.booted []).n = 8 := ⟨rfl, INV.out.n⟩
          have ra : (S7.booted [1]).on = true ∧ (S7.booted [1]).n = 8 := ⟨rfl, INV.out.n⟩
          have rn : (S7.booted [0, 2, -4]).on = true ∧ (S7.booted [0, 2, -4]).n = 8 := ⟨rfl, INV.out.n⟩
          have ro : S1.on = true ∧ S1.n = 8 := ⟨BINV.out.on, BINV.out.n⟩
          generalize S7.stepped.settled.booted [] = Sd at *
          generalize S7.booted [1] = Sa at *
          generalize S7.booted [0, 2, -4] = Sn at *
          have VD := Lib.hid vd
          have VA := Lib.hid va
          have VN := Lib.hid vn
          have VO := Lib.hid vo
          have RD := Lib.hid rd
          have RA := Lib.hid ra
          have RN := Lib.hid rn
          have RO := Lib.hid ro
          have H15 := Lib.hid h15
          clear vd va vn vo rd ra rn ro h15 INV NIN
          go_wp2_with fail
          go_loopw [13] (fun i wr => ∃ j : Nat, j ≤ 8 ∧ i = .int .i64 j ∧ Has w wr [DRes bn F15 Sn, DRes ba F13 Sa, DRes b F11 Sd, DRes bo Fo S1]) (fun i _ => 8 - (intOf i).toNat)
          case atStart => exact ⟨0, by omega, rfl, H15.out⟩
          case round =>
            clear H15
            obtain ⟨j, hj, rfl, h6⟩ := hrel
            by_cases hj8 : j < 8
            · have hdummy := hj8
              have R := has_read h6.rot j (by simp only [St.reach, RD.out.1, RD.out.2]; simp; omega)
              rw [VD.out j hj8] at R
              have RH := Lib.hid R
              have h7' := Lib.hid (h6.alloc' (.cells (fullA (hf j)) 65))
              have g1e := Lib.hid (heap_alloc_last wr (.cells (fullA (hf j)) 65))
              clear R h6
              go_wp2_with fail
              refine RH.out.mono ?_
              rintro e w' ⟨rfl, rfl⟩
              clear RH
              generalize wr.heap.size = g1 at *
              generalize wr.alloc (.cells (fullA (hf j)) 65) = x1 at *
              have h7 := h7'.out
              clear h7'
              have R := has_read h7.swap j (by simp only [St.reach, RA.out.1, RA.out.2]; simp; omega)
              rw [VA.out j hj8] at R
              have RH := Lib.hid R
              have h8' := Lib.hid (h7.alloc' (.cells (fullA (hf j)) 65))
              have g2e := Lib.hid (heap_alloc_last x1 (.cells (fullA (hf j)) 65))
              have g1e' := Lib.hid ((Below.heap_alloc _ (.cells (fullA (hf j)) 65) _ (Array.getElem?_eq_some_iff.1 g1e.out).1).trans g1e.out)
              clear R h7
              go_wp2_with fail
              refine RH.out.mono ?_
              rintro e w' ⟨rfl, rfl⟩
              clear RH
              generalize x1.heap.size = g2 at *
              generalize x1.alloc (.cells (fullA (hf j)) 65) = x2 at *
              clear g1e
              have g1e := g1e'
              clear g1e'
              have h8 := h8'.out
              clear h8'
              have R := has_read h8.rot4 j (by simp only [St.reach, RO.out.1, RO.out.2]; simp; omega)
              rw [VO.out j hj8] at R
              have RH := Lib.hid R
              have h9' := Lib.hid (h8.alloc' (.cells (fullA (f j)) 65))
              have g3e := Lib.hid (heap_alloc_last x2 (.cells (fullA (f j)) 65))
              have g1e' := Lib.hid ((Below.heap_alloc _ (.cells (fullA (f j)) 65) _ (Array.getElem?_eq_some_iff.1 g1e.out).1).trans g1e.out)
              have g2e' := Lib.hid ((Below.heap_alloc _ (.cells (fullA (f j)) 65) _ (Array.getElem?_eq_some_iff.1 g2e.out).1).trans g2e.out)
              clear R h8
              go_wp2_with fail
              refine RH.out.mono ?_
              rintro e w' ⟨rfl, rfl⟩
              clear RH
              generalize x2.heap.size = g3 at *
              generalize x2.alloc (.cells (fullA (f j)) 65) = x3 at *
              clear g1e
              have g1e := g1e'
              clear g1e'
              clear g2e
              have g2e := g2e'
              clear g2e'
              have h9 := h9'.out
              clear h9'
              have R := has_read h9 j (by simp only [St.reach, RN.out.1, RN.out.2]; simp; omega)
              rw [VN.out j hj8] at R
              have RH := Lib.hid R
              have h10' := Lib.hid (h9.alloc' (.cells (fullA (f j)) 65))
              have g4e := Lib.hid (heap_alloc_last x3 (.cells (fullA (f j)) 65))
              have g1e' := Lib.hid ((Below.heap_alloc _ (.cells (fullA (f j)) 65) _ (Array.getElem?_eq_some_iff.1 g1e.out).1).trans g1e.out)
              have g2e' := Lib.hid ((Below.heap_alloc _ (.cells (fullA (f j)) 65) _ (Array.getElem?_eq_some_iff.1 g2e.out).1).trans g2e.out)
              have g3e' := Lib.hid ((Below.heap_alloc _ (.cells (fullA (f j)) 65) _ (Array.getElem?_eq_some_iff.1 g3e.out).1).trans g3e.out)
              clear R h9
              go_wp2_with fail
              refine RH.out.mono ?_
              rintro e w' ⟨rfl, rfl⟩
              clear RH
              generalize x3.heap.size = g4 at *
              generalize x3.alloc (.cells (fullA (f j)) 65) = x4 at *
              clear g1e
              have g1e := g1e'
              clear g1e'
              clear g2e
              have g2e := g2e'
              clear g2e'
              clear g3e
              have g3e := g3e'
              clear g3e'
              have h10 := h10'.out
              clear h10'
              have H10 := Lib.hid h10
              clear h10
              go_wp2_with (first | (refine wpL_str (by kernel_rfl) rfl rfl g1e.out ?_) | (refine wpL_str (by kernel_rfl) rfl rfl g2e.out ?_) | (refine wpL_str (by kernel_rfl) rfl rfl g3e.out ?_) | (refine wpL_str (by kernel_rfl) rfl rfl g4e.out ?_))
              go_roundw
              case rel => exact ⟨j + 1, by omega, by go_num, H10.out⟩
              case measure => simp [intOf]; omega
            · go_wp2
              go_ret
              exact ⟨rfl, h6.only⟩

set_option maxRecDepth 100000 in
set_option maxHeartbeats 8000000 in
theorem boots_any1 (w : World) (a0 : Option Addr) (len0 cap0 : Nat) (z0 : Nat → Int) (a1 : Option Addr) (len1 cap1 : Nat) (z1 : Nat → Int) (hl0 : len0 ≤ 9223372036854775807) (hl1 : len1 ≤ 9223372036854775807)
    (b0 : BytesAt w a0 len0 z0) (b1 : BytesAt w a1 len1 z1) (hc0 : len0 ≤ 40) (hc1 : 40 < len1) :
    Calls Try.prog 8 #[.slice a0 len0 cap0, .slice a1 len1 cap1] w fun e w' => e = .returned (.bool true) ∧ Only [] w w' := by
  have HO0 := Lib.hid b0
  have HO1 := Lib.hid b1
  clear b0 b1
  go_enter Try.func8, Try.ntmps8
  go_wp2_with fail
  refine (shown_any w).mono ?_
  rintro e w1 ⟨rfl, o1⟩
  have h1 : Has w w1 [] := (Has.start w).later o1
  have N8 := Lib.hid (has_new h1 8 (by omega) (by omega))
  clear h1 o1
  go_wp2_with fail
  refine N8.out.mono ?_
  rintro e w2 ⟨b, F, rfl, h2⟩
  clear N8
  have H := Lib.hid h2
  clear h2
  go_wp2_with fail
  go_loopw [8] (fun i wr => ∃ k : Nat, k ≤ len0 ∧ k ≤ 40 ∧ i = .int .i64 k ∧ BootsRel w b k wr) (fun i _ => 40 - (intOf i).toNat)
  case atStart => exact ⟨0, by omega, by omega, rfl, F, _, _, H.out, WInv.start⟩
  case round =>
    clear H
    obtain ⟨k, hk1, hk2, rfl, F, S, f, h, inv⟩ := hrel
    by_cases hlt : k < len0 ∧ k < 40
    · obtain ⟨hlt1, hlt2⟩ := hlt
      obtain ⟨lg, lo, rfl, hlg, cB⟩ := HO0.out.cell k hlt1
      have cB1 : wr.cell? ⟨lg, lo + k, none⟩ = some (.int .u8 (z0 k)) := (World.cell?_of_block (w := w) (h.only.block lg hlg (by simp))).trans cB
      have hm : k % 8 < 8 := Nat.mod_lt _ (by omega)
      have H := Lib.hid h
      have INV := Lib.hid inv
      clear h inv cB
      go_wp2_with fail
      refine (full_any (z0 k) _).mono ?_
      rintro e w' ⟨rfl, rfl⟩
      go_wp2_with fail
      rw [show ((k : Int) % 8) = ((k % 8 : Nat) : Int) by omega]
      refine (has_write H.out ((k % 8 : Nat) : Int) (z0 k) (INV.out.reach _ hm) (by have := INV.out.fuse; omega) (by have := INV.out.steps; omega) (by have := INV.out.pend; omega)).mono ?_
      rintro e w5 ⟨rfl, F5, h5⟩
      have H5 := Lib.hid h5
      have INV5 := Lib.hid (INV.out.write (k % 8) (z0 k))
      clear h5 H INV cB1
      go_wp2
      go_roundw
      case rel => exact ⟨k + 1, by omega, by omega, by go_num, F5, _, _, H5.out, INV5.out⟩
      case measure => simp [intOf]; omega
    · have hx0 : len0 ≤ k := by omega
      clear hlt
      have BR := Lib.hid (has_barrier h inv.on (by have := inv.fuse; omega) (by have := inv.steps; omega))
      have binv := BInv.start inv (by omega) (fun i => 5 * i % 8) z1
      have ninv := NInv.start inv
      generalize S.stepped.settled = S1 at *
      have BINV := Lib.hid binv
      have NINV := Lib.hid ninv
      clear h inv binv ninv
      go_wp2_with fail
      refine BR.out.mono ?_
      rintro e w6 ⟨rfl, F6, h6⟩
      clear BR
      have CL := Lib.hid (has_clone h6 (by rw [BINV.out.len]; omega))
      clear h6
      go_wp2_with fail
      refine CL.out.mono ?_
      rintro e w7 ⟨bo, Fo, rfl, h7⟩
      clear CL
      have H7 := Lib.hid h7.swap
      clear h7
      go_wp2_with fail
      go_loopw [10] (fun i wr => ∃ m : Nat, m ≤ len1 ∧ m ≤ 40 ∧ i = .int .i64 m ∧ BootsRel2 w b bo Fo S1 f z1 m wr) (fun i _ => 40 - (intOf i).toNat)
      case atStart => exact ⟨0, by omega, by omega, rfl, F6, S1, f, H7.out, BINV.out, NINV.out⟩
      case round =>
        clear H7
        obtain ⟨m, hm1, hm2, rfl, F7, S7, hf, h7, inv7, ninv7⟩ := hrel
        by_cases hlt1 : m < len1 ∧ m < 40
        · obtain ⟨hlt2, hlt3⟩ := hlt1
          obtain ⟨lg, lo, rfl, hlg, cB⟩ := HO1.out.cell m hlt2
          have cB1 : wr.cell? ⟨lg, lo + m, none⟩ = some (.int .u8 (z1 m)) := (World.cell?_of_block (w := w) (h7.only.block lg hlg (by simp))).trans cB
          have hq : 5 * m % 8 < 8 := Nat.mod_lt _ (by omega)
          have H := Lib.hid h7
          have INV := Lib.hid inv7
          have NIN := Lib.hid ninv7
          clear h7 inv7 cB ninv7
          go_wp2_with fail
          refine (full_any (z1 m) _).mono ?_
          rintro e w' ⟨rfl, rfl⟩
          go_wp2_with fail
          rw [show ((5 * (m : Int)) % 8) = ((5 * m % 8 : Nat) : Int) by omega]
          refine (has_write H.out ((5 * m % 8 : Nat) : Int) (z1 m) (INV.out.reach _ hq) (by have := INV.out.fuse; omega) (by have := INV.out.steps; omega) (by have := INV.out.len; omega)).mono ?_
          rintro e w8 ⟨rfl, F8, h8⟩
          have H8 := Lib.hid h8
          have INV8 := Lib.hid INV.out.write
          have NIN8 := Lib.hid (NIN.out.write (5 * m % 8) (z1 m))
          clear H INV NIN h8 cB1
          go_wp2
          go_roundw
          case rel => exact ⟨m + 1, by omega, by omega, by go_num, F8, _, _, H8.out, INV8.out, NIN8.out⟩
          case measure => simp [intOf]; omega
        · have hx1 : 40 ≤ m := by omega
          clear hlt1
          have INV := Lib.hid inv7
          have NIN := Lib.hid ninv7
          have CL1 := Lib.hid (has_clone h7 (by rw [inv7.len]; omega))
          clear h7 inv7 ninv7
          go_wp2_with fail
          refine CL1.out.mono ?_
          rintro e w8 ⟨ba, Fa, rfl, h8⟩
          clear CL1
          have CL2 := Lib.hid (has_clone h8.swap (by rw [INV.out.len]; omega))
          clear h8
          go_wp2_with fail
          refine CL2.out.mono ?_
          rintro e w9 ⟨bn, Fn, rfl, h9⟩
          clear CL2
          -- none, d, all, old
          have BR := Lib.hid (has_barrier h9.swap INV.out.on (by have := INV.out.fuse; omega) (by have := INV.out.steps; omega))
          clear h9
          go_wp2_with fail
          refine BR.out.mono ?_
          rintro e w10 ⟨rfl, F10, h10⟩
          clear BR
          have BT := Lib.hid (has_boot (keep := []) h10 ⟨none, 0, rfl, by simp, fun hne => absurd rfl hne⟩ (by simp [St.settled]))
          clear h10
          go_wp2_with fail
          refine BT.out.mono ?_
          rintro e w11 ⟨rfl, F11, h11⟩
          clear BT
          -- d, none, all, old
          have h12 := (h11.rot).alloc' (.cells #[.int .i64 1] 3)
          have K12 : KeepAt (w11.alloc (.cells #[.int .i64 1] 3)) Fa (.slice (some ⟨w11.heap.size, 0, none⟩) 1 1) [1] := keep_lit (keep := [1]) (dAt_lt h11.rot.dat) (by simp)
          have BT := Lib.hid (has_boot h12 K12 (by rw [INV.out.len]; omega))
          clear h11 h12 K12
          go_wp2_with fail
          refine BT.out.mono ?_
          rintro e w13 ⟨rfl, F13, h13⟩
          clear BT
          -- all, d, none, old
          have h14 := (h13.rot).alloc' (.cells #[.int .i64 0, .int .i64 2, .int .i64 (-4)] 3)
          have K14 : KeepAt (w13.alloc (.cells #[.int .i64 0, .int .i64 2, .int .i64 (-4)] 3)) Fn (.slice (some ⟨w13.heap.size, 0, none⟩) 3 3) [0, 2, -4] := keep_lit (keep := [0, 2, -4]) (dAt_lt h13.rot.dat) (by simp)
          have BT := Lib.hid (has_boot h14 K14 (by rw [INV.out.len]; omega))
          clear h13 h14 K14
          go_wp2_with fail
          refine BT.out.mono ?_
          rintro e w15 ⟨rfl, F15, h15⟩
          clear BT
          -- none, all, d, old
          have vd : ∀ j : Nat, j < 8 → ((S7.stepped.settled.booted []).now j).getD Z = fullA (hf j) := fun j hj => by
            simp only [St.booted, St.settled, List.length_nil, bootF, St.base, Option.none_or, St.stepped]; exact NIN.out.now j hj
          have va : ∀ j : Nat, j < 8 → ((S7.booted [1]).now j).getD Z = fullA (hf j) := fun j hj => NIN.out.all j hj
          have vn : ∀ j : Nat, j < 8 → ((S7.booted [0, 2, -4]).now j).getD Z = fullA (f j) := fun j hj => by
            simp only [St.booted, bootF_even]; exact INV.out.base j hj
          have vo : ∀ j : Nat, j < 8 → (S1.now j).getD Z = fullA (f j) := fun j hj => by
            have := BINV.out.base j hj
            have hs : S1.pend = [] := List.eq_nil_of_length_eq_zero BINV.out.len
            exact NINV.out.now j hj
          have rd : (S7.stepped.settled.booted []).on = true ∧ (S7.stepped.settled.booted []).n = 8 := ⟨rfl, INV.out.n⟩
          have ra : (S7.booted [1]).on = true ∧ (S7.booted [1]).n = 8 := ⟨rfl, INV.out.n⟩
          have rn : (S7.booted [0, 2, -4]).on = true ∧ (S7.booted [0, 2, -4]).n = 8 := ⟨rfl, INV.out.n⟩
          have ro : S1.on = true ∧ S1.n = 8 := ⟨BINV.out.on, BINV.out.n⟩
          generalize S7.stepped.settled.booted [] = Sd at *
          generalize S7.booted [1] = Sa at *
          generalize S7.booted [0, 2, -4] = Sn at *
          have VD := Lib.hid vd
          have VA := Lib.hid va
          have VN := Lib.hid vn
          have VO := Lib.hid vo
          have RD := Lib.hid rd
          have RA := Lib.hid ra
          have RN := Lib.hid rn
          have RO := Lib.hid ro
          have H15 := Lib.hid h15
          clear vd va vn vo rd ra rn ro h15 INV NIN
          go_wp2_with fail
          go_loopw [13] (fun i wr => ∃ j : Nat, j ≤ 8 ∧ i = .int .i64 j ∧ Has w wr [DRes bn F15 Sn, DRes ba F13 Sa, DRes b F11 Sd, DRes bo Fo S1]) (fun i _ => 8 - (intOf i).toNat)
          case atStart => exact ⟨0, by omega, rfl, H15.out⟩
          case round =>
            clear H15
            obtain ⟨j, hj, rfl, h6⟩ := hrel
            by_cases hj8 : j < 8
            · have hdummy := hj8
              have R := has_read h6.rot j (by simp only [St.reach, RD.out.1, RD.out.2]; simp; omega)
              rw [VD.out j hj8] at R
              have RH := Lib.hid R
              have h7' := Lib.hid (h6.alloc' (.cells (fullA (hf j)) 65))
              have g1e := Lib.hid (heap_alloc_last wr (.cells (fullA (hf j)) 65))
              clear R h6
              go_wp2_with fail
              refine RH.out.mono ?_
              rintro e w' ⟨rfl, rfl⟩
              clear RH
              generalize wr.heap.size = g1 at *
              generalize wr.alloc (.cells (fullA (hf j)) 65) = x1 at *
              have h7 := h7'.out
              clear h7'
              have R := has_read h7.swap j (by simp only [St.reach, RA.out.1, RA.out.2]; simp; omega)
              rw [VA.out j hj8] at R
              have RH := Lib.hid R
              have h8' := Lib.hid (h7.alloc' (.cells (fullA (hf j)) 65))
              have g2e := Lib.hid (heap_alloc_last x1 (.cells (fullA (hf j)) 65))
              have g1e' := Lib.hid ((Below.heap_alloc _ (.cells (fullA (hf j)) 65) _ (Array.getElem?_eq_some_iff.1 g1e.out).1).trans g1e.out)
              clear R h7
              go_wp2_with fail
              refine RH.out.mono ?_
              rintro e w' ⟨rfl, rfl⟩
              clear RH
              generalize x1.heap.size = g2 at *
              generalize x1.alloc (.cells (fullA (hf j)) 65) = x2 at *
              clear g1e
              have g1e := g1e'
              clear g1e'
              have h8 := h8'.out
              clear h8'
              have R := has_read h8.rot4 j (by simp only [St.reach, RO.out.1, RO.out.2]; simp; omega)
              rw [VO.out j hj8] at R
              have RH := Lib.hid R
              have h9' := Lib.hid (h8.alloc' (.cells (fullA (f j)) 65))
              have g3e := Lib.hid (heap_alloc_last x2 (.cells (fullA (f j)) 65))
              have g1e' := Lib.hid ((Below.heap_alloc _ (.cells (fullA (f j)) 65) _ (Array.getElem?_eq_some_iff.1 g1e.out).1).trans g1e.out)
              have g2e' := Lib.hid ((Below.heap_alloc _ (.cells (fullA (f j)) 65) _ (Array.getElem?_eq_some_iff.1 g2e.out).1).trans g2e.out)
              clear R h8
              go_wp2_with fail
              refine RH.out.mono ?_
              rintro e w' ⟨rfl, rfl⟩
              clear RH
              generalize x2.heap.size = g3 at *
              generalize x2.alloc (.cells (fullA (f j)) 65) = x3 at *
              clear g1e
              have g1e := g1e'
              clear g1e'
              clear g2e
              have g2e := g2e'
              clear g2e'
              have h9 := h9'.out
              clear h9'
              have R := has_read h9 j (by simp only [St.reach, RN.out.1, RN.out.2]; simp; omega)
              rw [VN.out j hj8] at R
              have RH := Lib.hid R
              have h10' := Lib.hid (h9.alloc' (.cells (fullA (f j)) 65))
              have g4e := Lib.hid (heap_alloc_last x3 (.cells (fullA (f j)) 65))
              have g1e' := Lib.hid ((Below.heap_alloc _ (.cells (fullA (f j)) 65) _ (Array.getElem?_eq_some_iff.1 g1e.out).1).trans g1e.out)
              have g2e' := Lib.hid ((Below.heap_alloc _ (.cells (fullA (f j)) 65) _ (Array.getElem?_eq_some_iff.1 g2e.out).1).trans g2e.out)
              have g3e' := Lib.hid ((Below.heap_alloc _ (.cells (fullA (f j)) 65) _ (Array.getElem?_eq_some_iff.1 g3e.out).1).trans g3e.out)
              clear R h9
              go_wp2_with fail
              refine RH.out.mono ?_
              rintro e w' ⟨rfl, rfl⟩
              clear RH
              generalize x3.heap.size = g4 at *
              generalize x3.alloc (.cells (fullA (f j)) 65) = x4 at *
              clear g1e
              have g1e := g1e'
              clear g1e'
              clear g2e
              have g2e := g2e'
              clear g2e'
              clear g3e
              have g3e := g3e'
              clear g3e'
              have h10 := h10'.out
              clear h10'
              have H10 := Lib.hid h10
              clear h10
              go_wp2_with (first | (refine wpL_str (by kernel_rfl) rfl rfl g1e.out ?_) | (refine wpL_str (by kernel_rfl) rfl rfl g2e.out ?_) | (refine wpL_str (by kernel_rfl) rfl rfl g3e.out ?_) | (refine wpL_str (by kernel_rfl) rfl rfl g4e.out ?_))
              go_roundw
              case rel => exact ⟨j + 1, by omega, by go_num, H10.out⟩
              case measure => simp [intOf]; omega
            · go_wp2
              go_ret
              exact ⟨rfl, h6.only⟩

set_option maxRecDepth 100000 in
set_option maxHeartbeats 8000000 in
theorem boots_any2 (w : World) (a0 : Option Addr) (len0 cap0 : Nat) (z0 : Nat → Int) (a1 : Option Addr) (len1 cap1 : Nat) (z1 : Nat → Int) (hl0 : len0 ≤ 9223372036854775807) (hl1 : len1 ≤ 9223372036854775807)
    (b0 : BytesAt w a0 len0 z0) (b1 : BytesAt w a1 len1 z1) (hc0 : 40 < len0) (hc1 : len1 ≤ 40) :
    Calls Try.prog 8 #[.slice a0 len0 cap0, .slice a1 len1 cap1] w fun e w' => e = .returned (.bool true) ∧ Only [] w w' := by
  have HO0 := Lib.hid b0
  have HO1 := Lib.hid b1
  clear b0 b1
  go_enter Try.func8, Try.ntmps8
  go_wp2_with fail
  refine (shown_any w).mono ?_
  rintro e w1 ⟨rfl, o1⟩
  have h1 : Has w w1 [] := (Has.start w).later o1
  have N8 := Lib.hid (has_new h1 8 (by omega) (by omega))
  clear h1 o1
  go_wp2_with fail
  refine N8.out.mono ?_
  rintro e w2 ⟨b, F, rfl, h2⟩
  clear N8
  have H := Lib.hid h2
  clear h2
  go_wp2_with fail
  go_loopw [8] (fun i wr => ∃ k : Nat, k ≤ len0 ∧ k ≤ 40 ∧ i = .int .i64 k ∧ BootsRel w b k wr) (fun i _ => 40 - (intOf i).toNat)
  case atStart => exact ⟨0, by omega, by omega, rfl, F, _, _, H.out, WInv.start⟩
  case round =>
    clear H
    obtain ⟨k, hk1, hk2, rfl, F, S, f, h, inv⟩ := hrel
    by_cases hlt : k < len0 ∧ k < 40
    · obtain ⟨hlt1, hlt2⟩ := hlt
      obtain ⟨lg, lo, rfl, hlg, cB⟩ := HO0.out.cell k hlt1
      have cB1 : wr.cell? ⟨lg, lo + k, none⟩ = some (.int .u8 (z0 k)) := (World.cell?_of_block (w := w) (h.only.block lg hlg (by simp))).trans cB
      have hm : k % 8 < 8 := Nat.mod_lt _ (by omega)
      have H := Lib.hid h
      have INV := Lib.hid inv
      clear h inv cB
      go_wp2_with fail
      refine (full_any (z0 k) _).mono ?_
      rintro e w' ⟨rfl, rfl⟩
      go_wp2_with fail
      rw [show ((k : Int) % 8) = ((k % 8 : Nat) : Int) by omega]
      refine (has_write H.out ((k % 8 : Nat) : Int) (z0 k) (INV.out.reach _ hm) (by have := INV.out.fuse; omega) (by have := INV.out.steps; omega) (by have := INV.out.pend; omega)).mono ?_
      rintro e w5 ⟨rfl, F5, h5⟩
      have H5 := Lib.hid h5
      have INV5 := Lib.hid (INV.out.write (k % 8) (z0 k))
      clear h5 H INV cB1
      go_wp2
      go_roundw
      case rel => exact ⟨k + 1, by omega, by omega, by go_num, F5, _, _, H5.out, INV5.out⟩
      case measure => simp [intOf]; omega
    · have hx0 : 40 ≤ k := by omega
      clear hlt
      have BR := Lib.hid (has_barrier h inv.on (by have := inv.fuse; omega) (by have := inv.steps; omega))
      have binv := BInv.start inv (by omega) (fun i => 5 * i % 8) z1
      have ninv := NInv.start inv
      generalize S.stepped.settled = S1 at *
      have BINV := Lib.hid binv
      have NINV := Lib.hid ninv
      clear h inv binv ninv
      go_wp2_with fail
      refine BR.out.mono ?_
      rintro e w6 ⟨rfl, F6, h6⟩
      clear BR
      have CL := Lib.hid (has_clone h6 (by rw [BINV.out.len]; omega))
      clear h6
      go_wp2_with fail
      refine CL.out.mono ?_
      rintro e w7 ⟨bo, Fo, rfl, h7⟩
      clear CL
      have H7 := Lib.hid h7.swap
      clear h7
      go_wp2_with fail
      go_loopw [10] (fun i wr => ∃ m : Nat, m ≤ len1 ∧ m ≤ 40 ∧ i = .int .i64 m ∧ BootsRel2 w b bo Fo S1 f z1 m wr) (fun i _ => 40 - (intOf i).toNat)
      case atStart => exact ⟨0, by omega, by omega, rfl, F6, S1, f, H7.out, BINV.out, NINV.out⟩
      case round =>
        clear H7
        obtain ⟨m, hm1, hm2, rfl, F7, S7, hf, h7, inv7, ninv7⟩ := hrel
        by_cases hlt1 : m < len1 ∧ m < 40
        · obtain ⟨hlt2, hlt3⟩ := hlt1
          obtain ⟨lg, lo, rfl, hlg, cB⟩ := HO1.out.cell m hlt2
          have cB1 : wr.cell? ⟨lg, lo + m, none⟩ = some (.int .u8 (z1 m)) := (World.cell?_of_block (w := w) (h7.only.block lg hlg (by simp))).trans cB
          have hq : 5 * m % 8 < 8 := Nat.mod_lt _ (by omega)
          have H := Lib.hid h7
          have INV := Lib.hid inv7
          have NIN := Lib.hid ninv7
          clear h7 inv7 cB ninv7
          go_wp2_with fail
          refine (full_any (z1 m) _).mono ?_
          rintro e w' ⟨rfl, rfl⟩
          go_wp2_with fail
          rw [show ((5 * (m : Int)) % 8) = ((5 * m % 8 : Nat) : Int) by omega]
          refine (has_write H.out ((5 * m % 8 : Nat) : Int) (z1 m) (INV.out.reach _ hq) (by have := INV.out.fuse; omega) (by have := INV.out.steps; omega) (by have := INV.out.len; omega)).mono ?_
          rintro e w8 ⟨rfl, F8, h8⟩
          have H8 := Lib.hid h8
          have INV8 := Lib.hid INV.out.write
          have NIN8 := Lib.hid (NIN.out.write (5 * m % 8) (z1 m))
          clear H INV NIN h8 cB1
          go_wp2
          go_roundw
          case rel => exact ⟨m + 1, by omega, by omega, by go_num, F8, _, _, H8.out, INV8.out, NIN8.out⟩
          case measure => simp [intOf]; omega
        · have hx1 : len1 ≤ m := by omega
          clear hlt1
          have INV := Lib.hid inv7
          have NIN := Lib.hid ninv7
          have CL1 := Lib.hid (has_clone h7 (by rw [inv7.len]; omega))
          clear h7 inv7 ninv7
          go_wp2_with fail
          refine CL1.out.mono ?_
          rintro e w8 ⟨ba, Fa, rfl, h8⟩
          clear CL1
          have CL2 := Lib.hid (has_clone h8.swap (by rw [INV.out.len]; omega))
          clear h8
          go_wp2_with fail
          refine CL2.out.mono ?_
          rintro e w9 ⟨bn, Fn, rfl, h9⟩
          clear CL2
          -- none, d, all, old
          have BR := Lib.hid (has_barrier h9.swap INV.out.on (by have := INV.out.fuse; omega) (by have := INV.out.steps; omega))
          clear h9
          go_wp2_with fail
          refine BR.out.mono ?_
          rintro e w10 ⟨rfl, F10, h10⟩
          clear BR
          have BT := Lib.hid (has_boot (keep := []) h10 ⟨none, 0, rfl, by simp, fun hne => absurd rfl hne⟩ (by simp [St.settled]))
          clear h10
          go_wp2_with fail
          refine BT.out.mono ?_
          rintro e w11 ⟨rfl, F11, h11⟩
          clear BT
          -- d, none, all, old
          have h12 := (h11.rot).alloc' (.cells #[.int .i64 1] 3)
          have K12 : KeepAt (w11.alloc (.cells #[.int .i64 1] 3)) Fa (.slice (some ⟨w11.heap.size, 0, none⟩) 1 1) [1] := keep_lit (keep := [1]) (dAt_lt h11.rot.dat) (by simp)
          have BT := Lib.hid (has_boot h12 K12 (by rw [INV.out.len]; omega))
          clear h11 h12 K12
          go_wp2_with fail
          refine BT.out.mono ?_
          rintro e w13 ⟨rfl, F13, h13⟩
          clear BT
          -- all, d, none, old
          have h14 := (h13.rot).alloc' (.cells #[.int .i64 0, .int .i64 2, .int .i64 (-4)] 3)
          have K14 : KeepAt (w13.alloc (.cells #[.int .i64 0, .int .i64 2, .int .i64 (-4)] 3)) Fn (.slice (some ⟨w13.heap.size, 0, none⟩) 3 3) [0, 2, -4] := keep_lit (keep := [0, 2, -4]) (dAt_lt h13.rot.dat) (by simp)
          have BT := Lib.hid (has_boot h14 K14 (by rw [INV.out.len]; omega))
          clear h13 h14 K14
          go_wp2_with fail
          refine BT.out.mono ?_
          rintro e w15 ⟨rfl, F15, h15⟩
          clear BT
          -- none, all, d, old
          have vd : ∀ j : Nat, j < 8 → ((S7.stepped.settled.booted []).now j).getD Z = fullA (hf j) := fun j hj => by
            simp only [St.booted, St.settled, List.length_nil, bootF, St.base, Option.none_or, St.stepped]; exact NIN.out.now j hj
          have va : ∀ j : Nat, j < 8 → ((S7.booted [1]).now j).getD Z = fullA (hf j) := fun j hj => NIN.out.all j hj
          have vn : ∀ j : Nat, j < 8 → ((S7.booted [0, 2, -4]).now j).getD Z = fullA (f j) := fun j hj => by
            simp only [St.booted, bootF_even]; exact INV.out.base j hj
          have vo : ∀ j : Nat, j < 8 → (S1.now j).getD Z = fullA (f j) := fun j hj => by
            have := BINV.out.base j hj
            have hs : S1.pend = [] := List.eq_nil_of_length_eq_zero BINV.out.len
            exact NINV.out.now j hj
          have rd : (S7.stepped.settled.booted []).on = true ∧ (S7.stepped.settled.booted []).n = 8 := ⟨rfl, INV.out.n⟩
          have ra : (S7.booted [1]).on = true ∧ (S7.booted [1]).n = 8 := ⟨rfl, INV.out.n⟩
          have rn : (S7.booted [0, 2, -4]).on = true ∧ (S7.booted [0, 2, -4]).n = 8 := ⟨rfl, INV.out.n⟩
          have ro : S1.on = true ∧ S1.n = 8 := ⟨BINV.out.on, BINV.out.n⟩
          generalize S7.stepped.settled.booted [] = Sd at *
          generalize S7.booted [1] = Sa at *
          generalize S7.booted [0, 2, -4] = Sn at *
          have VD := Lib.hid vd
          have VA := Lib.hid va
          have VN := Lib.hid vn
          have VO := Lib.hid vo
          have RD := Lib.hid rd
          have RA := Lib.hid ra
          have RN := Lib.hid rn
          have RO := Lib.hid ro
          have H15 := Lib.hid h15
          clear vd va vn vo rd ra rn ro h15 INV NIN
          go_wp2_with fail
          go_loopw [13] (fun i wr => ∃ j : Nat, j ≤ 8 ∧ i = .int .i64 j ∧ Has w wr [DRes bn F15 Sn, DRes ba F13 Sa, DRes b F11 Sd, DRes bo Fo S1]) (fun i _ => 8 - (intOf i).toNat)
          case atStart => exact ⟨0, by omega, rfl, H15.out⟩
          case round =>
            clear H15
            obtain ⟨j, hj, rfl, h6⟩ := hrel
            by_cases hj8 : j < 8
            · have hdummy := hj8
              have R := has_read h6.rot j (by simp only [St.reach, RD.out.1, RD.out.2]; simp; omega)
              rw [VD.out j hj8] at R
              have RH := Lib.hid R
              have h7' := Lib.hid (h6.alloc' (.cells (fullA (hf j)) 65))
              have g1e := Lib.hid (heap_alloc_last wr (.cells (fullA (hf j)) 65))
              clear R h6
              go_wp2_with fail
              refine RH.out.mono ?_
              rintro e w' ⟨rfl, rfl⟩
              clear RH
              generalize wr.heap.size = g1 at *
              generalize wr.alloc (.cells (fullA (hf j)) 65) = x1 at *
              have h7 := h7'.out
              clear h7'
              have R := has_read h7.swap j (by simp only [St.reach, RA.out.1, RA.out.2]; simp; omega)
              rw [VA.out j hj8] at R
              have RH := Lib.hid R
              have h8' := Lib.hid (h7.alloc' (.cells (fullA (hf j)) 65))
              have g2e := Lib.hid (heap_alloc_last x1 (.cells (fullA (hf j)) 65))
              have g1e' := Lib.hid ((Below.heap_alloc _ (.cells (fullA (hf j)) 65) _ (Array.getElem?_eq_some_iff.1 g1e.out).1).trans g1e.out)
              clear R h7
              go_wp2_with fail
              refine RH.out.mono ?_
              rintro e w' ⟨rfl, rfl⟩
              clear RH
              generalize x1.heap.size = g2 at *
              generalize x1.alloc (.cells (fullA (hf j)) 65) = x2 at *
              clear g1e
              have g1e := g1e'
              clear g1e'
              have h8 := h8'.out
              clear h8'
              have R := has_read h8.rot4 j (by simp only [St.reach, RO.out.1, RO.out.2]; simp; omega)
              rw [VO.out j hj8] at R
              have RH := Lib.hid R
              have h9' := Lib.hid (h8.alloc' (.cells (fullA (f j)) 65))
              have g3e := Lib.hid (heap_alloc_last x2 (.cells (fullA (f j)) 65))
              have g1e' := Lib.hid ((Below.heap_alloc _ (.cells (fullA (f j)) 65) _ (Array.getElem?_eq_some_iff.1 g1e.out).1).trans g1e.out)
              have g2e' := Lib.hid ((Below.heap_alloc _ (.cells (fullA (f j)) 65) _ (Array.getElem?_eq_some_iff.1 g2e.out).1).trans g2e.out)
              clear R h8
              go_wp2_with fail
              refine RH.out.mono ?_
              rintro e w' ⟨rfl, rfl⟩
              clear RH
              generalize x2.heap.size = g3 at *
              generalize x2.alloc (.cells (fullA (f j)) 65) = x3 at *
              clear g1e
              have g1e := g1e'
              clear g1e'
              clear g2e
              have g2e := g2e'
              clear g2e'
              have h9 := h9'.out
              clear h9'
              have R := has_read h9 j (by simp only [St.reach, RN.out.1, RN.out.2]; simp; omega)
              rw [VN.out j hj8] at R
              have RH := Lib.hid R
              have h10' := Lib.hid (h9.alloc' (.cells (fullA (f j)) 65))
              have g4e := Lib.hid (heap_alloc_last x3 (.cells (fullA (f j)) 65))
              have g1e' := Lib.hid ((Below.heap_alloc _ (.cells (fullA (f j)) 65) _ (Array.getElem?_eq_some_iff.1 g1e.out).1).trans g1e.out)
              have g2e' := Lib.hid ((Below.heap_alloc _ (.cells (fullA (f j)) 65) _ (Array.getElem?_eq_some_iff.1 g2e.out).1).trans g2e.out)
              have g3e' := Lib.hid ((Below.heap_alloc _ (.cells (fullA (f j)) 65) _ (Array.getElem?_eq_some_iff.1 g3e.out).1).trans g3e.out)
              clear R h9
              go_wp2_with fail
              refine RH.out.mono ?_
              rintro e w' ⟨rfl, rfl⟩
              clear RH
              generalize x3.heap.size = g4 at *
              generalize x3.alloc (.cells (fullA (f j)) 65) = x4 at *
              clear g1e
              have g1e := g1e'
              clear g1e'
              clear g2e
              have g2e := g2e'
              clear g2e'
              clear g3e
              have g3e := g3e'
              clear g3e'
              have h10 := h10'.out
              clear h10'
              have H10 := Lib.hid h10
              clear h10
              go_wp2_with (first | (refine wpL_str (by kernel_rfl) rfl rfl g1e.out ?_) | (refine wpL_str (by kernel_rfl) rfl rfl g2e.out ?_) | (refine wpL_str (by kernel_rfl) rfl rfl g3e.out ?_) | (refine wpL_str (by kernel_rfl) rfl rfl g4e.out ?_))
              go_roundw
              case rel => exact ⟨j + 1, by omega, by go_num, H10.out⟩
              case measure => simp [intOf]; omega
            · go_wp2
              go_ret
              exact ⟨rfl, h6.only⟩

set_option maxRecDepth 100000 in
set_option maxHeartbeats 8000000 in
theorem boots_any3 (w : World) (a0 : Option Addr) (len0 cap0 : Nat) (z0 : Nat → Int) (a1 : Option Addr) (len1 cap1 : Nat) (z1 : Nat → Int) (hl0 : len0 ≤ 9223372036854775807) (hl1 : len1 ≤ 9223372036854775807)
    (b0 : BytesAt w a0 len0 z0) (b1 : BytesAt w a1 len1 z1) (hc0 : 40 < len0) (hc1 : 40 < len1) :
    Calls Try.prog 8 #[.slice a0 len0 cap0, .slice a1 len1 cap1] w fun e w' => e = .returned (.bool true) ∧ Only [] w w' := by
  have HO0 := Lib.hid b0
  have HO1 := Lib.hid b1
  clear b0 b1
  go_enter Try.func8, Try.ntmps8
  go_wp2_with fail
  refine (shown_any w).mono ?_
  rintro e w1 ⟨rfl, o1⟩
  have h1 : Has w w1 [] := (Has.start w).later o1
  have N8 := Lib.hid (has_new h1 8 (by omega) (by omega))
  clear h1 o1
  go_wp2_with fail
  refine N8.out.mono ?_
  rintro e w2 ⟨b, F, rfl, h2⟩
  clear N8
  have H := Lib.hid h2
  clear h2
  go_wp2_with fail
  go_loopw [8] (fun i wr => ∃ k : Nat, k ≤ len0 ∧ k ≤ 40 ∧ i = .int .i64 k ∧ BootsRel w b k wr) (fun i _ => 40 - (intOf i).toNat)
  case atStart => exact ⟨0, by omega, by omega, rfl, F, _, _, H.out, WInv.start⟩
  case round =>
    clear H
    obtain ⟨k, hk1, hk2, rfl, F, S, f, h, inv⟩ := hrel
    by_cases hlt : k < len0 ∧ k < 40
    · obtain ⟨hlt1, hlt2⟩ := hlt
      obtain ⟨lg, lo, rfl, hlg, cB⟩ := HO0.out.cell k hlt1
      have cB1 : wr.cell? ⟨lg, lo + k, none⟩ = some (.int .u8 (z0 k)) := (World.cell?_of_block (w := w) (h.only.block lg hlg (by simp))).trans cB
      have hm : k % 8 < 8 := Nat.mod_lt _ (by omega)
      have H := Lib.hid h
      have INV := Lib.hid inv
      clear h inv cB
      go_wp2_with fail
      refine (full_any (z0 k) _).mono ?_
      rintro e w' ⟨rfl, rfl⟩
      go_wp2_with fail
      rw [show ((k : Int) % 8) = ((k % 8 : Nat) : Int) by omega]
      refine (has_write H.out ((k % 8 : Nat) : Int) (z0 k) (INV.out.reach _ hm) (by have := INV.out.fuse; omega) (by have := INV.out.steps; omega) (by have := INV.out.pend; omega)).mono ?_
      rintro e w5 ⟨rfl, F5, h5⟩
      have H5 := Lib.hid h5
      have INV5 := Lib.hid (INV.out.write (k % 8) (z0 k))
      clear h5 H INV cB1
      go_wp2
      go_roundw
      case rel => exact ⟨k + 1, by omega, by omega, by go_num, F5, _, _, H5.out, INV5.out⟩
      case measure => simp [intOf]; omega
    · have hx0 : 40 ≤ k := by omega
      clear hlt
      have BR := Lib.hid (has_barrier h inv.on (by have := inv.fuse; omega) (by have := inv.steps; omega))
      have binv := BInv.start inv (by omega) (fun i => 5 * i % 8) z1
      have ninv := NInv.start inv
      generalize S.stepped.settled = S1 at *
      have BINV := Lib.hid binv
      have NINV := Lib.hid ninv
      clear h inv binv ninv
      go_wp2_with fail
      refine BR.out.mono ?_
      rintro e w6 ⟨rfl, F6, h6⟩
      clear BR
      have CL := Lib.hid (has_clone h6 (by rw [BINV.out.len]; omega))
      clear h6
      go_wp2_with fail
      refine CL.out.mono ?_
      rintro e w7 ⟨bo, Fo, rfl, h7⟩
      clear CL
      have H7 := Lib.hid h7.swap
      clear h7
      go_wp2_with fail
      go_loopw [10] (fun i wr => ∃ m : Nat, m ≤ len1 ∧ m ≤ 40 ∧ i = .int .i64 m ∧ BootsRel2 w b bo Fo S1 f z1 m wr) (fun i _ => 40 - (intOf i).toNat)
      case atStart => exact ⟨0, by omega, by omega, rfl, F6, S1, f, H7.out, BINV.out, NINV.out⟩
      case round =>
        clear H7
        obtain ⟨m, hm1, hm2, rfl, F7, S7, hf, h7, inv7, ninv7⟩ := hrel
        by_cases hlt1 : m < len1 ∧ m < 40
        · obtain ⟨hlt2, hlt3⟩ := hlt1
          obtain ⟨lg, lo, rfl, hlg, cB⟩ := HO1.out.cell m hlt2
          have cB1 : wr.cell? ⟨lg, lo + m, none⟩ = some (.int .u8 (z1 m)) := (World.cell?_of_block (w := w) (h7.only.block lg hlg (by simp))).trans cB
          have hq : 5 * m % 8 < 8 := Nat.mod_lt _ (by omega)
          have H := Lib.hid h7
          have INV := Lib.hid inv7
          have NIN := Lib.hid ninv7
          clear h7 inv7 cB ninv7
          go_wp2_with fail
          refine (full_any (z1 m) _).mono ?_
          rintro e w' ⟨rfl, rfl⟩
          go_wp2_with fail
          rw [show ((5 * (m : Int)) % 8) = ((5 * m % 8 : Nat) : Int) by omega]
          refine (has_write H.out ((5 * m % 8 : Nat) : Int) (z1 m) (INV.out.reach _ hq) (by have := INV.out.fuse; omega) (by have := INV.out.steps; omega) (by have := INV.out.len; omega)).mono ?_
          rintro e w8 ⟨rfl, F8, h8⟩
          have H8 := Lib.hid h8
          have INV8 := Lib.hid INV.out.write
          have NIN8 := Lib.hid (NIN.out.write (5 * m % 8) (z1 m))
          clear H INV NIN h8 cB1
          go_wp2
          go_roundw
          case rel => exact ⟨m + 1, by omega, by omega, by go_num, F8, _, _, H8.out, INV8.out, NIN8.out⟩
          case measure => simp [intOf]; omega
        · have hx1 : 40 ≤ m := by omega
          clear hlt1
          have INV := Lib.hid inv7
          have NIN := Lib.hid ninv7
          have CL1 := Lib.hid (has_clone h7 (by rw [inv7.len]; omega))
          clear h7 inv7 ninv7
          go_wp2_with fail
          refine CL1.out.mono ?_
          rintro e w8 ⟨ba, Fa, rfl, h8⟩
          clear CL1
          have CL2 := Lib.hid (has_clone h8.swap (by rw [INV.out.len]; omega))
          clear h8
          go_wp2_with fail
          refine CL2.out.mono ?_
          rintro e w9 ⟨bn, Fn, rfl, h9⟩
          clear CL2
          -- none, d, all, old
          have BR := Lib.hid (has_barrier h9.swap INV.out.on (by have := INV.out.fuse; omega) (by have := INV.out.steps; omega))
          clear h9
          go_wp2_with fail
          refine BR.out.mono ?_
          rintro e w10 ⟨rfl, F10, h10⟩
          clear BR
          have BT := Lib.hid (has_boot (keep := []) h10 ⟨none, 0, rfl, by simp, fun hne => absurd rfl hne⟩ (by simp [St.settled]))
          clear h10
          go_wp2_with fail
          refine BT.out.mono ?_
          rintro e w11 ⟨rfl, F11, h11⟩
          clear BT
          -- d, none, all, old
          have h12 := (h11.rot).alloc' (.cells #[.int .i64 1] 3)
          have K12 : KeepAt (w11.alloc (.cells #[.int .i64 1] 3)) Fa (.slice (some ⟨w11.heap.size, 0, none⟩) 1 1) [1] := keep_lit (keep := [1]) (dAt_lt h11.rot.dat) (by simp)
          have BT := Lib.hid (has_boot h12 K12 (by rw [INV.out.len]; omega))
          clear h11 h12 K12
          go_wp2_with fail
          refine BT.out.mono ?_
          rintro e w13 ⟨rfl, F13, h13⟩
          clear BT
          -- all, d, none, old
          have h14 := (h13.rot).alloc' (.cells #[.int .i64 0, .int .i64 2, .int .i64 (-4)] 3)
          have K14 : KeepAt (w13.alloc (.cells #[.int .i64 0, .int .i64 2, .int .i64 (-4)] 3)) Fn (.slice (some ⟨w13.heap.size, 0, none⟩) 3 3) [0, 2, -4] := keep_lit (keep := [0, 2, -4]) (dAt_lt h13.rot.dat) (by simp)
          have BT := Lib.hid (has_boot h14 K14 (by rw [INV.out.len]; omega))
          clear h13 h14 K14
          go_wp2_with fail
          refine BT.out.mono ?_
          rintro e w15 ⟨rfl, F15, h15⟩
          clear BT
          -- none, all, d, old
          have vd : ∀ j : Nat, j < 8 → ((S7.stepped.settled.booted []).now j).getD Z = fullA (hf j) := fun j hj => by
            simp only [St.booted, St.settled, List.length_nil, bootF, St.base, Option.none_or, St.stepped]; exact NIN.out.now j hj
          have va : ∀ j : Nat, j < 8 → ((S7.booted [1]).now j).getD Z = fullA (hf j) := fun j hj => NIN.out.all j hj
          have vn : ∀ j : Nat, j < 8 → ((S7.booted [0, 2, -4]).now j).getD Z = fullA (f j) := fun j hj => by
            simp only [St.booted, bootF_even]; exact INV.out.base j hj
          have vo : ∀ j : Nat, j < 8 → (S1.now j).getD Z = fullA (f j) := fun j hj => by
            have := BINV.out.base j hj
            have hs : S1.pend = [] := List.eq_nil_of_length_eq_zero BINV.out.len
            exact NINV.out.now j hj
          have rd : (S7.stepped.settled.booted []).on = true ∧ (S7.stepped.settled.booted []).n = 8 := ⟨rfl, INV.out.n⟩
          have ra : (S7.booted [1]).on = true ∧ (S7.booted [1]).n = 8 := ⟨rfl, INV.out.n⟩
          have rn : (S7.booted [0, 2, -4]).on = true ∧ (S7.booted [0, 2, -4]).n = 8 := ⟨rfl, INV.out.n⟩
          have ro : S1.on = true ∧ S1.n = 8 := ⟨BINV.out.on, BINV.out.n⟩
          generalize S7.stepped.settled.booted [] = Sd at *
          generalize S7.booted [1] = Sa at *
          generalize S7.booted [0, 2, -4] = Sn at *
          have VD := Lib.hid vd
          have VA := Lib.hid va
          have VN := Lib.hid vn
          have VO := Lib.hid vo
          have RD := Lib.hid rd
          have RA := Lib.hid ra
          have RN := Lib.hid rn
          have RO := Lib.hid ro
          have H15 := Lib.hid h15
          clear vd va vn vo rd ra rn ro h15 INV NIN
          go_wp2_with fail
          go_loopw [13] (fun i wr => ∃ j : Nat, j ≤ 8 ∧ i = .int .i64 j ∧ Has w wr [DRes bn F15 Sn, DRes ba F13 Sa, DRes b F11 Sd, DRes bo Fo S1]) (fun i _ => 8 - (intOf i).toNat)
          case atStart => exact ⟨0, by omega, rfl, H15.out⟩
          case round =>
            clear H15
            obtain ⟨j, hj, rfl, h6⟩ := hrel
            by_cases hj8 : j < 8
            · have hdummy := hj8
              have R := has_read h6.rot j (by simp only [St.reach, RD.out.1, RD.out.2]; simp; omega)
              rw [VD.out j hj8] at R
              have RH := Lib.hid R
              have h7' := Lib.hid (h6.alloc' (.cells (fullA (hf j)) 65))
              have g1e := Lib.hid (heap_alloc_last wr (.cells (fullA (hf j)) 65))
              clear R h6
              go_wp2_with fail
              refine RH.out.mono ?_
              rintro e w' ⟨rfl, rfl⟩
              clear RH
              generalize wr.heap.size = g1 at *
              generalize wr.alloc (.cells (fullA (hf j)) 65) = x1 at *
              have h7 := h7'.out
              clear h7'
              have R := has_read h7.swap j (by simp only [St.reach, RA.out.1, RA.out.2]; simp; omega)
              rw [VA.out j hj8] at R
              have RH := Lib.hid R
              have h8' := Lib.hid (h7.alloc' (.cells (fullA (hf j)) 65))
              have g2e := Lib.hid (heap_alloc_last x1 (.cells (fullA (hf j)) 65))
              have g1e' := Lib.hid ((Below.heap_alloc _ (.cells (fullA (hf j)) 65) _ (Array.getElem?_eq_some_iff.1 g1e.out).1).trans g1e.out)
              clear R h7
              go_wp2_with fail
              refine RH.out.mono ?_
              rintro e w' ⟨rfl, rfl⟩
              clear RH
              generalize x1.heap.size = g2 at *
              generalize x1.alloc (.cells (fullA (hf j)) 65) = x2 at *
              clear g1e
              have g1e := g1e'
              clear g1e'
              have h8 := h8'.out
              clear h8'
              have R := has_read h8.rot4 j (by simp only [St.reach, RO.out.1, RO.out.2]; simp; omega)
              rw [VO.out j hj8] at R
              have RH := Lib.hid R
              have h9' := Lib.hid (h8.alloc' (.cells (fullA (f j)) 65))
              have g3e := Lib.hid (heap_alloc_last x2 (.cells (fullA (f j)) 65))
              have g1e' := Lib.hid ((Below.heap_alloc _ (.cells (fullA (f j)) 65) _ (Array.getElem?_eq_some_iff.1 g1e.out).1).trans g1e.out)
              have g2e' := Lib.hid ((Below.heap_alloc _ (.cells (fullA (f j)) 65) _ (Array.getElem?_eq_some_iff.1 g2e.out).1).trans g2e.out)
              clear R h8
              go_wp2_with fail
              refine RH.out.mono ?_
              rintro e w' ⟨rfl, rfl⟩
              clear RH
              generalize x2.heap.size = g3 at *
              generalize x2.alloc (.cells (fullA (f j)) 65) = x3 at *
              clear g1e
              have g1e := g1e'
              clear g1e'
              clear g2e
              have g2e := g2e'
              clear g2e'
              have h9 := h9'.out
              clear h9'
              have R := has_read h9 j (by simp only [St.reach, RN.out.1, RN.out.2]; simp; omega)
              rw [VN.out j hj8] at R
              have RH := Lib.hid R
              have h10' := Lib.hid (h9.alloc' (.cells (fullA (f j)) 65))
              have g4e := Lib.hid (heap_alloc_last x3 (.cells (fullA (f j)) 65))
              have g1e' := Lib.hid ((Below.heap_alloc _ (.cells (fullA (f j)) 65) _ (Array.getElem?_eq_some_iff.1 g1e.out).1).trans g1e.out)
              have g2e' := Lib.hid ((Below.heap_alloc _ (.cells (fullA (f j)) 65) _ (Array.getElem?_eq_some_iff.1 g2e.out).1).trans g2e.out)
              have g3e' := Lib.hid ((Below.heap_alloc _ (.cells (fullA (f j)) 65) _ (Array.getElem?_eq_some_iff.1 g3e.out).1).trans g3e.out)
              clear R h9
              go_wp2_with fail
              refine RH.out.mono ?_
              rintro e w' ⟨rfl, rfl⟩
              clear RH
              generalize x3.heap.size = g4 at *
              generalize x3.alloc (.cells (fullA (f j)) 65) = x4 at *
              clear g1e
              have g1e := g1e'
              clear g1e'
              clear g2e
              have g2e := g2e'
              clear g2e'
              clear g3e
              have g3e := g3e'
              clear g3e'
              have h10 := h10'.out
              clear h10'
              have H10 := Lib.hid h10
              clear h10
              go_wp2_with (first | (refine wpL_str (by kernel_rfl) rfl rfl g1e.out ?_) | (refine wpL_str (by kernel_rfl) rfl rfl g2e.out ?_) | (refine wpL_str (by kernel_rfl) rfl rfl g3e.out ?_) | (refine wpL_str (by kernel_rfl) rfl rfl g4e.out ?_))
              go_roundw
              case rel => exact ⟨j + 1, by omega, by go_num, H10.out⟩
              case measure => simp [intOf]; omega
            · go_wp2
              go_ret
              exact ⟨rfl, h6.only⟩

end Go.Proofs.Ytabddepidhfelaa
