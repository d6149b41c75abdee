/- The document's examples come out as it says. -/
import Derived.Test.YtoccnaebckcfmaaL1
set_option linter.unusedSimpArgs false
set_option linter.unusedVariables false
set_option maxRecDepth 8000
namespace Go.Proofs.Ytoccnaebckcfmaa
open Go.RowKit
open Go.ChangeMaps (setBlock)

/-- What a cache's answers hang on. -/
structure Sh (C : CaS) (most : Int) (opn : Bool) (miss : Int) (ord pin : List Int) : Prop where
  most : C.most = most
  opn : C.opn = opn
  miss : C.miss = miss
  ord : C.ord = ord
  pin : C.pin = pin
def evO (most : Int) (pin l : List Int) : List Int := if (l.length : Int) - max most (pin.length : Int) ≤ 0 then l else (runD true pin l ((l.length : Int) - max most (pin.length : Int))).1
theorem Sh.evict {C : CaS} {most : Int} {opn : Bool} {miss : Int} {ord pin : List Int} (h : Sh C most opn miss ord pin) : Sh C.evict most opn miss (evO most pin ord) pin := by
  obtain ⟨rfl, rfl, rfl, rfl, rfl⟩ := h
  unfold CaS.evict evO excess
  split
  · exact ⟨rfl, rfl, rfl, rfl, rfl⟩
  · exact ⟨rfl, rfl, rfl, rfl, rfl⟩
theorem Sh.use {C : CaS} {most : Int} {opn : Bool} {miss : Int} {ord pin : List Int} (h : Sh C most opn miss ord pin) (i : Int) (v : Array Value) : Sh (C.use i v) most opn miss (useL ord i) pin := by
  obtain ⟨rfl, rfl, rfl, rfl, rfl⟩ := h
  exact ⟨rfl, rfl, rfl, rfl, rfl⟩
theorem Sh.read {C : CaS} {most : Int} {opn : Bool} {miss : Int} {ord pin : List Int} (h : Sh C most opn miss ord pin) (ok : CaOk C) (S : St) (i : Int) {o' : List Int} {m' : Int} (ho : evO most pin (useL ord i) = o') (hm : (if i ∈ ord then miss else miss + 1) = m') : Sh (C.read S i) most opn m' o' pin := by
  subst ho hm
  unfold CaS.read
  have e : (C.held i).isSome = decide (i ∈ ord) := by
    rw [← h.ord]
    by_cases hi : i ∈ C.ord
    · rw [decide_eq_true hi]; exact (ok.hd i).2 hi
    · rw [decide_eq_false hi]
      cases hq : (C.held i).isSome with
      | false => rfl
      | true => exact absurd ((ok.hd i).1 hq) hi
  rw [e]
  by_cases hi : i ∈ ord
  · rw [if_pos (by simpa using hi), if_pos hi]
    exact (h.use i _).evict
  · rw [if_neg (by simpa using hi), if_neg hi]
    have h' : Sh ({ C with miss := C.miss + 1 } : CaS) most opn (miss + 1) ord pin := ⟨h.most, h.opn, by simp only; rw [h.miss], h.ord, h.pin⟩
    exact (h'.use i _).evict
theorem Sh.write {C : CaS} {most : Int} {opn : Bool} {miss : Int} {ord pin : List Int} (h : Sh C most opn miss ord pin) (i : Int) (v : Array Value) {o' p' : List Int} (ho : useL ord i = o') (hp : pinL pin i = p') : Sh (C.write i v) most opn miss o' p' := by
  subst ho hp
  obtain ⟨rfl, rfl, rfl, rfl, rfl⟩ := h
  exact ⟨rfl, rfl, rfl, rfl, rfl⟩
theorem Sh.committed {C : CaS} {most : Int} {opn : Bool} {miss : Int} {ord pin : List Int} (h : Sh C most opn miss ord pin) {o' : List Int} (ho : evO most [] ord = o') : Sh C.committed most false miss o' [] := by
  subst ho
  have h' : Sh ({ C with opn := false, pin := [] } : CaS) most false miss ord [] := ⟨h.most, rfl, h.miss, h.ord, rfl⟩
  exact h'.evict

theorem Sh.opened {C : CaS} {most : Int} {opn : Bool} {miss : Int} {ord pin : List Int} (h : Sh C most opn miss ord pin) (o : Bool) : Sh { C with opn := o } most o miss ord pin := ⟨h.most, rfl, h.miss, h.ord, h.pin⟩
theorem sorted3 : sorted [60, 61, 62] = [60, 61, 62] := by
  unfold sorted
  first | exact List.mergeSort_of_pairwise (by simp) | exact List.mergeSort_of_sorted (by simp) | simp [List.mergeSort]
theorem puts3 {C : CaS} (h : C.pin = [60, 61, 62]) : putsC C = [(60, (C.held 60).getD Z), (61, (C.held 61).getD Z), (62, (C.held 62).getD Z)] := by rw [putsC, h, sorted3]; rfl
theorem puts_len {C : CaS} (h : C.pin = [60, 61, 62]) : (putsC C).length = 3 := by rw [putsC_len, h]; rfl
theorem group3 {C : CaS} (h : C.pin = [60, 61, 62]) : GroupOk 0 40 100 (rawsOf (putsC C)) := by
  rw [puts3 h]
  refine ⟨by rw [room40]; simp [rawsOf], ?_, by simp [rawsOf]⟩
  intro r hr
  simp [rawsOf] at hr
  rcases hr with rfl | rfl | rfl <;> simp [PutOk]

theorem Has.cat1 {w0 w : World} {cb d wb : Nat} {F : List Nat} {C : CaS} {Rs : List Res} (h : Has w0 w (CRes cb d wb F C :: Rs)) : CAt w cb d wb F C := h.cat (by simp)
theorem Has.cok {w0 w : World} {cb d wb : Nat} {F : List Nat} {C : CaS} {Rs : List Res} (h : Has w0 w (CRes cb d wb F C :: Rs)) : CaOk C := by
  obtain ⟨_, _, _, _, ok, _⟩ := h.cat (cb := cb) (d := d) (wb := wb) (F := F) (C := C) (by simp)
  exact ok
theorem read_in {w0 w : World} {cb d wb : Nat} {F FD : List Nat} {C : CaS} {k : Int} {f : Int → Option (Array Value)} {Rs : List Res} (h : Has w0 w (CRes cb d wb F C :: DRes d FD (quiet 100 k f) :: Rs)) (i : Int) (h0 : 0 ≤ i) (h1 : i < 100) (hm : C.miss < 1000000000) :
    Calls Try.prog 12 #[pp cb, .int .i64 i] w fun e w' => ∃ rb F', e = .returned (.tuple #[.slice (some ⟨rb, 0, none⟩) 64 64, .int .i64 0]) ∧ Has w0 w' (BRes rb (.cells (C.got (quiet 100 k f) i) 69) :: CRes cb d wb F' (C.read (quiet 100 k f) i) :: DRes d FD (quiet 100 k f) :: Rs) := by
  refine (has_cread h i hm (by simp [quiet])).mono ?_
  rintro e w' (⟨_, hp⟩ | ⟨_, hr, _⟩)
  · exact hp
  · exact absurd (by rw [St.reach, if_neg (by simp [quiet]), if_neg (by simp only [quiet]; omega)]) hr

def CWPost (w0 : World) (cb d wb : Nat) (Rs : List Res) (z : Int) (C' : CaS) (e : Ending) (w' : World) : Prop := ∃ F', e = .returned (.int .i64 z) ∧ Has w0 w' (CRes cb d wb F' C' :: Rs)
theorem bytes_of {w : World} {v : Array Value} (hv : SecOk v) : Bytes64 (w.alloc (.cells v 5)) [] (.slice (some ⟨w.heap.size, 0, none⟩) 64 64) v :=
  bytes64_row (t := 5) (heap_alloc_last w _) (by simp) hv
theorem write_in {w0 w : World} {cb d wb : Nat} {F FD : List Nat} {C : CaS} {k : Int} {f : Int → Option (Array Value)} {Rs : List Res} (h : Has w0 w (CRes cb d wb F C :: DRes d FD (quiet 100 k f) :: Rs)) (i c : Int) {z : Int} (hz : wcode C 100 i = z) :
    Calls Try.prog 16 #[pp cb, .int .i64 i, .slice (some ⟨w.heap.size, 0, none⟩) 64 64] (w.alloc (.cells (fullA c) 5)) fun e w' => CWPost w0 cb d wb (DRes d FD (quiet 100 k f) :: Rs) z (if z = 0 then C.write i (fullA c) else C) e w' := by
  subst hz
  exact (has_cwrite (h.alloc' (.cells (fullA c) 5)) (by simp [quiet]) i (bytes_of (fullA_ok c))).mono fun e w' hp => hp

theorem write_in_ok {w0 w : World} {cb d wb : Nat} {F FD : List Nat} {C : CaS} {k : Int} {f : Int → Option (Array Value)} {Rs : List Res} (h : Has w0 w (CRes cb d wb F C :: DRes d FD (quiet 100 k f) :: Rs)) (i c : Int) (hz : wcode C 100 i = 0) :
    Calls Try.prog 16 #[pp cb, .int .i64 i, .slice (some ⟨w.heap.size, 0, none⟩) 64 64] (w.alloc (.cells (fullA c) 5)) fun e w' => CWPost w0 cb d wb (DRes d FD (quiet 100 k f) :: Rs) 0 (C.write i (fullA c)) e w' := by
  have := write_in h i c hz
  rw [if_pos rfl] at this
  exact this
theorem held_same (C : CaS) (i : Int) (v : Array Value) : (C.write i v).held i = some v := by simp [CaS.write, CaS.use, updF]
theorem held_other (C : CaS) {i j : Int} (v : Array Value) (h : j ≠ i) : (C.write i v).held j = C.held j := by simp [CaS.write, CaS.use, updF, h]
theorem read_back {C C' : CaS} {k : Int} {f : Int → Option (Array Value)} {g : Int} (hp : C.pin = [60, 61, 62]) (ht : C.held 60 = some (fullA 1)) (ok : CaOk C') (ho : C'.ord = [61, 62]) : C'.got (quiet 100 k (putLog f 0 40 g (putsC C))) 60 = fullA 1 := by
  have hn : C'.held 60 = none := by
    cases hq : C'.held 60 with
    | none => rfl
    | some v =>
      have := (ok.hd 60).1 (by rw [hq]; rfl)
      rw [ho] at this
      simp at this
  have hm : ((60 : Int), fullA 1) ∈ putsC C := by rw [puts3 hp, ht]; simp
  have := putLog_at (f := f) (g := g) (by omega) (group3 hp) hm
  unfold CaS.got
  rw [hn]
  simp only [Option.getD_none, quiet]
  simp only at this
  rw [this]
  rfl
section
variable {o : Oper} {a : Act} {w : World}
theorem run_eql33 {x y : Operand} {i j : Int} (ho : o.op = .binOp .eql 33 x y 33) (hx : a.eval x = .int .i64 i) (hy : a.eval y = .int .i64 j) : ∀ w, (execOp a.eval o).run Try.prog w = .ok (.value (.bool (i == j))) w := by
  intro w
  unfold execOp
  simp only [ho, hx, hy]
  go_simp
theorem does_full1 {x : Operand} {c : Int} {ts : Array TypeId} (ho : o.op = .call { callee := .value (.func 14), args := #[x], argTypes := ts }) (hx : a.eval x = .int .u8 c) : Does Try.prog o a w (.slice (some ⟨w.heap.size, 0, none⟩) 64 64) (w.alloc (.cells (fullA c) 5)) :=
  .inr (.inr ⟨14, _, run_enter1 Try.call14 ho hx, full1_any c w⟩)
end
theorem fullA_sec (c : Int) : fullA c = sec (List.replicate 64 c) := by kernel_rfl

theorem ints2 {w : World} {a b : Int} : IntsAt (w.alloc (.cells #[.int .i64 a, .int .i64 b] 3)) (.slice (some ⟨w.heap.size, 0, none⟩) 2 2) [a, b] := by
  refine ⟨_, 2, rfl, by simp, fun _ => ⟨w.heap.size, rfl, fun j x hx => ?_⟩⟩
  rw [cell_of_row _ _ _ _ _ _ (heap_alloc_last w _)]
  match j, hx with
  | 0, hx | 1, hx => simp at hx; subst hx; rfl
  | j + 2, hx => simp at hx
theorem ints5 {w : World} {a b c d e : Int} : IntsAt (w.alloc (.cells #[.int .i64 a, .int .i64 b, .int .i64 c, .int .i64 d, .int .i64 e] 3)) (.slice (some ⟨w.heap.size, 0, none⟩) 5 5) [a, b, c, d, e] := by
  refine ⟨_, 5, rfl, by simp, fun _ => ⟨w.heap.size, rfl, fun j x hx => ?_⟩⟩
  rw [cell_of_row _ _ _ _ _ _ (heap_alloc_last w _)]
  match j, hx with
  | 0, hx | 1, hx | 2, hx | 3, hx | 4, hx => simp at hx; subst hx; rfl
  | j + 5, hx => simp at hx

set_option maxHeartbeats 8000000 in
theorem shown3_any (w : World) : Calls Try.prog 8 #[] w fun e w' => e = .returned (.bool true) ∧ Only [] w w' := by
  have G := Lib.hid (ground3_any (Has.start w) (most := 2) (by omega) (by omega))
  go_enter Try.func8, Try.ntmps8
  go_wp2_with fail
  refine G.out.mono ?_
  rintro e w0 ⟨d, FD, wb, cb, F0, rfl, h0⟩
  have s0 : Sh (CaS.new 2) 2 false 0 [] [] := ⟨rfl, rfl, rfl, rfl, rfl⟩
  have H0 := Lib.hid h0
  have ok0 := H0.out.cok
  clear G h0
  unfold pp

  have RD1 := Lib.hid (read_in H0.out 50 (by omega) (by omega) (by rw [s0.miss]; omega))
  clear H0
  go_wp2_with fail
  refine RD1.out.mono ?_
  rintro e w1 ⟨rb1, F1, rfl, h1⟩
  have s1 := s0.read ok0 (quiet 100 2 f00) 50 (o' := [50]) (m' := 1) (by decide) (by decide)
  have H1 := Lib.hid h1.drop
  have ok1 := H1.out.cok
  clear RD1 h1 s0 ok0

  have RD2 := Lib.hid (read_in H1.out 51 (by omega) (by omega) (by rw [s1.miss]; omega))
  clear H1
  go_wp2_with fail
  refine RD2.out.mono ?_
  rintro e w2 ⟨rb2, F2, rfl, h2⟩
  have s2 := s1.read ok1 (quiet 100 2 f00) 51 (o' := [50, 51]) (m' := 2) (by decide) (by decide)
  have H2 := Lib.hid h2.drop
  have ok2 := H2.out.cok
  clear RD2 h2 s1 ok1

  have RD3 := Lib.hid (read_in H2.out 50 (by omega) (by omega) (by rw [s2.miss]; omega))
  clear H2
  go_wp2_with fail
  refine RD3.out.mono ?_
  rintro e w3 ⟨rb3, F3, rfl, h3⟩
  have s3 := s2.read ok2 (quiet 100 2 f00) 50 (o' := [51, 50]) (m' := 2) (by decide) (by decide)
  have H3 := Lib.hid h3.drop
  have ok3 := H3.out.cok
  clear RD3 h3 s2 ok2

  have RD4 := Lib.hid (read_in H3.out 52 (by omega) (by omega) (by rw [s3.miss]; omega))
  clear H3
  go_wp2_with fail
  refine RD4.out.mono ?_
  rintro e w4 ⟨rb4, F4, rfl, h4⟩
  have s4 := s3.read ok3 (quiet 100 2 f00) 52 (o' := [50, 52]) (m' := 3) (by decide) (by decide)
  have H4 := Lib.hid h4.drop
  have ok4 := H4.out.cok
  clear RD4 h4 s3 ok3

  have HE5 := Lib.hid (held_any H4.out.cat1)
  go_wp2_with fail
  refine HE5.out.mono ?_
  rintro e w5 ⟨v5, rfl, hr5, o5⟩
  rw [s4.ord] at hr5
  have i5 := IntsAt.of hr5 (by simp)
  obtain ⟨va5, vc5, rfl, -, -⟩ := i5
  have IN5 := Lib.hid (ints_any (IntsAt.only (IntsAt.of hr5 (by simp)) ((Only.refl [] w5).alloc (.cells #[.int .i64 50, .int .i64 52] 3))) ints2)
  have H5 := Lib.hid ((H4.out.later o5).alloc' (.cells #[.int .i64 50, .int .i64 52] 3))
  clear HE5 hr5 o5 H4
  go_wp2_with fail
  refine IN5.out.mono ?_
  rintro e w6 ⟨r5, rfl, hq5, o6⟩
  obtain rfl : r5 = true := hq5.2 rfl
  have H6 := Lib.hid (H5.out.later o6)
  clear IN5 hq5 o6 H5

  have MS0 := misses_any H6.out.cat1
  rw [s4.miss] at MS0
  have MS := Lib.hid MS0
  clear MS0

  have WR7 := Lib.hid (write_in H6.out 60 1 (z := 30) (by rw [wcode, if_pos s4.opn]))
  clear H6
  go_wp2_with (first | (go_at_call 27; refine MS.out.mono ?_; rintro e w' ⟨rfl, rfl⟩) | (go_at_call 14; refine (full1_any _ _).mono ?_; rintro e w' ⟨rfl, rfl⟩))
  refine WR7.out.mono ?_
  rintro e w7 ⟨F7, rfl, h7⟩
  have H7 := Lib.hid h7
  clear WR7 h7

  rw [if_neg (by omega)] at H7
  have BG0 := has_cbegin H7.out
  rw [s4.opn] at BG0
  have BG := Lib.hid BG0
  clear BG0 MS H7
  go_wp2_with fail
  refine BG.out.mono ?_
  rintro e w8 ⟨F8, rfl, h8⟩
  have s8 := s4.opened true
  have BH0 := has_cbegin h8
  rw [s8.opn] at BH0
  have BH := Lib.hid BH0
  clear BH0 BG h8 s4
  go_wp2_with fail
  refine BH.out.mono ?_
  rintro e w9 ⟨F9, rfl, h9⟩
  have s9 := s8.opened true
  have H9 := Lib.hid h9
  clear BH h9 s8

  have WR10 := Lib.hid (write_in_ok H9.out 60 1 (by rw [wcode, if_neg (by rw [s9.opn]; simp), if_neg (by omega)]))
  clear H9
  go_wp2_with (go_at_call 14; refine (full1_any _ _).mono ?_; rintro e w' ⟨rfl, rfl⟩)
  refine WR10.out.mono ?_
  rintro e w10 ⟨F10, rfl, h10⟩
  have H10 := Lib.hid h10
  clear WR10 h10
  have s10 := s9.write 60 (fullA 1) (o' := [50, 52, 60]) (p' := [60]) (by decide) (by decide)

  have WR11 := Lib.hid (write_in_ok H10.out 61 1 (by rw [wcode, if_neg (by rw [s10.opn]; simp), if_neg (by omega)]))
  clear H10
  go_wp2_with (go_at_call 14; refine (full1_any _ _).mono ?_; rintro e w' ⟨rfl, rfl⟩)
  refine WR11.out.mono ?_
  rintro e w11 ⟨F11, rfl, h11⟩
  have H11 := Lib.hid h11
  clear WR11 h11
  have s11 := s10.write 61 (fullA 1) (o' := [50, 52, 60, 61]) (p' := [60, 61]) (by decide) (by decide)

  have WR12 := Lib.hid (write_in_ok H11.out 62 1 (by rw [wcode, if_neg (by rw [s11.opn]; simp), if_neg (by omega)]))
  clear H11
  go_wp2_with (go_at_call 14; refine (full1_any _ _).mono ?_; rintro e w' ⟨rfl, rfl⟩)
  refine WR12.out.mono ?_
  rintro e w12 ⟨F12, rfl, h12⟩
  have H12 := Lib.hid h12
  clear WR12 h12
  have s12 := s11.write 62 (fullA 1) (o' := [50, 52, 60, 61, 62]) (p' := [60, 61, 62]) (by decide) (by decide)

  have HE13 := Lib.hid (held_any H12.out.cat1)
  go_wp2_with fail
  refine HE13.out.mono ?_
  rintro e w13 ⟨v13, rfl, hr13, o13⟩
  rw [s12.ord] at hr13
  have i13 := IntsAt.of hr13 (by simp)
  obtain ⟨va13, vc13, rfl, -, -⟩ := i13
  have IN13 := Lib.hid (ints_any (IntsAt.only (IntsAt.of hr13 (by simp)) ((Only.refl [] w13).alloc (.cells #[.int .i64 50, .int .i64 52, .int .i64 60, .int .i64 61, .int .i64 62] 3))) ints5)
  have H13 := Lib.hid ((H12.out.later o13).alloc' (.cells #[.int .i64 50, .int .i64 52, .int .i64 60, .int .i64 61, .int .i64 62] 3))
  clear HE13 hr13 o13 H12
  go_wp2_with fail
  refine IN13.out.mono ?_
  rintro e w14 ⟨r13, rfl, hq13, o14⟩
  obtain rfl : r13 = true := hq13.2 rfl
  have H14 := Lib.hid (H13.out.later o14)
  clear IN13 hq13 o14 H13

  have PI0 := pinned_any H14.out.cat1
  rw [s12.pin] at PI0
  have PI := Lib.hid PI0
  have gok := group3 s12.pin
  have CO := Lib.hid (has_ccommit H14.out (by omega) (by omega) (by omega) (by omega) (by omega) (by omega) (by omega))
  have ok12 := H14.out.cok
  clear PI0 H14
  go_wp2_with (go_at_call 25; refine PI.out.mono ?_; rintro e w' ⟨rfl, rfl⟩)
  refine CO.out.mono ?_
  intro e w15 hpost
  rcases Or.symm hpost with ⟨hno, _⟩ | ⟨_, _, k15, FD15, F15, hk1, hk2, rfl, h15⟩
  · exact absurd ⟨s12.opn, gok⟩ hno
  have s15 := s12.committed (o' := [61, 62]) (by decide)
  have H15 := Lib.hid h15
  have ok15 := H15.out.cok
  rw [puts_len s12.pin] at hk2
  clear CO PI h15

  have HE16 := Lib.hid (held_any H15.out.cat1)
  go_wp2_with fail
  refine HE16.out.mono ?_
  rintro e w16 ⟨v16, rfl, hr16, o16⟩
  rw [s15.ord] at hr16
  have i16 := IntsAt.of hr16 (by simp)
  obtain ⟨va16, vc16, rfl, -, -⟩ := i16
  have IN16 := Lib.hid (ints_any (IntsAt.only (IntsAt.of hr16 (by simp)) ((Only.refl [] w16).alloc (.cells #[.int .i64 61, .int .i64 62] 3))) ints2)
  have H16 := Lib.hid ((H15.out.later o16).alloc' (.cells #[.int .i64 61, .int .i64 62] 3))
  clear HE16 hr16 o16 H15
  go_wp2_with fail
  refine IN16.out.mono ?_
  rintro e w17 ⟨r16, rfl, hq16, o17⟩
  obtain rfl : r16 = true := hq16.2 rfl
  have H17 := Lib.hid (H16.out.later o17)
  clear IN16 hq16 o17 H16

  have RB := read_back (k := k15) (f := f00) (g := 0) s12.pin ((held_other _ (fullA 1) (by omega : (60 : Int) ≠ 62)).trans ((held_other _ (fullA 1) (by omega : (60 : Int) ≠ 61)).trans (held_same _ 60 (fullA 1)))) ok15 s15.ord
  have RD := Lib.hid (read_in H17.out 60 (by omega) (by omega) (by rw [s15.miss]; omega))
  clear H17
  go_wp2_with fail
  refine RD.out.mono ?_
  rintro e w20 ⟨rb, F20, rfl, h20⟩
  have hyb0 : w20.heap[rb]? = some (.cells _ 69 (0, 0)) := h20.blk (o := .cells _ 69) (List.mem_cons_self ..)
  rw [RB, fullA_sec] at hyb0
  have hyb : w20.drew.heap[rb]? = some (.cells (sec (List.replicate 64 1)) 69 (0, 0)) := hyb0
  have O := Lib.hid h20.only.drew
  clear RD h20 hyb0 RB s12 s15 ok15 gok ok12
  go_wp2_with fail
  refine wp_region_flowR Lat [0, 0, 0, 0, 0, 0, 0, 0, 0, 0, 0, 0, 0, 0, 0, 0, 0, 0, 0, 0, 0, 0, 0, 0, 0, 0, 0, 0, 0, 0, 0, 0, 0, 0, 0, 0, 0, 1, 2, 1, 0, 0, 0] (by kernel_rfl) (by kernel_rfl) Lat.refl Lat.trans ?_
  generalize w20.drew = w9 at *
  refine fr0 (u := .bool true) rfl (fun _ => rfl) ?_
  simp only [Act.put, List.setIfInBounds_toArray, List.set_cons_succ, List.set_cons_zero]
  refine fr0 (u := .bool true) rfl (fun _ => rfl) ?_
  simp only [Act.put, List.setIfInBounds_toArray, List.set_cons_succ, List.set_cons_zero]
  refine fr0 (u := .int .i64 3) (by kernel_rfl) (fun _ => rfl) ?_
  simp only [Act.put, List.setIfInBounds_toArray, List.set_cons_succ, List.set_cons_zero]
  refine fr0 (u := .bool true) (by kernel_rfl) (fun w => (run_eql3 rfl rfl rfl w).trans rfl) ?_
  simp only [Act.put, List.setIfInBounds_toArray, List.set_cons_succ, List.set_cons_zero]
  refine fr0 (u := .bool true) rfl (fun _ => rfl) ?_
  simp only [Act.put, List.setIfInBounds_toArray, List.set_cons_succ, List.set_cons_zero]
  refine fr0 (u := .bool true) rfl (fun _ => rfl) ?_
  simp only [Act.put, List.setIfInBounds_toArray, List.set_cons_succ, List.set_cons_zero]
  refine fr0 (u := .int .i64 30) (by kernel_rfl) (fun _ => rfl) ?_
  simp only [Act.put, List.setIfInBounds_toArray, List.set_cons_succ, List.set_cons_zero]
  refine fr0 (u := .bool true) (by kernel_rfl) (fun w => (run_eql33 rfl rfl rfl w).trans rfl) ?_
  simp only [Act.put, List.setIfInBounds_toArray, List.set_cons_succ, List.set_cons_zero]
  refine fr0 (u := .bool true) rfl (fun _ => rfl) ?_
  simp only [Act.put, List.setIfInBounds_toArray, List.set_cons_succ, List.set_cons_zero]
  refine fr0 (u := .bool true) rfl (fun _ => rfl) ?_
  simp only [Act.put, List.setIfInBounds_toArray, List.set_cons_succ, List.set_cons_zero]
  refine fr0 (u := .int .i64 30) (by kernel_rfl) (fun _ => rfl) ?_
  simp only [Act.put, List.setIfInBounds_toArray, List.set_cons_succ, List.set_cons_zero]
  refine fr0 (u := .bool true) (by kernel_rfl) (fun w => (run_eql33 rfl rfl rfl w).trans rfl) ?_
  simp only [Act.put, List.setIfInBounds_toArray, List.set_cons_succ, List.set_cons_zero]
  refine fr0 (u := .bool true) rfl (fun _ => rfl) ?_
  simp only [Act.put, List.setIfInBounds_toArray, List.set_cons_succ, List.set_cons_zero]
  refine fr0 (u := .bool true) rfl (fun _ => rfl) ?_
  simp only [Act.put, List.setIfInBounds_toArray, List.set_cons_succ, List.set_cons_zero]
  refine fr0 (u := .int .i64 0) (by kernel_rfl) (fun _ => rfl) ?_
  simp only [Act.put, List.setIfInBounds_toArray, List.set_cons_succ, List.set_cons_zero]
  refine fr0 (u := .bool true) (by kernel_rfl) (fun w => (run_eql33 rfl rfl rfl w).trans rfl) ?_
  simp only [Act.put, List.setIfInBounds_toArray, List.set_cons_succ, List.set_cons_zero]
  refine fr0 (u := .bool true) rfl (fun _ => rfl) ?_
  simp only [Act.put, List.setIfInBounds_toArray, List.set_cons_succ, List.set_cons_zero]
  refine fr0 (u := .bool true) rfl (fun _ => rfl) ?_
  simp only [Act.put, List.setIfInBounds_toArray, List.set_cons_succ, List.set_cons_zero]
  refine fr0 (u := .bool true) (by kernel_rfl) (fun _ => rfl) ?_
  simp only [Act.put, List.setIfInBounds_toArray, List.set_cons_succ, List.set_cons_zero]
  refine fr0 (u := .bool true) rfl (fun _ => rfl) ?_
  simp only [Act.put, List.setIfInBounds_toArray, List.set_cons_succ, List.set_cons_zero]
  refine fr0 (u := .bool true) rfl (fun _ => rfl) ?_
  simp only [Act.put, List.setIfInBounds_toArray, List.set_cons_succ, List.set_cons_zero]
  refine fr0 (u := .int .i64 3) (by kernel_rfl) (fun _ => rfl) ?_
  simp only [Act.put, List.setIfInBounds_toArray, List.set_cons_succ, List.set_cons_zero]
  refine fr0 (u := .bool true) (by kernel_rfl) (fun w => (run_eql3 rfl rfl rfl w).trans rfl) ?_
  simp only [Act.put, List.setIfInBounds_toArray, List.set_cons_succ, List.set_cons_zero]
  refine fr0 (u := .bool true) rfl (fun _ => rfl) ?_
  simp only [Act.put, List.setIfInBounds_toArray, List.set_cons_succ, List.set_cons_zero]
  refine fr0 (u := .bool true) rfl (fun _ => rfl) ?_
  simp only [Act.put, List.setIfInBounds_toArray, List.set_cons_succ, List.set_cons_zero]
  refine fr0 (u := .int .i64 0) (by kernel_rfl) (fun _ => rfl) ?_
  simp only [Act.put, List.setIfInBounds_toArray, List.set_cons_succ, List.set_cons_zero]
  refine fr0 (u := .bool true) (by kernel_rfl) (fun w => (run_eql33 rfl rfl rfl w).trans rfl) ?_
  simp only [Act.put, List.setIfInBounds_toArray, List.set_cons_succ, List.set_cons_zero]
  refine fr0 (u := .bool true) rfl (fun _ => rfl) ?_
  simp only [Act.put, List.setIfInBounds_toArray, List.set_cons_succ, List.set_cons_zero]
  refine fr0 (u := .bool true) rfl (fun _ => rfl) ?_
  simp only [Act.put, List.setIfInBounds_toArray, List.set_cons_succ, List.set_cons_zero]
  refine fr0 (u := .bool true) (by kernel_rfl) (fun _ => rfl) ?_
  simp only [Act.put, List.setIfInBounds_toArray, List.set_cons_succ, List.set_cons_zero]
  refine fr0 (u := .bool true) rfl (fun _ => rfl) ?_
  simp only [Act.put, List.setIfInBounds_toArray, List.set_cons_succ, List.set_cons_zero]
  refine fr0 (u := .bool true) rfl (fun _ => rfl) ?_
  simp only [Act.put, List.setIfInBounds_toArray, List.set_cons_succ, List.set_cons_zero]
  refine fr0 (u := .int .i64 0) (by kernel_rfl) (fun _ => rfl) ?_
  simp only [Act.put, List.setIfInBounds_toArray, List.set_cons_succ, List.set_cons_zero]
  refine fr0 (u := .bool true) (by kernel_rfl) (fun w => (run_eql33 rfl rfl rfl w).trans rfl) ?_
  simp only [Act.put, List.setIfInBounds_toArray, List.set_cons_succ, List.set_cons_zero]
  refine fr0 (u := .bool true) rfl (fun _ => rfl) ?_
  simp only [Act.put, List.setIfInBounds_toArray, List.set_cons_succ, List.set_cons_zero]
  refine fr0 (u := .bool true) rfl (fun _ => rfl) ?_
  simp only [Act.put, List.setIfInBounds_toArray, List.set_cons_succ, List.set_cons_zero]
  refine fr0 (u := .slice (some ⟨rb, 0, none⟩) 64 64) (by kernel_rfl) (fun _ => rfl) ?_
  simp only [Act.put, List.setIfInBounds_toArray, List.set_cons_succ, List.set_cons_zero]
  refine fr1 (u := .string (strOf (List.replicate 64 1))) (by kernel_rfl) (fun x hx => run_str (by simp) rfl rfl (hx.at hyb)) ?_
  simp only [Act.put, List.setIfInBounds_toArray, List.set_cons_succ, List.set_cons_zero]
  refine fr2 (u := .slice (some ⟨w9.heap.size, 0, none⟩) 64 64) (w' := w9.alloc (.cells (fullA 1) 5)) (by kernel_rfl) (Lat.alloc _ _) (does_full1 rfl rfl) ?_
  have hzz := heap_alloc_last w9 (.cells (fullA 1) 5)
  rw [fullA_sec] at hzz ⊢
  simp only [Act.put, List.setIfInBounds_toArray, List.set_cons_succ, List.set_cons_zero]
  refine fr1 (u := .string (strOf (List.replicate 64 1))) (by kernel_rfl) (fun x hx => run_str (by simp) rfl rfl (hx.at hzz)) ?_
  simp only [Act.put, List.setIfInBounds_toArray, List.set_cons_succ, List.set_cons_zero]
  refine fr0 (u := .bool true) (by kernel_rfl) (fun w => (run_eqlS rfl rfl rfl w).trans (by simp)) ?_
  simp only [Act.put, List.setIfInBounds_toArray, List.set_cons_succ, List.set_cons_zero]
  refine fr0 (u := .bool true) rfl (fun _ => rfl) ?_
  simp only [Act.put, List.setIfInBounds_toArray, List.set_cons_succ, List.set_cons_zero]
  refine fr0 (u := .bool true) rfl (fun _ => rfl) ?_
  simp only [Act.put, List.setIfInBounds_toArray, List.set_cons_succ, List.set_cons_zero]
  refine frnil ?_
  show Exit.then _ _ _ _ _
  have O2 := Lib.hid (O.out.alloc (.cells (sec (List.replicate 64 1)) 5))
  clear hyb hzz O
  go_wp2
  go_ret
  exact ⟨rfl, O2.out⟩
end Go.Proofs.Ytoccnaebckcfmaa
