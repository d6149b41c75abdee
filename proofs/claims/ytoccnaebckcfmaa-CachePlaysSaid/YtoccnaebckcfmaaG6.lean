/- The document's examples come out as it says. CacheReads, walked. The calls of layer 3's laws that came in. -/
import Derived.Test.YtoccnaebckcfmaaG5
import Derived.Test.YtoccnaebckcfmaaRows
import Derived.ProofKit
import Derived.OpenShut
import Derived.ShutString
import Derived.ChangeOld
import Derived.Deep.Slices
section
set_option linter.unusedSimpArgs false
set_option linter.unusedVariables false
set_option maxRecDepth 8000
namespace Go.Proofs.Ytoccnaebckcfmaa
open Go.RowKit
open Go.ChangeMaps (setBlock)

/-- What a cache's answers hang on. -/
structure Sh (C : CaS) (most : Int) (opn : Bool) (miss : Int) (ord pin : List Int) : Prop where
  most : C.most = most
  opn : C.opn = opn
  miss : C.miss = miss
  ord : C.ord = ord
  pin : C.pin = pin
def evO (most : Int) (pin l : List Int) : List Int := if (l.length : Int) - max most (pin.length : Int) ≤ 0 then l else (runD true pin l ((l.length : Int) - max most (pin.length : Int))).1
theorem Sh.evict {C : CaS} {most : Int} {opn : Bool} {miss : Int} {ord pin : List Int} (h : Sh C most opn miss ord pin) : Sh C.evict most opn miss (evO most pin ord) pin := by
  obtain ⟨rfl, rfl, rfl, rfl, rfl⟩ := h
  unfold CaS.evict evO excess
  split
  · exact ⟨rfl, rfl, rfl, rfl, rfl⟩
  · exact ⟨rfl, rfl, rfl, rfl, rfl⟩
theorem Sh.use {C : CaS} {most : Int} {opn : Bool} {miss : Int} {ord pin : List Int} (h : Sh C most opn miss ord pin) (i : Int) (v : Array Value) : Sh (C.use i v) most opn miss (useL ord i) pin := by
  obtain ⟨rfl, rfl, rfl, rfl, rfl⟩ := h
  exact ⟨rfl, rfl, rfl, rfl, rfl⟩
theorem Sh.read {C : CaS} {most : Int} {opn : Bool} {miss : Int} {ord pin : List Int} (h : Sh C most opn miss ord pin) (ok : CaOk C) (S : St) (i : Int) {o' : List Int} {m' : Int} (ho : evO most pin (useL ord i) = o') (hm : (if i ∈ ord then miss else miss + 1) = m') : Sh (C.read S i) most opn m' o' pin := by
  subst ho hm
  unfold CaS.read
  have e : (C.held i).isSome = decide (i ∈ ord) := by
    rw [← h.ord]
    by_cases hi : i ∈ C.ord
    · rw [decide_eq_true hi]; exact (ok.hd i).2 hi
    · rw [decide_eq_false hi]
      cases hq : (C.held i).isSome with
      | false => rfl
      | true => exact absurd ((ok.hd i).1 hq) hi
  rw [e]
  by_cases hi : i ∈ ord
  · rw [if_pos (by simpa using hi), if_pos hi]
    exact (h.use i _).evict
  · rw [if_neg (by simpa using hi), if_neg hi]
    have h' : Sh ({ C with miss := C.miss + 1 } : CaS) most opn (miss + 1) ord pin := ⟨h.most, h.opn, by simp only; rw [h.miss], h.ord, h.pin⟩
    exact (h'.use i _).evict
theorem Sh.write {C : CaS} {most : Int} {opn : Bool} {miss : Int} {ord pin : List Int} (h : Sh C most opn miss ord pin) (i : Int) (v : Array Value) {o' p' : List Int} (ho : useL ord i = o') (hp : pinL pin i = p') : Sh (C.write i v) most opn miss o' p' := by
  subst ho hp
  obtain ⟨rfl, rfl, rfl, rfl, rfl⟩ := h
  exact ⟨rfl, rfl, rfl, rfl, rfl⟩
theorem Sh.committed {C : CaS} {most : Int} {opn : Bool} {miss : Int} {ord pin : List Int} (h : Sh C most opn miss ord pin) {o' : List Int} (ho : evO most [] ord = o') : Sh C.committed most false miss o' [] := by
  subst ho
  have h' : Sh ({ C with opn := false, pin := [] } : CaS) most false miss ord [] := ⟨h.most, rfl, h.miss, h.ord, rfl⟩
  exact h'.evict

theorem Sh.opened {C : CaS} {most : Int} {opn : Bool} {miss : Int} {ord pin : List Int} (h : Sh C most opn miss ord pin) (o : Bool) : Sh { C with opn := o } most o miss ord pin := ⟨h.most, rfl, h.miss, h.ord, h.pin⟩
theorem sorted3 : sorted [60, 61, 62] = [60, 61, 62] := by
  unfold sorted
  first | exact List.mergeSort_of_pairwise (by simp) | exact List.mergeSort_of_sorted (by simp) | simp [List.mergeSort]
theorem puts3 {C : CaS} (h : C.pin = [60, 61, 62]) : putsC C = [(60, (C.held 60).getD Z), (61, (C.held 61).getD Z), (62, (C.held 62).getD Z)] := by rw [putsC, h, sorted3]; rfl
theorem puts_len {C : CaS} (h : C.pin = [60, 61, 62]) : (putsC C).length = 3 := by rw [putsC_len, h]; rfl
theorem group3 {C : CaS} (h : C.pin = [60, 61, 62]) : GroupOk 0 40 100 (rawsOf (putsC C)) := by
  rw [puts3 h]
  refine ⟨by rw [room40]; simp [rawsOf], ?_, by simp [rawsOf]⟩
  intro r hr
  simp [rawsOf] at hr
  rcases hr with rfl | rfl | rfl <;> simp [PutOk]

theorem Has.cat1 {w0 w : World} {cb d wb : Nat} {F : List Nat} {C : CaS} {Rs : List Res} (h : Has w0 w (CRes cb d wb F C :: Rs)) : CAt w cb d wb F C := h.cat (by simp)
theorem Has.cok {w0 w : World} {cb d wb : Nat} {F : List Nat} {C : CaS} {Rs : List Res} (h : Has w0 w (CRes cb d wb F C :: Rs)) : CaOk C := by
  obtain ⟨_, _, _, _, ok, _⟩ := h.cat (cb := cb) (d := d) (wb := wb) (F := F) (C := C) (by simp)
  exact ok
theorem read_in {w0 w : World} {cb d wb : Nat} {F FD : List Nat} {C : CaS} {k : Int} {f : Int → Option (Array Value)} {Rs : List Res} (h : Has w0 w (CRes cb d wb F C :: DRes d FD (quiet 100 k f) :: Rs)) (i : Int) (h0 : 0 ≤ i) (h1 : i < 100) (hm : C.miss < 1000000000) :
    Calls Try.prog 12 #[pp cb, .int .i64 i] w fun e w' => ∃ rb F', e = .returned (.tuple #[.slice (some ⟨rb, 0, none⟩) 64 64, .int .i64 0]) ∧ Has w0 w' (BRes rb (.cells (C.got (quiet 100 k f) i) 69) :: CRes cb d wb F' (C.read (quiet 100 k f) i) :: DRes d FD (quiet 100 k f) :: Rs) := by
  refine (has_cread h i hm (by simp [quiet])).mono ?_
  rintro e w' (⟨_, hp⟩ | ⟨_, hr, _⟩)
  · exact hp
  · exact absurd (by rw [St.reach, if_neg (by simp [quiet]), if_neg (by simp only [quiet]; omega)]) hr

def CWPost (w0 : World) (cb d wb : Nat) (Rs : List Res) (z : Int) (C' : CaS) (e : Ending) (w' : World) : Prop := ∃ F', e = .returned (.int .i64 z) ∧ Has w0 w' (CRes cb d wb F' C' :: Rs)
theorem bytes_of {w : World} {v : Array Value} (hv : SecOk v) : Bytes64 (w.alloc (.cells v 5)) [] (.slice (some ⟨w.heap.size, 0, none⟩) 64 64) v :=
  bytes64_row (t := 5) (heap_alloc_last w _) (by simp) hv
theorem write_in {w0 w : World} {cb d wb : Nat} {F FD : List Nat} {C : CaS} {k : Int} {f : Int → Option (Array Value)} {Rs : List Res} (h : Has w0 w (CRes cb d wb F C :: DRes d FD (quiet 100 k f) :: Rs)) (i c : Int) {z : Int} (hz : wcode C 100 i = z) :
    Calls Try.prog 16 #[pp cb, .int .i64 i, .slice (some ⟨w.heap.size, 0, none⟩) 64 64] (w.alloc (.cells (fullA c) 5)) fun e w' => CWPost w0 cb d wb (DRes d FD (quiet 100 k f) :: Rs) z (if z = 0 then C.write i (fullA c) else C) e w' := by
  subst hz
  exact (has_cwrite (h.alloc' (.cells (fullA c) 5)) (by simp [quiet]) i (bytes_of (fullA_ok c))).mono fun e w' hp => hp

theorem write_in_ok {w0 w : World} {cb d wb : Nat} {F FD : List Nat} {C : CaS} {k : Int} {f : Int → Option (Array Value)} {Rs : List Res} (h : Has w0 w (CRes cb d wb F C :: DRes d FD (quiet 100 k f) :: Rs)) (i c : Int) (hz : wcode C 100 i = 0) :
    Calls Try.prog 16 #[pp cb, .int .i64 i, .slice (some ⟨w.heap.size, 0, none⟩) 64 64] (w.alloc (.cells (fullA c) 5)) fun e w' => CWPost w0 cb d wb (DRes d FD (quiet 100 k f) :: Rs) 0 (C.write i (fullA c)) e w' := by
  have := write_in h i c hz
  rw [if_pos rfl] at this
  exact this
theorem held_same (C : CaS) (i : Int) (v : Array Value) : (C.write i v).held i = some v := by simp [CaS.write, CaS.use, updF]
theorem held_other (C : CaS) {i j : Int} (v : Array Value) (h : j ≠ i) : (C.write i v).held j = C.held j := by simp [CaS.write, CaS.use, updF, h]
theorem read_back {C C' : CaS} {k : Int} {f : Int → Option (Array Value)} {g : Int} (hp : C.pin = [60, 61, 62]) (ht : C.held 60 = some (fullA 1)) (ok : CaOk C') (ho : C'.ord = [61, 62]) : C'.got (quiet 100 k (putLog f 0 40 g (putsC C))) 60 = fullA 1 := by
  have hn : C'.held 60 = none := by
    cases hq : C'.held 60 with
    | none => rfl
    | some v =>
      have := (ok.hd 60).1 (by rw [hq]; rfl)
      rw [ho] at this
      simp at this
  have hm : ((60 : Int), fullA 1) ∈ putsC C := by rw [puts3 hp, ht]; simp
  have := putLog_at (f := f) (g := g) (by omega) (group3 hp) hm
  unfold CaS.got
  rw [hn]
  simp only [Option.getD_none, quiet]
  simp only at this
  rw [this]
  rfl
section
variable {o : Oper} {a : Act} {w : World}
theorem run_eql33 {x y : Operand} {i j : Int} (ho : o.op = .binOp .eql 33 x y 33) (hx : a.eval x = .int .i64 i) (hy : a.eval y = .int .i64 j) : ∀ w, (execOp a.eval o).run Try.prog w = .ok (.value (.bool (i == j))) w := by
  intro w
  unfold execOp
  simp only [ho, hx, hy]
  go_simp
theorem does_full1 {x : Operand} {c : Int} {ts : Array TypeId} (ho : o.op = .call { callee := .value (.func 14), args := #[x], argTypes := ts }) (hx : a.eval x = .int .u8 c) : Does Try.prog o a w (.slice (some ⟨w.heap.size, 0, none⟩) 64 64) (w.alloc (.cells (fullA c) 5)) :=
  .inr (.inr ⟨14, _, run_enter1 Try.call14 ho hx, full1_any c w⟩)
end
theorem fullA_sec (c : Int) : fullA c = sec (List.replicate 64 c) := by kernel_rfl

theorem ints2 {w : World} {a b : Int} : IntsAt (w.alloc (.cells #[.int .i64 a, .int .i64 b] 3)) (.slice (some ⟨w.heap.size, 0, none⟩) 2 2) [a, b] := by
  refine ⟨_, 2, rfl, by simp, fun _ => ⟨w.heap.size, rfl, fun j x hx => ?_⟩⟩
  rw [cell_of_row _ _ _ _ _ _ (heap_alloc_last w _)]
  match j, hx with
  | 0, hx | 1, hx => simp at hx; subst hx; rfl
  | j + 2, hx => simp at hx
theorem ints5 {w : World} {a b c d e : Int} : IntsAt (w.alloc (.cells #[.int .i64 a, .int .i64 b, .int .i64 c, .int .i64 d, .int .i64 e] 3)) (.slice (some ⟨w.heap.size, 0, none⟩) 5 5) [a, b, c, d, e] := by
  refine ⟨_, 5, rfl, by simp, fun _ => ⟨w.heap.size, rfl, fun j x hx => ?_⟩⟩
  rw [cell_of_row _ _ _ _ _ _ (heap_alloc_last w _)]
  match j, hx with
  | 0, hx | 1, hx | 2, hx | 3, hx | 4, hx => simp at hx; subst hx; rfl
  | j + 5, hx => simp at hx

set_option maxHeartbeats 8000000 in
theorem shown3_any (w : World) : Calls Try.prog 8 #[] w fun e w' => e = .returned (.bool true) ∧ Only [] w w' := by
  have G := Lib.hid (ground3_any (Has.start w) (most := 2) (by omega) (by omega))
  go_enter Try.func8, Try.ntmps8
  go_wp2_with fail
  refine G.out.mono ?_
  rintro e w0 ⟨d, FD, wb, cb, F0, rfl, h0⟩
  have s0 : Sh (CaS.new 2) 2 false 0 [] [] := ⟨rfl, rfl, rfl, rfl, rfl⟩
  have H0 := Lib.hid h0
  have ok0 := H0.out.cok
  clear G h0
  unfold pp

  have RD1 := Lib.hid (read_in H0.out 50 (by omega) (by omega) (by rw [s0.miss]; omega))
  clear H0
  go_wp2_with fail
  refine RD1.out.mono ?_
  rintro e w1 ⟨rb1, F1, rfl, h1⟩
  have s1 := s0.read ok0 (quiet 100 2 f00) 50 (o' := [50]) (m' := 1) (by decide) (by decide)
  have H1 := Lib.hid h1.drop
  have ok1 := H1.out.cok
  clear RD1 h1 s0 ok0

  have RD2 := Lib.hid (read_in H1.out 51 (by omega) (by omega) (by rw [s1.miss]; omega))
  clear H1
  go_wp2_with fail
  refine RD2.out.mono ?_
  rintro e w2 ⟨rb2, F2, rfl, h2⟩
  have s2 := s1.read ok1 (quiet 100 2 f00) 51 (o' := [50, 51]) (m' := 2) (by decide) (by decide)
  have H2 := Lib.hid h2.drop
  have ok2 := H2.out.cok
  clear RD2 h2 s1 ok1

  have RD3 := Lib.hid (read_in H2.out 50 (by omega) (by omega) (by rw [s2.miss]; omega))
  clear H2
  go_wp2_with fail
  refine RD3.out.mono ?_
  rintro e w3 ⟨rb3, F3, rfl, h3⟩
  have s3 := s2.read ok2 (quiet 100 2 f00) 50 (o' := [51, 50]) (m' := 2) (by decide) (by decide)
  have H3 := Lib.hid h3.drop
  have ok3 := H3.out.cok
  clear RD3 h3 s2 ok2

  have RD4 := Lib.hid (read_in H3.out 52 (by omega) (by omega) (by rw [s3.miss]; omega))
  clear H3
  go_wp2_with fail
  refine RD4.out.mono ?_
  rintro e w4 ⟨rb4, F4, rfl, h4⟩
  have s4 := s3.read ok3 (quiet 100 2 f00) 52 (o' := [50, 52]) (m' := 3) (by decide) (by decide)
  have H4 := Lib.hid h4.drop
  have ok4 := H4.out.cok
  clear RD4 h4 s3 ok3

  have HE5 := Lib.hid (held_any H4.out.cat1)
  go_wp2_with fail
  refine HE5.out.mono ?_
  rintro e w5 ⟨v5, rfl, hr5, o5⟩
  rw [s4.ord] at hr5
  have i5 := IntsAt.of hr5 (by simp)
  obtain ⟨va5, vc5, rfl, -, -⟩ := i5
  have IN5 := Lib.hid (ints_any (IntsAt.only (IntsAt.of hr5 (by simp)) ((Only.refl [] w5).alloc (.cells #[.int .i64 50, .int .i64 52] 3))) ints2)
  have H5 := Lib.hid ((H4.out.later o5).alloc' (.cells #[.int .i64 50, .int .i64 52] 3))
  clear HE5 hr5 o5 H4
  go_wp2_with fail
  refine IN5.out.mono ?_
  rintro e w6 ⟨r5, rfl, hq5, o6⟩
  obtain rfl : r5 = true := hq5.2 rfl
  have H6 := Lib.hid (H5.out.later o6)
  clear IN5 hq5 o6 H5

  have MS0 := misses_any H6.out.cat1
  rw [s4.miss] at MS0
  have MS := Lib.hid MS0
  clear MS0

  have WR7 := Lib.hid (write_in H6.out 60 1 (z := 30) (by rw [wcode, if_pos s4.opn]))
  clear H6
  go_wp2_with (first | (go_at_call 27; refine MS.out.mono ?_; rintro e w' ⟨rfl, rfl⟩) | (go_at_call 14; refine (full1_any _ _).mono ?_; rintro e w' ⟨rfl, rfl⟩))
  refine WR7.out.mono ?_
  rintro e w7 ⟨F7, rfl, h7⟩
  have H7 := Lib.hid h7
  clear WR7 h7

  rw [if_neg (by omega)] at H7
  have BG0 := has_cbegin H7.out
  rw [s4.opn] at BG0
  have BG := Lib.hid BG0
  clear BG0 MS H7
  go_wp2_with fail
  refine BG.out.mono ?_
  rintro e w8 ⟨F8, rfl, h8⟩
  have s8 := s4.opened true
  have BH0 := has_cbegin h8
  rw [s8.opn] at BH0
  have BH := Lib.hid BH0
  clear BH0 BG h8 s4
  go_wp2_with fail
  refine BH.out.mono ?_
  rintro e w9 ⟨F9, rfl, h9⟩
  have s9 := s8.opened true
  have H9 := Lib.hid h9
  clear BH h9 s8

  have WR10 := Lib.hid (write_in_ok H9.out 60 1 (by rw [wcode, if_neg (by rw [s9.opn]; simp), if_neg (by omega)]))
  clear H9
  go_wp2_with (go_at_call 14; refine (full1_any _ _).mono ?_; rintro e w' ⟨rfl, rfl⟩)
  refine WR10.out.mono ?_
  rintro e w10 ⟨F10, rfl, h10⟩
  have H10 := Lib.hid h10
  clear WR10 h10
  have s10 := s9.write 60 (fullA 1) (o' := [50, 52, 60]) (p' := [60]) (by decide) (by decide)

  have WR11 := Lib.hid (write_in_ok H10.out 61 1 (by rw [wcode, if_neg (by rw [s10.opn]; simp), if_neg (by omega)]))
  clear H10
  go_wp2_with (go_at_call 14; refine (full1_any _ _).mono ?_; rintro e w' ⟨rfl, rfl⟩)
  refine WR11.out.mono ?_
  rintro e w11 ⟨F11, rfl, h11⟩
  have H11 := Lib.hid h11
  clear WR11 h11
  have s11 := s10.write 61 (fullA 1) (o' := [50, 52, 60, 61]) (p' := [60, 61]) (by decide) (by decide)

  have WR12 := Lib.hid (write_in_ok H11.out 62 1 (by rw [wcode, if_neg (by rw [s11.opn]; simp), if_neg (by omega)]))
  clear H11
  go_wp2_with (go_at_call 14; refine (full1_any _ _).mono ?_; rintro e w' ⟨rfl, rfl⟩)
  refine WR12.out.mono ?_
  rintro e w12 ⟨F12, rfl, h12⟩
  have H12 := Lib.hid h12
  clear WR12 h12
  have s12 := s11.write 62 (fullA 1) (o' := [50, 52, 60, 61, 62]) (p' := [60, 61, 62]) (by decide) (by decide)

  have HE13 := Lib.hid (held_any H12.out.cat1)
  go_wp2_with fail
  refine HE13.out.mono ?_
  rintro e w13 ⟨v13, rfl, hr13, o13⟩
  rw [s12.ord] at hr13
  have i13 := IntsAt.of hr13 (by simp)
  obtain ⟨va13, vc13, rfl, -, -⟩ := i13
  have IN13 := Lib.hid (ints_any (IntsAt.only (IntsAt.of hr13 (by simp)) ((Only.refl [] w13).alloc (.cells #[.int .i64 50, .int .i64 52, .int .i64 60, .int .i64 61, .int .i64 62] 3))) ints5)
  have H13 := Lib.hid ((H12.out.later o13).alloc' (.cells #[.int .i64 50, .int .i64 52, .int .i64 60, .int .i64 61, .int .i64 62] 3))
  clear HE13 hr13 o13 H12
  go_wp2_with fail
  refine IN13.out.mono ?_
  rintro e w14 ⟨r13, rfl, hq13, o14⟩
  obtain rfl : r13 = true := hq13.2 rfl
  have H14 := Lib.hid (H13.out.later o14)
  clear IN13 hq13 o14 H13

  have PI0 := pinned_any H14.out.cat1
  rw [s12.pin] at PI0
  have PI := Lib.hid PI0
  have gok := group3 s12.pin
  have CO := Lib.hid (has_ccommit H14.out (by omega) (by omega) (by omega) (by omega) (by omega) (by omega) (by omega))
  have ok12 := H14.out.cok
  clear PI0 H14
  go_wp2_with (go_at_call 25; refine PI.out.mono ?_; rintro e w' ⟨rfl, rfl⟩)
  refine CO.out.mono ?_
  intro e w15 hpost
  rcases Or.symm hpost with ⟨hno, _⟩ | ⟨_, _, k15, FD15, F15, hk1, hk2, rfl, h15⟩
  · exact absurd ⟨s12.opn, gok⟩ hno
  have s15 := s12.committed (o' := [61, 62]) (by decide)
  have H15 := Lib.hid h15
  have ok15 := H15.out.cok
  rw [puts_len s12.pin] at hk2
  clear CO PI h15

  have HE16 := Lib.hid (held_any H15.out.cat1)
  go_wp2_with fail
  refine HE16.out.mono ?_
  rintro e w16 ⟨v16, rfl, hr16, o16⟩
  rw [s15.ord] at hr16
  have i16 := IntsAt.of hr16 (by simp)
  obtain ⟨va16, vc16, rfl, -, -⟩ := i16
  have IN16 := Lib.hid (ints_any (IntsAt.only (IntsAt.of hr16 (by simp)) ((Only.refl [] w16).alloc (.cells #[.int .i64 61, .int .i64 62] 3))) ints2)
  have H16 := Lib.hid ((H15.out.later o16).alloc' (.cells #[.int .i64 61, .int .i64 62] 3))
  clear HE16 hr16 o16 H15
  go_wp2_with fail
  refine IN16.out.mono ?_
  rintro e w17 ⟨r16, rfl, hq16, o17⟩
  obtain rfl : r16 = true := hq16.2 rfl
  have H17 := Lib.hid (H16.out.later o17)
  clear IN16 hq16 o17 H16

  have RB := read_back (k := k15) (f := f00) (g := 0) s12.pin ((held_other _ (fullA 1) (by omega : (60 : Int) ≠ 62)).trans ((held_other _ (fullA 1) (by omega : (60 : Int) ≠ 61)).trans (held_same _ 60 (fullA 1)))) ok15 s15.ord
  have RD := Lib.hid (read_in H17.out 60 (by omega) (by omega) (by rw [s15.miss]; omega))
  clear H17
  go_wp2_with fail
  refine RD.out.mono ?_
  rintro e w20 ⟨rb, F20, rfl, h20⟩
  have hyb0 : w20.heap[rb]? = some (.cells _ 69 (0, 0)) := h20.blk (o := .cells _ 69) (List.mem_cons_self ..)
  rw [RB, fullA_sec] at hyb0
  have hyb : w20.drew.heap[rb]? = some (.cells (sec (List.replicate 64 1)) 69 (0, 0)) := hyb0
  have O := Lib.hid h20.only.drew
  clear RD h20 hyb0 RB s12 s15 ok15 gok ok12
  go_wp2_with fail
  refine wp_region_flowR Lat [0, 0, 0, 0, 0, 0, 0, 0, 0, 0, 0, 0, 0, 0, 0, 0, 0, 0, 0, 0, 0, 0, 0, 0, 0, 0, 0, 0, 0, 0, 0, 0, 0, 0, 0, 0, 0, 1, 2, 1, 0, 0, 0] (by kernel_rfl) (by kernel_rfl) Lat.refl Lat.trans ?_
  generalize w20.drew = w9 at *
  refine fr0 (u := .bool true) rfl (fun _ => rfl) ?_
  simp only [Act.put, List.setIfInBounds_toArray, List.set_cons_succ, List.set_cons_zero]
  refine fr0 (u := .bool true) rfl (fun _ => rfl) ?_
  simp only [Act.put, List.setIfInBounds_toArray, List.set_cons_succ, List.set_cons_zero]
  refine fr0 (u := .int .i64 3) (by kernel_rfl) (fun _ => rfl) ?_
  simp only [Act.put, List.setIfInBounds_toArray, List.set_cons_succ, List.set_cons_zero]
  refine fr0 (u := .bool true) (by kernel_rfl) (fun w => (run_eql3 rfl rfl rfl w).trans rfl) ?_
  simp only [Act.put, List.setIfInBounds_toArray, List.set_cons_succ, List.set_cons_zero]
  refine fr0 (u := .bool true) rfl (fun _ => rfl) ?_
  simp only [Act.put, List.setIfInBounds_toArray, List.set_cons_succ, List.set_cons_zero]
  refine fr0 (u := .bool true) rfl (fun _ => rfl) ?_
  simp only [Act.put, List.setIfInBounds_toArray, List.set_cons_succ, List.set_cons_zero]
  refine fr0 (u := .int .i64 30) (by kernel_rfl) (fun _ => rfl) ?_
  simp only [Act.put, List.setIfInBounds_toArray, List.set_cons_succ, List.set_cons_zero]
  refine fr0 (u := .bool true) (by kernel_rfl) (fun w => (run_eql33 rfl rfl rfl w).trans rfl) ?_
  simp only [Act.put, List.setIfInBounds_toArray, List.set_cons_succ, List.set_cons_zero]
  refine fr0 (u := .bool true) rfl (fun _ => rfl) ?_
  simp only [Act.put, List.setIfInBounds_toArray, List.set_cons_succ, List.set_cons_zero]
  refine fr0 (u := .bool true) rfl (fun _ => rfl) ?_
  simp only [Act.put, List.setIfInBounds_toArray, List.set_cons_succ, List.set_cons_zero]
  refine fr0 (u := .int .i64 30) (by kernel_rfl) (fun _ => rfl) ?_
  simp only [Act.put, List.setIfInBounds_toArray, List.set_cons_succ, List.set_cons_zero]
  refine fr0 (u := .bool true) (by kernel_rfl) (fun w => (run_eql33 rfl rfl rfl w).trans rfl) ?_
  simp only [Act.put, List.setIfInBounds_toArray, List.set_cons_succ, List.set_cons_zero]
  refine fr0 (u := .bool true) rfl (fun _ => rfl) ?_
  simp only [Act.put, List.setIfInBounds_toArray, List.set_cons_succ, List.set_cons_zero]
  refine fr0 (u := .bool true) rfl (fun _ => rfl) ?_
  simp only [Act.put, List.setIfInBounds_toArray, List.set_cons_succ, List.set_cons_zero]
  refine fr0 (u := .int .i64 0) (by kernel_rfl) (fun _ => rfl) ?_
  simp only [Act.put, List.setIfInBounds_toArray, List.set_cons_succ, List.set_cons_zero]
  refine fr0 (u := .bool true) (by kernel_rfl) (fun w => (run_eql33 rfl rfl rfl w).trans rfl) ?_
  simp only [Act.put, List.setIfInBounds_toArray, List.set_cons_succ, List.set_cons_zero]
  refine fr0 (u := .bool true) rfl (fun _ => rfl) ?_
  simp only [Act.put, List.setIfInBounds_toArray, List.set_cons_succ, List.set_cons_zero]
  refine fr0 (u := .bool true) rfl (fun _ => rfl) ?_
  simp only [Act.put, List.setIfInBounds_toArray, List.set_cons_succ, List.set_cons_zero]
  refine fr0 (u := .bool true) (by kernel_rfl) (fun _ => rfl) ?_
  simp only [Act.put, List.setIfInBounds_toArray, List.set_cons_succ, List.set_cons_zero]
  refine fr0 (u := .bool true) rfl (fun _ => rfl) ?_
  simp only [Act.put, List.setIfInBounds_toArray, List.set_cons_succ, List.set_cons_zero]
  refine fr0 (u := .bool true) rfl (fun _ => rfl) ?_
  simp only [Act.put, List.setIfInBounds_toArray, List.set_cons_succ, List.set_cons_zero]
  refine fr0 (u := .int .i64 3) (by kernel_rfl) (fun _ => rfl) ?_
  simp only [Act.put, List.setIfInBounds_toArray, List.set_cons_succ, List.set_cons_zero]
  refine fr0 (u := .bool true) (by kernel_rfl) (fun w => (run_eql3 rfl rfl rfl w).trans rfl) ?_
  simp only [Act.put, List.setIfInBounds_toArray, List.set_cons_succ, List.set_cons_zero]
  refine fr0 (u := .bool true) rfl (fun _ => rfl) ?_
  simp only [Act.put, List.setIfInBounds_toArray, List.set_cons_succ, List.set_cons_zero]
  refine fr0 (u := .bool true) rfl (fun _ => rfl) ?_
  simp only [Act.put, List.setIfInBounds_toArray, List.set_cons_succ, List.set_cons_zero]
  refine fr0 (u := .int .i64 0) (by kernel_rfl) (fun _ => rfl) ?_
  simp only [Act.put, List.setIfInBounds_toArray, List.set_cons_succ, List.set_cons_zero]
  refine fr0 (u := .bool true) (by kernel_rfl) (fun w => (run_eql33 rfl rfl rfl w).trans rfl) ?_
  simp only [Act.put, List.setIfInBounds_toArray, List.set_cons_succ, List.set_cons_zero]
  refine fr0 (u := .bool true) rfl (fun _ => rfl) ?_
  simp only [Act.put, List.setIfInBounds_toArray, List.set_cons_succ, List.set_cons_zero]
  refine fr0 (u := .bool true) rfl (fun _ => rfl) ?_
  simp only [Act.put, List.setIfInBounds_toArray, List.set_cons_succ, List.set_cons_zero]
  refine fr0 (u := .bool true) (by kernel_rfl) (fun _ => rfl) ?_
  simp only [Act.put, List.setIfInBounds_toArray, List.set_cons_succ, List.set_cons_zero]
  refine fr0 (u := .bool true) rfl (fun _ => rfl) ?_
  simp only [Act.put, List.setIfInBounds_toArray, List.set_cons_succ, List.set_cons_zero]
  refine fr0 (u := .bool true) rfl (fun _ => rfl) ?_
  simp only [Act.put, List.setIfInBounds_toArray, List.set_cons_succ, List.set_cons_zero]
  refine fr0 (u := .int .i64 0) (by kernel_rfl) (fun _ => rfl) ?_
  simp only [Act.put, List.setIfInBounds_toArray, List.set_cons_succ, List.set_cons_zero]
  refine fr0 (u := .bool true) (by kernel_rfl) (fun w => (run_eql33 rfl rfl rfl w).trans rfl) ?_
  simp only [Act.put, List.setIfInBounds_toArray, List.set_cons_succ, List.set_cons_zero]
  refine fr0 (u := .bool true) rfl (fun _ => rfl) ?_
  simp only [Act.put, List.setIfInBounds_toArray, List.set_cons_succ, List.set_cons_zero]
  refine fr0 (u := .bool true) rfl (fun _ => rfl) ?_
  simp only [Act.put, List.setIfInBounds_toArray, List.set_cons_succ, List.set_cons_zero]
  refine fr0 (u := .slice (some ⟨rb, 0, none⟩) 64 64) (by kernel_rfl) (fun _ => rfl) ?_
  simp only [Act.put, List.setIfInBounds_toArray, List.set_cons_succ, List.set_cons_zero]
  refine fr1 (u := .string (strOf (List.replicate 64 1))) (by kernel_rfl) (fun x hx => run_str (by simp) rfl rfl (hx.at hyb)) ?_
  simp only [Act.put, List.setIfInBounds_toArray, List.set_cons_succ, List.set_cons_zero]
  refine fr2 (u := .slice (some ⟨w9.heap.size, 0, none⟩) 64 64) (w' := w9.alloc (.cells (fullA 1) 5)) (by kernel_rfl) (Lat.alloc _ _) (does_full1 rfl rfl) ?_
  have hzz := heap_alloc_last w9 (.cells (fullA 1) 5)
  rw [fullA_sec] at hzz ⊢
  simp only [Act.put, List.setIfInBounds_toArray, List.set_cons_succ, List.set_cons_zero]
  refine fr1 (u := .string (strOf (List.replicate 64 1))) (by kernel_rfl) (fun x hx => run_str (by simp) rfl rfl (hx.at hzz)) ?_
  simp only [Act.put, List.setIfInBounds_toArray, List.set_cons_succ, List.set_cons_zero]
  refine fr0 (u := .bool true) (by kernel_rfl) (fun w => (run_eqlS rfl rfl rfl w).trans (by simp)) ?_
  simp only [Act.put, List.setIfInBounds_toArray, List.set_cons_succ, List.set_cons_zero]
  refine fr0 (u := .bool true) rfl (fun _ => rfl) ?_
  simp only [Act.put, List.setIfInBounds_toArray, List.set_cons_succ, List.set_cons_zero]
  refine fr0 (u := .bool true) rfl (fun _ => rfl) ?_
  simp only [Act.put, List.setIfInBounds_toArray, List.set_cons_succ, List.set_cons_zero]
  refine frnil ?_
  show Exit.then _ _ _ _ _
  have O2 := Lib.hid (O.out.alloc (.cells (sec (List.replicate 64 1)) 5))
  clear hyb hzz O
  go_wp2
  go_ret
  exact ⟨rfl, O2.out⟩
end Go.Proofs.Ytoccnaebckcfmaa
end

section
set_option linter.unusedSimpArgs false
set_option linter.unusedVariables false
set_option maxRecDepth 8000
namespace Go.Proofs.Ytoccnaebckcfmaa
open Go.RowKit
open Go.ChangeMaps (setBlock)

/-- The calls that came in. -/
structure Ops3 (w : World) (ad : Option Addr) (len : Nat) (K A M B : Nat → Int) : Prop where
  small : len ≤ 9223372036854775807
  each : ∀ i, i < len → ∃ g o, ad = some ⟨g, o, none⟩ ∧ g < w.heap.size ∧ w.cell? ⟨g, o + i * 4, none⟩ = some (.int .i64 (K i)) ∧ w.cell? ⟨g, o + i * 4 + 1, none⟩ = some (.int .i64 (A i)) ∧ w.cell? ⟨g, o + i * 4 + 2, none⟩ = some (.int .i64 (M i)) ∧ w.cell? ⟨g, o + i * 4 + 3, none⟩ = some (.int .u8 (B i))
  kb : ∀ i, i < len → -9223372036854775808 ≤ K i ∧ K i ≤ 9223372036854775807
  ab : ∀ i, i < len → -9223372036854775808 ≤ A i ∧ A i ≤ 9223372036854775807
  mb : ∀ i, i < len → -9223372036854775808 ≤ M i ∧ M i ≤ 9223372036854775807
  bb : ∀ i, i < len → 0 ≤ B i ∧ B i < 256

section
variable {o : Oper} {a : Act} {w : World}
theorem run_field32 {x : Operand} {b k : Nat} (hk : k < 4) (ho : o.op = .fieldAddr 32 x k) (hx : a.eval x = .pointer (some ⟨b, 0, none⟩)) :
    ∀ w, (execOp a.eval o).run Try.prog w = .ok (.value (.pointer (some ⟨b, k, none⟩))) w := by
  intro w
  have : k = 0 ∨ k = 1 ∨ k = 2 ∨ k = 3 := by omega
  unfold execOp
  simp only [ho, hx]
  rcases this with rfl | rfl | rfl | rfl <;> go_simp
theorem isAgg5 (w : World) : (isAgg 5).run Try.prog w = .ok false w := by kernel_rfl
end

section
variable {w0 w : World} {cb d wb : Nat} {F FD : List Nat} {C : CaS} {S : St} {Rs : List Res}
theorem evict_miss (C : CaS) : C.evict.miss = C.miss := by unfold CaS.evict; split <;> rfl
theorem read_missed (C : CaS) (S : St) (i : Int) : (C.read S i).miss ≤ C.miss + 1 := by
  unfold CaS.read
  rw [evict_miss]
  simp only [CaS.use]
  split
  · omega
  · simp only; omega
theorem has_cread3 (h : Has w0 w (CRes cb d wb F C :: DRes d FD S :: Rs)) (i : Int) (hm : C.miss < 1000000000) (hsn : S.n ≤ 8192) :
    Calls Try.prog 12 #[pp cb, .int .i64 i] w fun e w' => ∃ v F' C', e = .returned v ∧ C'.miss ≤ C.miss + 1 ∧ Has w0 w' (CRes cb d wb F' C' :: DRes d FD S :: Rs) := by
  refine (has_cread h i hm hsn).mono ?_
  rintro e w' (⟨_, rb, F', rfl, hh⟩ | ⟨_, _, F', rfl, hh⟩)
  · exact ⟨_, F', _, rfl, read_missed C S i, hh.drop⟩
  · exact ⟨_, F', C, rfl, by omega, hh⟩
theorem has_cwrite3 (h : Has w0 w (CRes cb d wb F C :: DRes d FD S :: Rs)) (hsn : S.n ≤ 8192) (i c : Int) :
    Calls Try.prog 16 #[pp cb, .int .i64 i, .slice (some ⟨w.heap.size, 0, none⟩) 64 64] (w.alloc (.cells (fullA c) 5)) fun e w' => ∃ (z : Int) (F' : List Nat) (C' : CaS), e = .returned (.int .i64 z) ∧ C'.miss = C.miss ∧ Has w0 w' (CRes cb d wb F' C' :: DRes d FD S :: Rs) := by
  refine (has_cwrite (h.alloc' (.cells (fullA c) 5)) hsn i (bytes_of (fullA_ok c))).mono ?_
  rintro e w' ⟨F', rfl, hh⟩
  refine ⟨_, F', _, rfl, ?_, hh⟩
  split <;> rfl
theorem steps_q {b : Nat} {n k : Int} {f : Int → Option (Array Value)} (h : DAt w b F (quiet n k f)) : Calls Try.prog 34 #[.pointer (some ⟨b, 0, none⟩)] w fun e w' => e = .returned (.int .i64 k) ∧ w = w' := steps_any h
theorem commit_missed (C : CaS) : C.committed.miss = C.miss := by unfold CaS.committed; rw [evict_miss]
end

/-- Behind i calls. -/
def RIs (w : World) (cb d wb i : Nat) (wr : World) : Prop := ∃ (C : CaS) (F FD : List Nat) (k : Int) (f : Int → Option (Array Value)) (g : Int), C.miss ≤ i ∧ 0 ≤ k ∧ k ≤ 2 + 200 * (i : Int) ∧ 0 ≤ g ∧ g ≤ i ∧ Has w wr (CRes cb d wb F C :: DRes d FD (quiet 100 k f) :: WRes wb d 0 40 g :: [])

set_option maxHeartbeats 8000000 in
theorem reads_any (w : World) (most : Int) (hp0 : -9223372036854775808 ≤ most) (hp1 : most ≤ 9223372036854775807) (ad : Option Addr) (len cap : Nat) (K A M B : Nat → Int) (hin : Ops3 w ad len K A M B) :
    Calls Try.prog 7 #[.int .i64 most, .slice ad len cap] w fun e w' => e = .returned (.bool true) ∧ Only [] w w' := by
  have SH := Lib.hid (shown3_any w)
  have hsm := hin.small
  have HIN := Lib.hid hin
  clear hin
  have AM := fun w1 => kind_any most 60 w1 hp0 hp1 (by omega) (by omega)
  obtain ⟨hn0, hn1⟩ := amongF_bd most 60 (by omega)
  generalize amongF most 60 = nn at *
  have AMH := Lib.hid AM
  clear AM
  go_enter Try.func7, Try.ntmps7
  go_wp2_with fail
  refine SH.out.mono ?_
  rintro e w1 ⟨rfl, o1⟩
  have G := Lib.hid (ground3_any ((Has.start w).later o1) (most := 1 + nn) (by omega) (by omega))
  clear SH o1
  go_wp2_with (go_at_call 9; refine (AMH.out _).mono ?_; rintro e w' ⟨rfl, rfl⟩)
  refine G.out.mono ?_
  rintro e w2 ⟨d, FD, wb, cb, F0, rfl, h0⟩
  have c0 : RIs w cb d wb 0 w2 := ⟨_, F0, FD, 2, f00, 0, by simp [CaS.new], by omega, by omega, by omega, by omega, h0⟩
  have C0 := Lib.hid c0
  clear G h0 c0 AMH
  unfold pp
  go_wp2
  go_loopw [8] (fun x wr => ∃ i : Nat, i ≤ min len 200 ∧ x = .int .i64 i ∧ RIs w cb d wb i wr) (fun x _ => min len 200 - (RowKit.intOf x).toNat)
  case atStart => exact ⟨0, by omega, rfl, C0.out⟩
  case round =>
    clear C0
    obtain ⟨i, hi, rfl, C, F, FD, k, f, g', hmi, hk0, hk1, hg0, hg1, hC⟩ := hrel
    by_cases hlt : i < min len 200
    · have hil : i < len := by omega
      have hi60 : i < 200 := by omega
      obtain ⟨g, o, rfl, hg, q0, q1, q2, q3⟩ := HIN.out.each i hil
      obtain ⟨kb0, kb1⟩ := HIN.out.kb i hil
      obtain ⟨bb0, bb1⟩ := HIN.out.bb i hil
      have bl := hC.only.block g hg (by simp)
      have p0 := (World.cell?_of_block (w := w) (a := ⟨g, o + i * 4, none⟩) bl).trans q0
      have p1 := (World.cell?_of_block (w := w) (a := ⟨g, o + i * 4 + 1, none⟩) bl).trans q1
      have p2 := (World.cell?_of_block (w := w) (a := ⟨g, o + i * 4 + 2, none⟩) bl).trans q2
      have p3 := (World.cell?_of_block (w := w) (a := ⟨g, o + i * 4 + 3, none⟩) bl).trans q3
      have ST0 := Lib.hid (steps_q hC.swap.dat)
      have h6 := hC.alloc (.cells #[.int .i64 (K i), .int .i64 (A i), .int .i64 (M i), .int .u8 (B i)] 32)
      have KH := Lib.hid (fun x => kind_any (K i) 9 x kb0 kb1 (by omega) (by omega))
      have kb := amongF_bd (K i) 9 (by omega)
      have H6 := Lib.hid h6
      clear hC bl h6 q0 q1 q2 q3
      go_wp2_with (go_at_call 34; refine ST0.out.mono ?_; rintro e w' ⟨rfl, rfl⟩)
      generalize wr.heap.size = go at *
      generalize wr.alloc (.cells #[.int .i64 (K i), .int .i64 (A i), .int .i64 (M i), .int .u8 (B i)] 32) = w4 at *
      clear p0 p1 p2 p3 ST0
      refine (KH.out _).mono ?_
      rintro e w' ⟨rfl, rfl⟩
      clear KH
      generalize amongF (K i) 9 = κ at *
      have hb6 : w4.heap[go]? = some (.cells #[.int .i64 (K i), .int .i64 (A i), .int .i64 (M i), .int .u8 (B i)] 32 (0, 0)) := H6.out.blk (by simp)
      have c1 : w4.cell? ⟨go, 1, none⟩ = some (.int .i64 (A i)) := by rw [cell_of_row _ _ _ _ _ _ hb6]; rfl
      have c3 : w4.cell? ⟨go, 3, none⟩ = some (.int .u8 (B i)) := by rw [cell_of_row _ _ _ _ _ _ hb6]; rfl
      have H4 := Lib.hid H6.out.drop
      clear hb6 H6
      obtain rfl | rfl | rfl | rfl | rfl | rfl | rfl | rfl | rfl : κ = 0 ∨ κ = 1 ∨ κ = 2 ∨ κ = 3 ∨ κ = 4 ∨ κ = 5 ∨ κ = 6 ∨ κ = 7 ∨ κ = 8 := by omega
      · as_aux_lemma =>
        have RD := Lib.hid (has_cread3 H4.out (A i) (by omega) (by simp [quiet]))
        clear H4 c3
        go_wp2_with fail
        refine RD.out.mono ?_
        rintro e w6 ⟨v6, F6, C6, rfl, hm6, h6⟩
        clear RD
        have ST := Lib.hid (steps_q h6.swap.dat)
        have fin : RIs w cb d wb (i + 1) w6 := ⟨C6, F6, FD, k, f, g', by omega, hk0, by omega, hg0, by omega, h6⟩
        have FIN := Lib.hid fin
        clear fin h6
        go_wp2_with (go_at_call 34; refine ST.out.mono ?_; rintro e w' ⟨rfl, rfl⟩)
        go_roundw
        case rel => exact ⟨i + 1, by omega, by go_num, FIN.out⟩
        case measure => simp [RowKit.intOf]; omega
      · as_aux_lemma =>
        have RD := Lib.hid (has_cread3 H4.out (A i) (by omega) (by simp [quiet]))
        clear H4 c3
        go_wp2_with fail
        refine RD.out.mono ?_
        rintro e w6 ⟨v6, F6, C6, rfl, hm6, h6⟩
        clear RD
        have ST := Lib.hid (steps_q h6.swap.dat)
        have fin : RIs w cb d wb (i + 1) w6 := ⟨C6, F6, FD, k, f, g', by omega, hk0, by omega, hg0, by omega, h6⟩
        have FIN := Lib.hid fin
        clear fin h6
        go_wp2_with (go_at_call 34; refine ST.out.mono ?_; rintro e w' ⟨rfl, rfl⟩)
        go_roundw
        case rel => exact ⟨i + 1, by omega, by go_num, FIN.out⟩
        case measure => simp [RowKit.intOf]; omega
      · as_aux_lemma =>
        have RD := Lib.hid (has_cread3 H4.out (A i) (by omega) (by simp [quiet]))
        clear H4 c3
        go_wp2_with fail
        refine RD.out.mono ?_
        rintro e w6 ⟨v6, F6, C6, rfl, hm6, h6⟩
        clear RD
        have ST := Lib.hid (steps_q h6.swap.dat)
        have fin : RIs w cb d wb (i + 1) w6 := ⟨C6, F6, FD, k, f, g', by omega, hk0, by omega, hg0, by omega, h6⟩
        have FIN := Lib.hid fin
        clear fin h6
        go_wp2_with (go_at_call 34; refine ST.out.mono ?_; rintro e w' ⟨rfl, rfl⟩)
        go_roundw
        case rel => exact ⟨i + 1, by omega, by go_num, FIN.out⟩
        case measure => simp [RowKit.intOf]; omega
      · as_aux_lemma =>
        have c1d : w4.drew.cell? ⟨go, 1, none⟩ = some (.int .i64 (A i)) := c1
        have c3d : w4.drew.cell? ⟨go, 3, none⟩ = some (.int .u8 (B i)) := c3
        have WR := Lib.hid (has_cwrite3 H4.out.drew (by simp [quiet]) (A i) (B i))
        clear H4 c1 c3
        go_wp2_with fail
        refine wp_region_flowR Lat [0, 0, 1, 0, 1, 2, 3] (by kernel_rfl) (by kernel_rfl) Lat.refl Lat.trans ?_
        generalize w4.drew = w5 at *
        refine fr0 (u := .pointer (some ⟨cb, 0, none⟩)) rfl (fun _ => rfl) ?_
        simp only [Act.put, List.setIfInBounds_toArray, List.set_cons_succ, List.set_cons_zero]
        refine fr0 rfl (run_field32 (k := 1) (by omega) rfl rfl) ?_
        simp only [Act.put, List.setIfInBounds_toArray, List.set_cons_succ, List.set_cons_zero]
        refine fr1 (u := .int .i64 (A i)) rfl (fun x hx => run_load1 rfl rfl (hx.cell c1d) isAgg3) ?_
        simp only [Act.put, List.setIfInBounds_toArray, List.set_cons_succ, List.set_cons_zero]
        refine fr0 rfl (run_field32 (k := 3) (by omega) rfl rfl) ?_
        simp only [Act.put, List.setIfInBounds_toArray, List.set_cons_succ, List.set_cons_zero]
        refine fr1 (u := .int .u8 (B i)) rfl (fun x hx => run_load1 rfl rfl (hx.cell c3d) isAgg5) ?_
        simp only [Act.put, List.setIfInBounds_toArray, List.set_cons_succ, List.set_cons_zero]
        refine fr2 (u := .slice (some ⟨w5.heap.size, 0, none⟩) 64 64) (w' := w5.alloc (.cells (fullA (B i)) 5)) rfl (Lat.alloc _ _) (does_full1 rfl rfl) ?_
        simp only [Act.put, List.setIfInBounds_toArray, List.set_cons_succ, List.set_cons_zero]
        refine fr3c rfl (run_enter3 Try.call16 rfl rfl rfl rfl) WR.out ?_
        rintro e w6 ⟨z6, F6, C6, rfl, hm6, h6⟩
        refine ⟨_, rfl, ?_⟩
        simp only [Act.put, List.setIfInBounds_toArray, List.set_cons_succ, List.set_cons_zero]
        refine frnil ?_
        clear WR c1d c3d
        have ST := Lib.hid (steps_q h6.swap.dat)
        have fin : RIs w cb d wb (i + 1) w6 := ⟨C6, F6, FD, k, f, g', by omega, hk0, by omega, hg0, by omega, h6⟩
        have FIN := Lib.hid fin
        clear fin h6
        go_wp2_with (go_at_call 34; refine ST.out.mono ?_; rintro e w' ⟨rfl, rfl⟩)
        go_roundw
        case rel => exact ⟨i + 1, by omega, by go_num, FIN.out⟩
        case measure => simp [RowKit.intOf]; omega
      · as_aux_lemma =>
        have c1d : w4.drew.cell? ⟨go, 1, none⟩ = some (.int .i64 (A i)) := c1
        have c3d : w4.drew.cell? ⟨go, 3, none⟩ = some (.int .u8 (B i)) := c3
        have WR := Lib.hid (has_cwrite3 H4.out.drew (by simp [quiet]) (A i) (B i))
        clear H4 c1 c3
        go_wp2_with fail
        refine wp_region_flowR Lat [0, 0, 1, 0, 1, 2, 3] (by kernel_rfl) (by kernel_rfl) Lat.refl Lat.trans ?_
        generalize w4.drew = w5 at *
        refine fr0 (u := .pointer (some ⟨cb, 0, none⟩)) rfl (fun _ => rfl) ?_
        simp only [Act.put, List.setIfInBounds_toArray, List.set_cons_succ, List.set_cons_zero]
        refine fr0 rfl (run_field32 (k := 1) (by omega) rfl rfl) ?_
        simp only [Act.put, List.setIfInBounds_toArray, List.set_cons_succ, List.set_cons_zero]
        refine fr1 (u := .int .i64 (A i)) rfl (fun x hx => run_load1 rfl rfl (hx.cell c1d) isAgg3) ?_
        simp only [Act.put, List.setIfInBounds_toArray, List.set_cons_succ, List.set_cons_zero]
        refine fr0 rfl (run_field32 (k := 3) (by omega) rfl rfl) ?_
        simp only [Act.put, List.setIfInBounds_toArray, List.set_cons_succ, List.set_cons_zero]
        refine fr1 (u := .int .u8 (B i)) rfl (fun x hx => run_load1 rfl rfl (hx.cell c3d) isAgg5) ?_
        simp only [Act.put, List.setIfInBounds_toArray, List.set_cons_succ, List.set_cons_zero]
        refine fr2 (u := .slice (some ⟨w5.heap.size, 0, none⟩) 64 64) (w' := w5.alloc (.cells (fullA (B i)) 5)) rfl (Lat.alloc _ _) (does_full1 rfl rfl) ?_
        simp only [Act.put, List.setIfInBounds_toArray, List.set_cons_succ, List.set_cons_zero]
        refine fr3c rfl (run_enter3 Try.call16 rfl rfl rfl rfl) WR.out ?_
        rintro e w6 ⟨z6, F6, C6, rfl, hm6, h6⟩
        refine ⟨_, rfl, ?_⟩
        simp only [Act.put, List.setIfInBounds_toArray, List.set_cons_succ, List.set_cons_zero]
        refine frnil ?_
        clear WR c1d c3d
        have ST := Lib.hid (steps_q h6.swap.dat)
        have fin : RIs w cb d wb (i + 1) w6 := ⟨C6, F6, FD, k, f, g', by omega, hk0, by omega, hg0, by omega, h6⟩
        have FIN := Lib.hid fin
        clear fin h6
        go_wp2_with (go_at_call 34; refine ST.out.mono ?_; rintro e w' ⟨rfl, rfl⟩)
        go_roundw
        case rel => exact ⟨i + 1, by omega, by go_num, FIN.out⟩
        case measure => simp [RowKit.intOf]; omega
      · as_aux_lemma =>
        have BG := Lib.hid (has_cbegin H4.out)
        clear H4 c1 c3
        go_wp2_with fail
        refine BG.out.mono ?_
        rintro e w6 ⟨F6, rfl, h6⟩
        clear BG
        have ST := Lib.hid (steps_q h6.swap.dat)
        have fin : RIs w cb d wb (i + 1) w6 := ⟨{ C with opn := true }, F6, FD, k, f, g', by simp only; omega, hk0, by omega, hg0, by omega, h6⟩
        have FIN := Lib.hid fin
        clear fin h6
        go_wp2_with (go_at_call 34; refine ST.out.mono ?_; rintro e w' ⟨rfl, rfl⟩)
        go_roundw
        case rel => exact ⟨i + 1, by omega, by go_num, FIN.out⟩
        case measure => simp [RowKit.intOf]; omega
      · as_aux_lemma =>
        have CO := Lib.hid (has_ccommit H4.out (by omega) (by omega) (by omega) hg0 (by omega) hk0 (by omega))
        clear H4 c1 c3
        go_wp2_with fail
        refine CO.out.mono ?_
        intro e w6 hpost
        rcases Or.symm hpost with ⟨hno, FD6, F6, rfl, h6⟩ | ⟨ho, gok, k6, FD6, F6, hk6, hk7, rfl, h6⟩
        · have ST := Lib.hid (steps_q h6.swap.dat)
          have fin : RIs w cb d wb (i + 1) w6 := ⟨C, F6, FD6, k, f, g', by omega, hk0, by omega, hg0, by omega, h6⟩
          have FIN := Lib.hid fin
          have hz : ((if C.opn = true then (20 : Int) else 30) == 0) = false := by split <;> rfl
          clear fin h6 CO hno hpost
          generalize (if C.opn = true then (20 : Int) else 30) = z6 at *
          go_wp2_with (go_at_call 34; refine ST.out.mono ?_; rintro e w' ⟨rfl, rfl⟩)
          go_roundw
          case rel => exact ⟨i + 1, by omega, by go_num, FIN.out⟩
          case measure => simp [RowKit.intOf]; omega
        · have ST := Lib.hid (steps_q h6.swap.dat)
          have hl37 : (putsC C).length ≤ 37 := by
            have := gok.1
            rw [room40] at this
            simp only [rawsOf, List.length_map] at this
            omega
          have fin : RIs w cb d wb (i + 1) w6 := ⟨C.committed, F6, FD6, k6, _, g' + 1, by rw [commit_missed]; omega, by omega, by omega, by omega, by omega, h6⟩
          have FIN := Lib.hid fin
          clear fin h6 CO gok hpost hk7
          go_wp2_with (go_at_call 34; refine ST.out.mono ?_; rintro e w' ⟨rfl, rfl⟩)
          go_roundw
          case rel => exact ⟨i + 1, by omega, by go_num, FIN.out⟩
          case measure => simp [RowKit.intOf]; omega
      · as_aux_lemma =>
        have AB := Lib.hid (has_cabort H4.out)
        clear H4 c1 c3
        go_wp2_with fail
        refine AB.out.mono ?_
        rintro e w6 ⟨F6, rfl, h6⟩
        clear AB
        have ST := Lib.hid (steps_q h6.swap.dat)
        have fin : RIs w cb d wb (i + 1) w6 := ⟨(if C.opn then C.abort else C), F6, FD, k, f, g', by split <;> simp [CaS.abort] <;> omega, hk0, by omega, hg0, by omega, h6⟩
        have FIN := Lib.hid fin
        clear fin h6
        go_wp2_with (go_at_call 34; refine ST.out.mono ?_; rintro e w' ⟨rfl, rfl⟩)
        go_roundw
        case rel => exact ⟨i + 1, by omega, by go_num, FIN.out⟩
        case measure => simp [RowKit.intOf]; omega
      · as_aux_lemma =>
        have c1d : w4.drew.cell? ⟨go, 1, none⟩ = some (.int .i64 (A i)) := c1
        have c3d : w4.drew.cell? ⟨go, 3, none⟩ = some (.int .u8 (B i)) := c3
        have WR := Lib.hid (has_cwrite3 H4.out.drew (by simp [quiet]) (A i) (B i))
        clear H4 c1 c3
        go_wp2_with fail
        refine wp_region_flowR Lat [0, 0, 1, 0, 1, 2, 3] (by kernel_rfl) (by kernel_rfl) Lat.refl Lat.trans ?_
        generalize w4.drew = w5 at *
        refine fr0 (u := .pointer (some ⟨cb, 0, none⟩)) rfl (fun _ => rfl) ?_
        simp only [Act.put, List.setIfInBounds_toArray, List.set_cons_succ, List.set_cons_zero]
        refine fr0 rfl (run_field32 (k := 1) (by omega) rfl rfl) ?_
        simp only [Act.put, List.setIfInBounds_toArray, List.set_cons_succ, List.set_cons_zero]
        refine fr1 (u := .int .i64 (A i)) rfl (fun x hx => run_load1 rfl rfl (hx.cell c1d) isAgg3) ?_
        simp only [Act.put, List.setIfInBounds_toArray, List.set_cons_succ, List.set_cons_zero]
        refine fr0 rfl (run_field32 (k := 3) (by omega) rfl rfl) ?_
        simp only [Act.put, List.setIfInBounds_toArray, List.set_cons_succ, List.set_cons_zero]
        refine fr1 (u := .int .u8 (B i)) rfl (fun x hx => run_load1 rfl rfl (hx.cell c3d) isAgg5) ?_
        simp only [Act.put, List.setIfInBounds_toArray, List.set_cons_succ, List.set_cons_zero]
        refine fr2 (u := .slice (some ⟨w5.heap.size, 0, none⟩) 64 64) (w' := w5.alloc (.cells (fullA (B i)) 5)) rfl (Lat.alloc _ _) (does_full1 rfl rfl) ?_
        simp only [Act.put, List.setIfInBounds_toArray, List.set_cons_succ, List.set_cons_zero]
        refine fr3c rfl (run_enter3 Try.call16 rfl rfl rfl rfl) WR.out ?_
        rintro e w6 ⟨z6, F6, C6, rfl, hm6, h6⟩
        refine ⟨_, rfl, ?_⟩
        simp only [Act.put, List.setIfInBounds_toArray, List.set_cons_succ, List.set_cons_zero]
        refine frnil ?_
        clear WR c1d c3d
        have ST := Lib.hid (steps_q h6.swap.dat)
        have fin : RIs w cb d wb (i + 1) w6 := ⟨C6, F6, FD, k, f, g', by omega, hk0, by omega, hg0, by omega, h6⟩
        have FIN := Lib.hid fin
        clear fin h6
        go_wp2_with (go_at_call 34; refine ST.out.mono ?_; rintro e w' ⟨rfl, rfl⟩)
        go_roundw
        case rel => exact ⟨i + 1, by omega, by go_num, FIN.out⟩
        case measure => simp [RowKit.intOf]; omega
    · have HO := Lib.hid hC.only
      clear hC
      by_cases hL : len ≤ 200
      · have hiL : i = len := by omega
        clear hlt hi
        subst hiL
        go_wp2
        go_ret
        exact ⟨rfl, HO.out⟩
      · have hiL : i = 200 := by omega
        clear hlt hi
        subst hiL
        go_wp2
        go_ret
        exact ⟨rfl, HO.out⟩
end Go.Proofs.Ytoccnaebckcfmaa
end

section
set_option linter.unusedSimpArgs false
set_option linter.unusedVariables false
set_option maxRecDepth 8000
namespace Go.Proofs.Ytoccnaebckcfmaa
open Go.ChangeShapes Go.WideShapes Go.ChangeAt Go.RowKit

theorem ownK : ownKnob Try.prog.godebug = none := by kernel_rfl
theorem laidK : laidOutB Try.prog = true := by kernel_rfl

section
variable {H : Type} {enc : TypeId × Value → H} {w : World}

theorem spot_none {w : World} {x : Addr} {u : Value} (h : w.cell? x = some u) : x = ⟨x.block, x.off, none⟩ := by
  obtain ⟨b, o, s⟩ := x
  cases s with
  | none => rfl
  | some y =>
    exfalso
    unfold World.cell? at h
    split at h <;> simp at h
theorem spot_of {ad : Addr} {n : Nat} {cs : List Value} (hn : 0 < n) (hc : w.cells? 0 (ad.add 0) n = some cs) : ad = ⟨ad.block, ad.off, none⟩ := by
  obtain ⟨_, hcl, hat⟩ := World.cells?_some hc
  have h0 := hat 0 hn
  have hne : cs[0]? = some cs[0] := List.getElem?_eq_getElem (by omega)
  rw [hne] at h0
  have h1 : w.cell? ad = some cs[0] := by simpa [Addr.add] using h0
  exact spot_none h1

theorem wf64 {z : Int} (hz : (Lit.int .i64 z).wf = true) : -9223372036854775808 ≤ z ∧ z ≤ 9223372036854775807 := by
  simp [Lit.wf, IntKind.min, IntKind.max, IntKind.signed, IntKind.bits] at hz
  exact hz
theorem wf8 {z : Int} (hz : (Lit.int .u8 z).wf = true) : 0 ≤ z ∧ z < 256 := by
  simp [Lit.wf, IntKind.min, IntKind.max, IntKind.signed, IntKind.bits] at hz
  omega

/-- A slice of calls that came in. -/
theorem ops3_open {fuel : Nat} {a : Option Addr} {len cap : Nat} {x : DataW H × List MemPlace} (h : DataW.trod enc Try.prog w 0 (fun _ => true) true fuel 22 (Value.slice a len cap).cells.toList = some x) :
    ∃ K A M B, Ops3 w a len K A M B := by
  have hc32 : Try.prog.cellsOf 32 = 4 := by kernel_rfl
  rcases Go.Deep.open_slice Try.underlying22 h with ⟨hcs, _⟩ | ⟨ad, l, c, m, n, D, Pl, hcs, hb, hl, hm, hmm, hx, hi⟩
  · simp [Value.cells] at hcs
    obtain ⟨rfl, rfl, rfl⟩ := hcs
    exact ⟨fun _ => 0, fun _ => 0, fun _ => 0, fun _ => 0, ⟨by omega, fun i hi => by omega, fun i hi => by omega, fun i hi => by omega, fun i hi => by omega, fun i hi => by omega⟩⟩
  · simp [Value.cells] at hcs
    obtain ⟨rfl, rfl, rfl⟩ := hcs
    simp at hmm
    subst hmm
    have key : ∀ i, ∃ t : Int × Int × Int × Int, i < len → ad = ⟨ad.block, ad.off, none⟩ ∧ w.cell? ⟨ad.block, ad.off + i * 4, none⟩ = some (.int .i64 t.1) ∧ w.cell? ⟨ad.block, ad.off + i * 4 + 1, none⟩ = some (.int .i64 t.2.1) ∧ w.cell? ⟨ad.block, ad.off + i * 4 + 2, none⟩ = some (.int .i64 t.2.2.1) ∧ w.cell? ⟨ad.block, ad.off + i * 4 + 3, none⟩ = some (.int .u8 t.2.2.2) ∧
        (Lit.int .i64 t.1).wf = true ∧ (Lit.int .i64 t.2.1).wf = true ∧ (Lit.int .i64 t.2.2.1).wf = true ∧ (Lit.int .u8 t.2.2.2).wf = true := by
      intro i
      by_cases hil : i < len
      · have sp : ad = ⟨ad.block, ad.off, none⟩ := by
          obtain ⟨cs', hc, ht⟩ := hi 0 (by omega)
          rw [hc32, Nat.zero_mul] at hc
          exact spot_of (by omega) hc
        obtain ⟨cs', hc, ht⟩ := hi i (by omega)
        rw [hc32] at hc
        obtain ⟨_, hcl, hat⟩ := World.cells?_some hc
        obtain ⟨xs, n', _, hD, _, hxl, hf⟩ := DataW.trod_struct Try.underlying32 ht
        have cell : ∀ j, j < 4 → w.cell? ⟨ad.block, ad.off + i * 4 + j, none⟩ = cs'[j]? := fun j hj => by
          have := hat j hj
          rw [sp, Addr.add_mid, Addr.add_mid] at this
          exact this
        have hf0 := hf 0 _ rfl
        have hf1 := hf 1 _ rfl
        have hf2 := hf 2 _ rfl
        have hf3 := hf 3 _ rfl
        obtain ⟨y0, hy0⟩ : ∃ y, xs[0]? = some y := ⟨_, List.getElem?_eq_getElem (by rw [hxl]; decide)⟩
        obtain ⟨y1, hy1⟩ : ∃ y, xs[1]? = some y := ⟨_, List.getElem?_eq_getElem (by rw [hxl]; decide)⟩
        obtain ⟨y2, hy2⟩ : ∃ y, xs[2]? = some y := ⟨_, List.getElem?_eq_getElem (by rw [hxl]; decide)⟩
        obtain ⟨y3, hy3⟩ : ∃ y, xs[3]? = some y := ⟨_, List.getElem?_eq_getElem (by rw [hxl]; decide)⟩
        rw [hy0] at hf0
        rw [hy1] at hf1
        rw [hy2] at hf2
        rw [hy3] at hf3
        obtain ⟨n0, hn0, _, hw0⟩ := DataW.trod_int Try.underlying3 hf0
        obtain ⟨n1, hn1, _, hw1⟩ := DataW.trod_int Try.underlying3 hf1
        obtain ⟨n2, hn2, _, hw2⟩ := DataW.trod_int Try.underlying3 hf2
        obtain ⟨n3, hn3, _, hw3⟩ := DataW.trod_int Try.underlying5 hf3
        have hc3 : Try.prog.cellsOf 3 = 1 := by kernel_rfl
        have hc5 : Try.prog.cellsOf 5 = 1 := by kernel_rfl
        refine ⟨(n0, n1, n2, n3), fun _ => ⟨sp, ?_, ?_, ?_, ?_, hw0, hw1, hw2, hw3⟩⟩
        · have h2 := cell 0 (by omega)
          rw [Nat.add_zero] at h2
          rw [h2]
          have := congrArg (·[0]?) hn0
          simpa [hc3] using this
        · rw [cell 1 (by omega)]
          have := congrArg (·[0]?) hn1
          simpa [hc3] using this
        · rw [cell 2 (by omega)]
          have := congrArg (·[0]?) hn2
          simpa [hc3] using this
        · rw [cell 3 (by omega)]
          have := congrArg (·[0]?) hn3
          simpa [hc5] using this
      · exact ⟨(0, 0, 0, 0), fun h => absurd h hil⟩
    obtain ⟨f, hf⟩ := Classical.axiomOfChoice key
    refine ⟨fun i => (f i).1, fun i => (f i).2.1, fun i => (f i).2.2.1, fun i => (f i).2.2.2, ⟨by unfold maxLen at hm; omega, fun i hil => ?_, fun i hil => wf64 (hf i hil).2.2.2.2.2.1, fun i hil => wf64 (hf i hil).2.2.2.2.2.2.1, fun i hil => wf64 (hf i hil).2.2.2.2.2.2.2.1, fun i hil => wf8 (hf i hil).2.2.2.2.2.2.2.2⟩⟩
    obtain ⟨sp, g0, g1, g2, g3, _⟩ := hf i hil
    exact ⟨ad.block, ad.off, congrArg some sp, World.block_lt_of_cell? w ⟨ad.block, ad.off + i * 4, none⟩ g0, g0, g1, g2, g3⟩
end
end Go.Proofs.Ytoccnaebckcfmaa
end
