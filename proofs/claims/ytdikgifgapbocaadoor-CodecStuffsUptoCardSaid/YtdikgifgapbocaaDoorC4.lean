/- codec.Encode64. -/
import Derived.Test.YtdikgifgapbocaaDoorC3
set_option linter.unusedSimpArgs false
set_option linter.unusedVariables false
namespace Go.Proofs.YtdikgifgapbocaaDoor
open Go.RowKit Go.Shelf

/-- A slice of these bytes, older than w. -/
def Bs (w : World) (a : Option Addr) (l : List UInt8) : Prop := ∀ j c, l[j]? = some c → ∃ b off, a = some ⟨b, off, none⟩ ∧ b < w.heap.size ∧ w.cell? ⟨b, off + j, none⟩ = some (.int .u8 c.toNat)
def slLen : Value → Nat
  | .slice _ n _ => n
  | _ => 0
theorem Bs.below {w w' : World} {a : Option Addr} {l : List UInt8} (h : Bs w a l) (hb : Below w.heap.size w w') : Bs w' a l := fun j c hj => by
  obtain ⟨b, off, e, h1, h2⟩ := h j c hj
  exact ⟨b, off, e, Nat.lt_of_lt_of_le h1 hb.size, by rw [hb.cell (p := ⟨b, off + j, none⟩) h1]; exact h2⟩
theorem Bs.open {w : World} {a : Option Addr} {c : UInt8} {t : List UInt8} (h : Bs w a (c :: t)) : ∃ b off, a = some ⟨b, off, none⟩ ∧ b < w.heap.size ∧ ∀ j x, (c :: t)[j]? = some x → w.cell? ⟨b, off + j, none⟩ = some (.int .u8 x.toNat) := by
  obtain ⟨b, off, rfl, hb, _⟩ := h 0 c rfl
  refine ⟨b, off, rfl, hb, fun j x hj => ?_⟩
  obtain ⟨b', off', e, _, h'⟩ := h j x hj
  cases e
  exact h'
theorem enc_three (a b c : UInt8) (t : List UInt8) : enc (a :: b :: c :: t) = [lt (a.toNat / 4), lt (a.toNat % 4 * 16 + b.toNat / 16), lt (b.toNat % 16 * 4 + c.toNat / 64), lt (c.toNat % 64)] ++ enc t := rfl

theorem isB_below {B b : Nat} {bs : List Value} {w w' : World} (h : Lib.IsBuilderF 42 5 B b bs w) (hb : Below w.heap.size w w') : Lib.IsBuilderF 42 5 B b bs w' := by
  have key : ∀ p, Lib.BuilderAtF 42 5 B b p bs w → Lib.BuilderAtF 42 5 B b p bs w' := by
    rintro p ⟨hB, v, hbk, hown, hne⟩
    have hlt : ∀ {k : Nat} {o}, w.heap[k]? = some o → w'.heap[k]? = some o := fun {k o} hk => by
      rw [hb.block k (Array.getElem?_eq_some_iff.1 hk).1]; exact hk
    refine ⟨hB, v, hlt hbk, ⟨hown.1, ?_⟩, hne⟩
    rcases hown.2 with hn | ⟨g, cap, cur, fz, e1, e2, e3, rest⟩
    · exact .inl hn
    · exact .inr ⟨g, cap, cur, fz, e1, e2, hlt e3, rest⟩
  exact h.elim (fun x => .inl (key _ x)) (fun x => .inr (key _ x))
theorem slice_eq {a : Option Addr} {n n' c : Nat} (h : n = n') : Value.slice a n c = Value.slice a n' c := by rw [h]
theorem bs_rest {w : World} {b off cap : Nat} {p t : List UInt8} (h : Bs w (some ⟨b, off, none⟩) (p ++ t)) (k : Nat) (hk : p.length = k) (hc : (p ++ t).length ≤ cap) : Bs w (if cap = k then some ⟨b, off, none⟩ else some ⟨b, off + k, none⟩) t := by
  intro j c hj
  have hj' := (List.getElem?_eq_some_iff.1 hj).1
  obtain ⟨b', off', e, h1, h2⟩ := h (k + j) c (by rw [List.getElem?_append_right (by omega)]; rw [← hj]; congr 1; omega)
  cases e
  rw [List.length_append] at hc
  rw [if_neg (by omega)]
  exact ⟨b, off + k, rfl, h1, by rw [← h2]; congr 2; omega⟩
/-- What a round hands on. -/
structure EncIn (w wr : World) (acc : List UInt8) : Prop where
  bld : Lib.IsBuilderF 42 5 w.heap.size w.heap.size (Lib.byteCells acc) wr
  bel : Below w.heap.size w wr
set_option maxHeartbeats 1000000 in
theorem bwrite4 (w w1 : World) (acc : List UInt8) (c0 c1 c2 c3 : UInt8) (hI : Lib.IsBuilderF 42 5 w.heap.size w.heap.size (Lib.byteCells acc) w1) (hbw : Below w.heap.size w w1) (hacc : acc.length ≤ 40000000) :
    Calls Tryd.prog 29 #[.pointer (some ⟨w.heap.size, 0, none⟩), .slice (some ⟨w1.heap.size, 0, none⟩) 4 4] (w1.alloc (.cells #[.int .u8 c0.toNat, .int .u8 c1.toNat, .int .u8 c2.toNat, .int .u8 c3.toNat] 43)) fun e w' =>
      e = .returned (.tuple #[.int .i64 4, .nilIface]) ∧ EncIn w w' (acc ++ [c0, c1, c2, c3]) := by
  have hlt : w.heap.size < w1.heap.size := hI.elim (fun h => h.lt) (fun h => h.lt)
  have hq := heap_alloc_new w1 (.cells #[Value.int .u8 c0.toNat, .int .u8 c1.toNat, .int .u8 c2.toNat, .int .u8 c3.toNat] 43)
  refine (bwrite w.heap.size w.heap.size (Lib.byteCells acc) w1.heap.size 0 4 4 [.int .u8 c0.toNat, .int .u8 c1.toNat, .int .u8 c2.toNat, .int .u8 c3.toNat] _ (hI.alloc _) rfl ⟨_, _, _, hq, by decide, by omega⟩ ?_ ?_ (by rw [Lib.byteCells_length]; omega) (by simp; omega)).mono ?_
  · intro j u hj
    rw [Lib.cell_of_heap hq]
    match j, hj with
    | 0, hj => simp at hj; subst hj; rfl
    | 1, hj => simp at hj; subst hj; rfl
    | 2, hj => simp at hj; subst hj; rfl
    | 3, hj => simp at hj; subst hj; rfl
  · intro u hu
    simp only [List.mem_cons, List.not_mem_nil, or_false] at hu
    rcases hu with rfl | rfl | rfl | rfl <;> rfl
  · rintro e w' ⟨rfl, h1, h2, _⟩
    refine ⟨rfl, ⟨.inr ?_, (hbw.alloc (by omega) _).trans h2⟩⟩
    have : Lib.byteCells (acc ++ [c0, c1, c2, c3]) = Lib.byteCells acc ++ [.int .u8 c0.toNat, .int .u8 c1.toNat, .int .u8 c2.toNat, .int .u8 c3.toNat] := by rw [Lib.byteCells_append]; rfl
    rw [this]
    exact h1
set_option maxHeartbeats 4000000 in
set_option maxRecDepth 1000000 in
theorem encode_any (a : Option Addr) (cap : Nat) (l : List UInt8) (w : World) (hc : l.length ≤ cap) (hm : cap ≤ maxLen) (hl : l.length ≤ 8388608) (hB : Bs w a l) :
    Calls Tryd.prog 11 #[.slice a l.length cap] w fun e w' => e = .returned (.string ⟨(enc l).toArray⟩) ∧ Below w.heap.size w w' := by
  unfold maxLen at hm
  go_enter Tryd.func11, Tryd.ntmps11
  go_wp2
  go_loopw [0] (fun v wr => ∃ (a' : Option Addr) (cap' : Nat) (r acc : List UInt8), v = .slice a' r.length cap' ∧ r.length ≤ cap' ∧ cap' ≤ 9223372036854775807 ∧ Bs w a' r ∧ EncIn w wr acc ∧ acc ++ enc r = enc l ∧ r.length ≤ 8388608 ∧ acc.length ≤ 40000000 - 4 * r.length) (fun v wr => slLen v)
  case atStart =>
    refine ⟨a, cap, l, [], rfl, hc, hm, hB, ⟨Lib.IsBuilderF.of (Lib.fresh_isBuilder 42 5 w), (Below.refl _ w).alloc (Nat.le_refl _) _⟩, rfl, hl, by simp⟩
  case round =>
    obtain ⟨a', cap', r, acc, rfl, h1, h2, hB', ⟨hI, hbw⟩, hacc, h3, h4⟩ := hrel
    have hIl : w.heap.size < wr.heap.size := hI.elim (fun h => h.lt) (fun h => h.lt)
    match r, h1, hB', hacc, h3, h4 with
    | [], h1, hB', hacc, h3, h4 =>
      have hacc' := hacc
      simp only [enc, List.append_nil] at hacc'
      have HA := Lib.hid hacc'
      clear hacc hacc'
      go_wp2_with (go_at_call 30; refine (Tryd.Builder_String_any_k w.heap.size w.heap.size acc _ hI (by omega)).mono ?_)
      rintro e W1 ⟨rfl, _, b1, _⟩
      go_wp2
      go_ret
      exact ⟨by rw [← HA.out]; rfl, hbw.trans b1⟩
    | [x], h1, hB', hacc, h3, h4 =>
      replace hacc : acc ++ ([lt (x.toNat / 4), lt (x.toNat % 4 * 16), 61, 61] ++ enc []) = enc l := hacc
      have HA := Lib.hid hacc
      clear hacc
      obtain ⟨b, off, rfl, hb, hcell⟩ := hB'.open
      have hbr : b < wr.heap.size := Nat.lt_of_lt_of_le hb hbw.size
      have hcw : ∀ j x', [x][j]? = some x' → wr.cell? ⟨b, off + j, none⟩ = some (.int .u8 x'.toNat) := fun j x' hj => by rw [hbw.cell (p := ⟨b, off + j, none⟩) hb]; exact hcell j x' hj
      have k0 := hcw 0 x rfl
      have HB := Lib.hid hB'
      clear hB' hcell hcw
      have hmin : min (1 : Int) 3 = 1 := by decide
      have h1' : 1 ≤ cap' := h1
      go_wp2_with (go_at_call 28; refine (group1 b off _ x wr hbr k0).mono ?_; (intro e w1 hh); (obtain ⟨rfl, hb1⟩ := hh); have hh : Hid True := Lib.hid trivial)
      have hI1 := isB_below hI hb1
      have hbw1 : Below w.heap.size w w1 := hbw.trans (hb1.mono (by omega))
      have hlt1 : wr.heap.size ≤ w1.heap.size := hb1.size
      generalize lt (x.toNat / 4) = c0 at HA ⊢
      generalize lt (x.toNat % 4 * 16) = c1 at HA ⊢
      clear hb1
      go_wp2_with (go_at_call 29; refine (bwrite4 w w1 acc c0 c1 61 61 hI1 hbw1 (by omega)).mono ?_)
      rintro e w2 ⟨rfl, hE⟩
      go_wp2
      have hlen : [x].length = 1 := rfl
      refine ⟨⟨_, _, [], acc ++ [c0, c1, 61, 61], slice_eq (by rfl), ?_, by omega, bs_rest HB.out 1 (p := [x]) rfl (by have := hlen; simp only [List.length_append, List.length_cons, List.length_nil] at this ⊢; omega), hE, by rw [List.append_assoc]; exact HA.out, ?_, ?_⟩, ?_⟩
      · simp
      · simp
      · simp only [List.length_append, List.length_cons, List.length_nil] at *; omega
      · simp only [slLen]; omega
    | [x, y], h1, hB', hacc, h3, h4 =>
      replace hacc : acc ++ ([lt (x.toNat / 4), lt (x.toNat % 4 * 16 + y.toNat / 16), lt (y.toNat % 16 * 4), 61] ++ enc []) = enc l := hacc
      have HA := Lib.hid hacc
      clear hacc
      obtain ⟨b, off, rfl, hb, hcell⟩ := hB'.open
      have hbr : b < wr.heap.size := Nat.lt_of_lt_of_le hb hbw.size
      have hcw : ∀ j x', [x, y][j]? = some x' → wr.cell? ⟨b, off + j, none⟩ = some (.int .u8 x'.toNat) := fun j x' hj => by rw [hbw.cell (p := ⟨b, off + j, none⟩) hb]; exact hcell j x' hj
      have k0 := hcw 0 x rfl
      have k1 := hcw 1 y rfl
      have HB := Lib.hid hB'
      clear hB' hcell hcw
      have hmin : min (2 : Int) 3 = 2 := by decide
      have h1' : 2 ≤ cap' := h1
      go_wp2_with (go_at_call 28; refine (group2 b off _ x y wr hbr k0 k1).mono ?_; (intro e w1 hh); (obtain ⟨rfl, hb1⟩ := hh); have hh : Hid True := Lib.hid trivial)
      have hI1 := isB_below hI hb1
      have hbw1 : Below w.heap.size w w1 := hbw.trans (hb1.mono (by omega))
      have hlt1 : wr.heap.size ≤ w1.heap.size := hb1.size
      generalize lt (x.toNat / 4) = c0 at HA ⊢
      generalize lt (x.toNat % 4 * 16 + y.toNat / 16) = c1 at HA ⊢
      generalize lt (y.toNat % 16 * 4) = c2 at HA ⊢
      clear hb1
      go_wp2_with (go_at_call 29; refine (bwrite4 w w1 acc c0 c1 c2 61 hI1 hbw1 (by omega)).mono ?_)
      rintro e w2 ⟨rfl, hE⟩
      go_wp2
      have hlen : [x, y].length = 2 := rfl
      refine ⟨⟨_, _, [], acc ++ [c0, c1, c2, 61], slice_eq (by rfl), ?_, by omega, bs_rest HB.out 2 (p := [x, y]) rfl (by have := hlen; simp only [List.length_append, List.length_cons, List.length_nil] at this ⊢; omega), hE, by rw [List.append_assoc]; exact HA.out, ?_, ?_⟩, ?_⟩
      · simp
      · simp
      · simp only [List.length_append, List.length_cons, List.length_nil] at *; omega
      · simp only [slLen]; omega
    | x :: y :: z :: t, h1, hB', hacc, h3, h4 =>
      rw [enc_three] at hacc
      have HA := Lib.hid hacc
      clear hacc
      obtain ⟨b, off, rfl, hb, hcell⟩ := hB'.open
      have hbr : b < wr.heap.size := Nat.lt_of_lt_of_le hb hbw.size
      have hcw : ∀ j x', (x :: y :: z :: t)[j]? = some x' → wr.cell? ⟨b, off + j, none⟩ = some (.int .u8 x'.toNat) := fun j x' hj => by rw [hbw.cell (p := ⟨b, off + j, none⟩) hb]; exact hcell j x' hj
      have k0 := hcw 0 x rfl
      have k1 := hcw 1 y rfl
      have k2 := hcw 2 z rfl
      have hmin : min (((x :: y :: z :: t).length : Nat) : Int) 3 = 3 := by simp only [List.length_cons]; omega
      have HB := Lib.hid hB'
      clear hB' hcell hcw
      generalize hlen : (x :: y :: z :: t).length = m at *
      have h5 : 3 ≤ m := by rw [← hlen]; simp only [List.length_cons]; omega
      have HL := Lib.hid hlen
      clear hlen
      go_wp2_with (go_at_call 28; refine (group3 b off _ x y z wr hbr k0 k1 k2).mono ?_; (intro e w1 hh); (obtain ⟨rfl, hb1⟩ := hh); have hh : Hid True := Lib.hid trivial)
      have hI1 := isB_below hI hb1
      have hbw1 : Below w.heap.size w w1 := hbw.trans (hb1.mono (by omega))
      have hlt1 : wr.heap.size ≤ w1.heap.size := hb1.size
      generalize lt (x.toNat / 4) = c0 at HA ⊢
      generalize lt (x.toNat % 4 * 16 + y.toNat / 16) = c1 at HA ⊢
      generalize lt (y.toNat % 16 * 4 + z.toNat / 64) = c2 at HA ⊢
      generalize lt (z.toNat % 64) = c3 at HA ⊢
      clear hb1
      go_wp2_with (go_at_call 29; refine (bwrite4 w w1 acc c0 c1 c2 c3 hI1 hbw1 (by omega)).mono ?_)
      rintro e w2 ⟨rfl, hE⟩
      go_wp2
      have hlen : (x :: y :: z :: t).length = m := HL.out
      refine ⟨⟨_, _, t, acc ++ [c0, c1, c2, c3], slice_eq (by simp only [List.length_cons] at hlen; omega), ?_, by omega, bs_rest HB.out 3 (p := [x, y, z]) rfl (by have := hlen; simp only [List.length_append, List.length_cons, List.length_nil] at this ⊢; omega), hE, by rw [List.append_assoc]; exact HA.out, ?_, ?_⟩, ?_⟩
      · simp only [List.length_cons] at hlen; omega
      · simp only [List.length_cons] at hlen; omega
      · simp only [List.length_cons] at hlen; simp only [List.length_append, List.length_cons, List.length_nil]; omega
      · simp only [slLen]; omega
end Go.Proofs.YtdikgifgapbocaaDoor
