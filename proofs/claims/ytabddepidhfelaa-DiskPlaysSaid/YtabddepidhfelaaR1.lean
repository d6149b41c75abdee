/- The document's own disk in memory: its six cells, the rows behind them; what its small calls do. -/
import Derived.Test.YtabddepidhfelaaInv
import Derived.Laws.MakeOwn
set_option linter.unusedSimpArgs false
namespace Go.Proofs.Ytabddepidhfelaa
open Go.RowKit

structure RS where
  n : Nat
  B : Int → Option (Array Value)
  L : List (Int × Array Value)
  off : Bool
  burns : Bool
  left : Int
  N : Int

/-- A slice of 64 equal bytes. -/
def BytesIs (w : World) (G : List Nat) (sv : Value) (v : Array Value) : Prop :=
  ∃ g cap c, sv = .slice (some ⟨g, 0, none⟩) 64 cap ∧ g ∈ G ∧ v = fullA c ∧ ∀ j, j < 64 → w.cell? ⟨g, j, none⟩ = some (.int .u8 c)
def SecIs (w : World) (G : List Nat) (sv : Value) (o : Option (Array Value)) : Prop := (o = none ∧ sv = .slice none 0 0) ∨ ∃ v, o = some v ∧ BytesIs w G sv v
def BAt (w : World) (G : List Nat) (bv : Value) (n : Nat) (B : Int → Option (Array Value)) : Prop :=
  ∃ g cap, bv = .slice (some ⟨g, 0, none⟩) n cap ∧ g ∈ G ∧ ∀ i : Nat, i < n → ∃ sv, w.cell? ⟨g, i, none⟩ = some sv ∧ SecIs w G sv (B i)
def PutIs (w : World) (G : List Nat) (g k : Nat) (p : Int × Array Value) : Prop :=
  w.cell? ⟨g, k * 2, none⟩ = some (.int .i64 p.1) ∧ ∃ sv, w.cell? ⟨g, k * 2 + 1, none⟩ = some sv ∧ BytesIs w G sv p.2
def LAt (w : World) (G : List Nat) (lv : Value) (L : List (Int × Array Value)) : Prop :=
  (lv = .slice none 0 0 ∧ L = []) ∨ ∃ g cap, lv = .slice (some ⟨g, 0, none⟩) L.length cap ∧ g ∈ G ∧ ∀ k p, L[k]? = some p → PutIs w G g k p

structure ROk (R : RS) : Prop where
  n1 : 1 ≤ R.n
  n2 : R.n ≤ 8192
  at' : ∀ p ∈ R.L, 0 ≤ p.1 ∧ p.1 < R.n
  left0 : R.burns = true → 0 ≤ R.left ∧ R.left ≤ 9223372036854775807
  N0 : 0 ≤ R.N

def rrow (R : RS) (bv lv : Value) : Array Value := #[bv, lv, .bool R.off, .bool R.burns, .int .i64 R.left, .int .i64 R.N]

structure RefAt (w : World) (r : Nat) (bv lv : Value) (G : List Nat) (R : RS) : Prop where
  row : w.heap[r]? = some (.cells (rrow R bv lv) 62 (0, 0))
  b : BAt w G bv R.n R.B
  l : LAt w G lv R.L
  out : r ∉ G
  lt : ∀ x ∈ G, x < w.heap.size
  ok : ROk R
def RAt (w : World) (r : Nat) (G : List Nat) (R : RS) : Prop := ∃ bv lv, RefAt w r bv lv G R
def RPost (w w' : World) (r : Nat) (G : List Nat) (R' : RS) : Prop := ∃ G', RAt w' r G' R' ∧ (∀ x ∈ G, x ∈ G') ∧ (∀ x ∈ G', x ∈ G ∨ w.heap.size ≤ x) ∧ Only [r] w w'

section
variable {w w' : World} {G G' : List Nat}
theorem BytesIs.to {sv : Value} {v : Array Value} (h : BytesIs w G sv v) (he : ∀ x ∈ G, w'.heap[x]? = w.heap[x]?) (hG : ∀ x ∈ G, x ∈ G') : BytesIs w' G' sv v := by
  obtain ⟨g, cap, c, h1, h2, h3, h4⟩ := h
  exact ⟨g, cap, c, h1, hG g h2, h3, fun j hj => (World.cell?_of_block (w := w) (he g h2)).trans (h4 j hj)⟩
theorem SecIs.to {sv : Value} {o : Option (Array Value)} (h : SecIs w G sv o) (he : ∀ x ∈ G, w'.heap[x]? = w.heap[x]?) (hG : ∀ x ∈ G, x ∈ G') : SecIs w' G' sv o := by
  rcases h with h | ⟨v, h1, h2⟩
  · exact .inl h
  · exact .inr ⟨v, h1, h2.to he hG⟩
theorem BAt.to {bv : Value} {n : Nat} {B : Int → Option (Array Value)} (h : BAt w G bv n B) (he : ∀ x ∈ G, w'.heap[x]? = w.heap[x]?) (hG : ∀ x ∈ G, x ∈ G') : BAt w' G' bv n B := by
  obtain ⟨g, cap, h1, h2, h3⟩ := h
  refine ⟨g, cap, h1, hG g h2, fun i hi => ?_⟩
  obtain ⟨sv, h4, h5⟩ := h3 i hi
  exact ⟨sv, (World.cell?_of_block (w := w) (he g h2)).trans h4, h5.to he hG⟩
theorem PutIs.to {g k : Nat} {p : Int × Array Value} (h : PutIs w G g k p) (hg : g ∈ G) (he : ∀ x ∈ G, w'.heap[x]? = w.heap[x]?) (hG : ∀ x ∈ G, x ∈ G') : PutIs w' G' g k p := by
  obtain ⟨h1, sv, h2, h3⟩ := h
  exact ⟨(World.cell?_of_block (w := w) (he g hg)).trans h1, sv, (World.cell?_of_block (w := w) (he g hg)).trans h2, h3.to he hG⟩
theorem LAt.to {lv : Value} {L : List (Int × Array Value)} (h : LAt w G lv L) (he : ∀ x ∈ G, w'.heap[x]? = w.heap[x]?) (hG : ∀ x ∈ G, x ∈ G') : LAt w' G' lv L := by
  rcases h with h | ⟨g, cap, h1, h2, h3⟩
  · exact .inl h
  · exact .inr ⟨g, cap, h1, hG g h2, fun k p hp => (h3 k p hp).to h2 he hG⟩
theorem lt_of_same {x : Nat} (h : x < w.heap.size) (he : w'.heap[x]? = w.heap[x]?) : x < w'.heap.size := by
  rw [Array.getElem?_eq_getElem h] at he
  exact (Array.getElem?_eq_some_iff.1 he).1
theorem RAt.to {r : Nat} {R : RS} (h : RAt w r G R) (he : ∀ x ∈ r :: G, w'.heap[x]? = w.heap[x]?) (hG : ∀ x ∈ G, x ∈ G') (hr : r ∉ G') (hl : ∀ x ∈ G', x < w'.heap.size) : RAt w' r G' R := by
  obtain ⟨bv, lv, h⟩ := h
  exact ⟨bv, lv, (he r (by simp)).trans h.row, h.b.to (fun x hx => he x (by simp [hx])) hG, h.l.to (fun x hx => he x (by simp [hx])) hG, hr, hl, h.ok⟩
theorem RAt.congr {r : Nat} {R : RS} (h : RAt w r G R) (he : ∀ x ∈ r :: G, w'.heap[x]? = w.heap[x]?) : RAt w' r G R := by
  obtain ⟨bv, lv, h'⟩ := h
  exact RAt.to ⟨bv, lv, h'⟩ he (fun x hx => hx) h'.out (fun x hx => lt_of_same (h'.lt x hx) (he x (by simp [hx])))
theorem RAt.lt {r : Nat} {R : RS} (h : RAt w r G R) : ∀ x ∈ r :: G, x < w.heap.size := by
  obtain ⟨bv, lv, h⟩ := h
  intro x hx
  rcases List.mem_cons.1 hx with rfl | hx
  · exact (Array.getElem?_eq_some_iff.1 h.row).1
  · exact h.lt x hx

/-- The six cells, for a walk. -/
theorem RefAt.cells {r : Nat} {bv lv : Value} {R : RS} (h : RefAt w r bv lv G R) :
    w.cell? ⟨r, 0, none⟩ = some bv ∧ w.cell? ⟨r, 1, none⟩ = some lv ∧ w.cell? ⟨r, 2, none⟩ = some (.bool R.off) ∧ w.cell? ⟨r, 3, none⟩ = some (.bool R.burns) ∧
    w.cell? ⟨r, 4, none⟩ = some (.int .i64 R.left) ∧ w.cell? ⟨r, 5, none⟩ = some (.int .i64 R.N) ∧ (∀ i, w.frozen? ⟨r, i, none⟩ = false) := by
  have hr := h.row
  refine ⟨?_, ?_, ?_, ?_, ?_, ?_, ?_⟩
  all_goals first
    | (rw [cell_of_row w r _ _ _ _ hr]; rfl)
    | (intro i; simp [World.frozen?, hr])

/-- Only numbers and flags have changed. -/
theorem RefAt.scalar {r : Nat} {bv lv : Value} {R R' : RS} (h : RefAt w r bv lv G R) (hrow : w'.heap[r]? = some (.cells (rrow R' bv lv) 62 (0, 0))) (ho : Only [r] w w') (e0 : R'.n = R.n) (e1 : R'.B = R.B) (e2 : R'.L = R.L) (ok : ROk R') : RPost w w' r G R' := by
  have he : ∀ x ∈ G, w'.heap[x]? = w.heap[x]? := fun x hx => ho.block x (h.lt x hx) (fun hx' => h.out (by simp at hx'; subst hx'; exact hx))
  refine ⟨G, ⟨bv, lv, hrow, ?_, ?_, h.out, fun x hx => Nat.lt_of_lt_of_le (h.lt x hx) ho.size, ok⟩, fun x hx => hx, fun x hx => .inl hx, ho⟩
  · rw [e0, e1]; exact h.b.to he (fun x hx => hx)
  · rw [e2]; exact h.l.to he (fun x hx => hx)
end

def RS.stepped (R : RS) : RS := { R with left := if R.burns then R.left - 1 else R.left, N := R.N + 1 }
def RS.fallen (R : RS) : RS := { R with off := true, burns := false }
def RS.falls (R : RS) : Prop := R.burns = true ∧ R.left = 0

set_option maxHeartbeats 400000 in
theorem rstep_zero {w : World} {r : Nat} {G : List Nat} {R : RS} (h : RAt w r G R) (hf : R.falls) :
    Calls Try.prog 34 #[.pointer (some ⟨r, 0, none⟩)] w fun e w' => e = .returned (.bool false) ∧ RPost w w' r G R.fallen := by
  obtain ⟨bv, lv, h⟩ := h
  obtain ⟨c0, c1, c2, c3, c4, c5, fz⟩ := h.cells
  rw [hf.1] at c3
  rw [hf.2] at c4
  have H := Lib.hid h
  clear h hf
  go_enter Try.func34, Try.ntmps34
  go_wp2
  go_ret
  have h := H.out
  have ho : Only [r] w ((w.setCell ⟨r, 2, none⟩ (.bool true)).setCell ⟨r, 3, none⟩ (.bool false)) := ((Only.refl _ w).setCell (by simp) _).setCell (by simp) _
  refine ⟨rfl, h.scalar (R' := R.fallen) ?_ ho rfl rfl rfl ⟨h.ok.n1, h.ok.n2, h.ok.at', by simp [RS.fallen], h.ok.N0⟩⟩
  rw [heap_setCell_row (heap_setCell_row h.row _ _)]
  rfl

set_option maxHeartbeats 400000 in
theorem rstep_ok {w : World} {r : Nat} {G : List Nat} {R : RS} (h : RAt w r G R) (hf : ¬ R.falls) (hs : R.N < 1000000000) :
    Calls Try.prog 34 #[.pointer (some ⟨r, 0, none⟩)] w fun e w' => e = .returned (.bool true) ∧ RPost w w' r G R.stepped := by
  obtain ⟨bv, lv, h⟩ := h
  obtain ⟨c0, c1, c2, c3, c4, c5, fz⟩ := h.cells
  have N0 := h.ok.N0
  have l0 := h.ok.left0
  have H := Lib.hid h
  clear h
  cases hb : R.burns with
  | true =>
    rw [hb] at c3
    have hl : ¬ R.left = 0 := fun e => hf ⟨hb, e⟩
    obtain ⟨l1, l2⟩ := l0 hb
    have hz : (R.left == 0) = false := by simpa using hl
    have HB := Lib.hid hb
    clear hf hb
    go_enter Try.func34, Try.ntmps34
    go_wp2
    go_ret
    have h := H.out
    have ho : Only [r] w ((w.setCell ⟨r, 4, none⟩ (.int .i64 (R.left - 1))).setCell ⟨r, 5, none⟩ (.int .i64 (R.N + 1))) := ((Only.refl _ w).setCell (by simp) _).setCell (by simp) _
    refine ⟨rfl, h.scalar (R' := R.stepped) ?_ ho rfl rfl rfl ⟨h.ok.n1, h.ok.n2, h.ok.at', ?_, ?_⟩⟩
    · rw [heap_setCell_row (heap_setCell_row h.row _ _)]
      simp only [rrow, RS.stepped, HB.out, if_true]
      rfl
    · intro _
      simp only [RS.stepped, HB.out, if_true]
      omega
    · simp only [RS.stepped]; omega
  | false =>
    rw [hb] at c3
    have HB := Lib.hid hb
    clear hf hb l0
    go_enter Try.func34, Try.ntmps34
    go_wp2
    go_ret
    have h := H.out
    have ho : Only [r] w (w.setCell ⟨r, 5, none⟩ (.int .i64 (R.N + 1))) := (Only.refl _ w).setCell (by simp) _
    refine ⟨rfl, h.scalar (R' := R.stepped) ?_ ho rfl rfl rfl ⟨h.ok.n1, h.ok.n2, h.ok.at', ?_, ?_⟩⟩
    · rw [heap_setCell_row h.row _ _]
      simp only [rrow, RS.stepped, HB.out, Bool.false_eq_true, if_false]
      rfl
    · intro hb'
      simp only [RS.stepped, HB.out] at hb'
      cases hb'
    · simp only [RS.stepped]; omega

def RS.fused (R : RS) (n : Int) : RS := if R.off then R else { R with burns := decide (0 ≤ n), left := n }

set_option maxHeartbeats 400000 in
theorem rfuse_any {w : World} {r : Nat} {G : List Nat} {R : RS} (h : RAt w r G R) (n : Int) (hn : n ≤ 9223372036854775807) :
    Calls Try.prog 22 #[.pointer (some ⟨r, 0, none⟩), .int .i64 n] w fun e w' => e = .returned (.tuple #[]) ∧ RPost w w' r G (R.fused n) := by
  obtain ⟨bv, lv, h⟩ := h
  obtain ⟨c0, c1, c2, c3, c4, c5, fz⟩ := h.cells
  have H := Lib.hid h
  clear h
  cases hb : R.off with
  | true =>
    rw [hb] at c2
    have HB := Lib.hid hb
    clear hb
    go_enter Try.func22, Try.ntmps22
    go_wp2
    go_end0
    have h := H.out
    refine ⟨rfl, ?_⟩
    rw [show R.fused n = R by simp [RS.fused, HB.out]]
    exact h.scalar h.row (Only.refl _ w) rfl rfl rfl h.ok
  | false =>
    rw [hb] at c2
    have HB := Lib.hid hb
    clear hb
    by_cases hp : 0 ≤ n
    · go_enter Try.func22, Try.ntmps22
      go_wp2
      go_end0
      have h := H.out
      have e : R.fused n = { R with burns := true, left := n } := by simp [RS.fused, HB.out, hp]
      have ho : Only [r] w ((w.setCell ⟨r, 3, none⟩ (.bool true)).setCell ⟨r, 4, none⟩ (.int .i64 n)) := ((Only.refl _ w).setCell (by simp) _).setCell (by simp) _
      rw [e]
      refine ⟨rfl, h.scalar ?_ ho rfl rfl rfl ⟨h.ok.n1, h.ok.n2, h.ok.at', fun _ => ⟨hp, hn⟩, h.ok.N0⟩⟩
      rw [heap_setCell_row (heap_setCell_row h.row _ _)]
      rfl
    · go_enter Try.func22, Try.ntmps22
      go_wp2
      go_end0
      have h := H.out
      have hp' : ¬ 0 ≤ n := by omega
      have e : R.fused n = { R with burns := false, left := n } := by simp [RS.fused, HB.out, hp']
      have ho : Only [r] w ((w.setCell ⟨r, 3, none⟩ (.bool false)).setCell ⟨r, 4, none⟩ (.int .i64 n)) := ((Only.refl _ w).setCell (by simp) _).setCell (by simp) _
      rw [e]
      refine ⟨rfl, h.scalar ?_ ho rfl rfl rfl ⟨h.ok.n1, h.ok.n2, h.ok.at', (fun hb => by cases hb), h.ok.N0⟩⟩
      rw [heap_setCell_row (heap_setCell_row h.row _ _)]
      rfl

set_option maxHeartbeats 400000 in
theorem rclone_any {w : World} {r : Nat} {G : List Nat} {R : RS} (h : RAt w r G R) :
    Calls Try.prog 13 #[.pointer (some ⟨r, 0, none⟩)] w fun e w' => e = .returned (.pointer (some ⟨w.heap.size, 0, none⟩)) ∧ RAt w' w.heap.size G R ∧ Only [] w w' := by
  obtain ⟨bv, lv, h⟩ := h
  obtain ⟨c0, c1, c2, c3, c4, c5, fz⟩ := h.cells
  have hr : r < w.heap.size := (Array.getElem?_eq_some_iff.1 h.row).1
  have H := Lib.hid h
  obtain ⟨g, cap, rfl, _⟩ := h.b
  obtain ⟨a, cap', rfl⟩ : ∃ a cap, lv = .slice a R.L.length cap := by
    rcases h.l with ⟨h1, h2⟩ | ⟨g, cap, h1, _⟩
    · exact ⟨none, 0, by rw [h1, h2]; rfl⟩
    · exact ⟨_, _, h1⟩
  clear h
  go_enter Try.func13, Try.ntmps13
  go_wp2
  go_ret
  have h := H.out
  have ho : Only [] w (w.alloc (.cells (rrow R (.slice (some ⟨g, 0, none⟩) R.n cap) (.slice a R.L.length cap')) 62)) := (Only.refl [] w).alloc _
  have he : ∀ x ∈ G, (w.alloc (.cells (rrow R (.slice (some ⟨g, 0, none⟩) R.n cap) (.slice a R.L.length cap')) 62)).heap[x]? = w.heap[x]? := fun x hx => ho.block x (h.lt x hx) (by simp)
  exact ⟨rfl, ⟨_, _, heap_alloc_last w _, h.b.to he (fun x hx => hx), h.l.to he (fun x hx => hx), fun hx => by have := h.lt _ hx; omega, fun x hx => Nat.lt_of_lt_of_le (h.lt x hx) ho.size, h.ok⟩, ho⟩

theorem info37 : (Try.prog.info? 37).map (fun i => (i.zero, i.size, i.bytes)) = some (some (.slice none 0 0), 1, 24) := by kernel_rfl

def RS.new (n : Nat) : RS := ⟨n, fun _ => none, [], false, false, 0, 0⟩

set_option maxHeartbeats 400000 in
theorem rnew_no (w : World) (n : Int) (h : n < 1 ∨ 8192 < n) :
    Calls Try.prog 11 #[.int .i64 n] w fun e w' => e = .returned (.tuple #[.pointer none, .int .i64 1]) ∧ w = w' := by
  rcases h with h | h
  · go_enter Try.func11, Try.ntmps11
    go_wp2
    go_ret2
    exact ⟨rfl, rfl⟩
  · have h' : ¬ n < 1 := by omega
    go_enter Try.func11, Try.ntmps11
    go_wp2
    go_ret2
    exact ⟨rfl, rfl⟩

theorem make59 (n : Nat) (h2 : n ≤ 8192) (w : World) : (Instr.makeSlice 59 (.int .i64 n) (.int .i64 n)).run Try.prog w = .ok (.slice (some ⟨w.heap.size, 0, none⟩) n n) (w.alloc (.cells (madeCells #[.slice none 0 0] n) 37)) := by
  obtain ⟨i0, hi, hz0, hz1, hz2⟩ := info_parts info37
  have := run_makeSlice (P := Try.prog) w 59 37 i0 _ Try.underlying59 hi hz0 .i64 .i64 n n (by omega) (Int.le_refl _) (by rw [hz1, Int.toNat_natCast]; omega) (by rw [hz2]; omega) (by omega)
  rw [hz1, Int.toNat_natCast, Nat.mul_one] at this
  exact this

set_option maxHeartbeats 400000 in
theorem rnew_ok (w : World) (n : Nat) (h1 : 1 ≤ n) (h2 : n ≤ 8192) :
    Calls Try.prog 11 #[.int .i64 n] w fun e w' => e = .returned (.tuple #[.pointer (some ⟨w.heap.size + 1, 0, none⟩), .int .i64 0]) ∧ RAt w' (w.heap.size + 1) [w.heap.size] (RS.new n) ∧ Only [] w w' := by
  have hmk := make59 n h2
  have H1 := Lib.hid h1
  go_enter Try.func11, Try.ntmps11
  go_wp2
  go_ret2
  have ho : Only [] w ((w.alloc (.cells (madeCells #[.slice none 0 0] n) 37)).alloc (.cells (rrow (RS.new n) (.slice (some ⟨w.heap.size, 0, none⟩) n n) (.slice none 0 0)) 62)) := ((Only.refl [] w).alloc _).alloc _
  have hrow := heap_alloc_last (w.alloc (.cells (madeCells #[.slice none 0 0] n) 37)) (.cells (rrow (RS.new n) (.slice (some ⟨w.heap.size, 0, none⟩) n n) (.slice none 0 0)) 62)
  rw [World.size_alloc] at hrow
  have hb := (Below.heap_alloc _ (.cells (rrow (RS.new n) (.slice (some ⟨w.heap.size, 0, none⟩) n n) (.slice none 0 0)) 62) w.heap.size (by simp)).trans (heap_alloc_last w (.cells (madeCells #[.slice none 0 0] n) 37))
  refine ⟨rfl, ⟨_, _, hrow, ⟨_, _, rfl, by simp, fun i hi => ⟨.slice none 0 0, ?_, .inl ⟨rfl, rfl⟩⟩⟩, .inl ⟨rfl, rfl⟩, by simp, by simp; omega, ⟨H1.out, h2, by simp [RS.new], by simp [RS.new], by simp [RS.new]⟩⟩, ho⟩
  refine (cell_of_row _ _ _ _ _ _ hb).trans ?_
  simp only [RS.new] at hi
  simp [madeCells, hi, Nat.mod_one]

end Go.Proofs.Ytabddepidhfelaa
