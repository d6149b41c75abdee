/- reader: take, need, mark. -/
import Derived.Test.YtjbojboiagbofaaDoorC20
set_option linter.unusedSimpArgs false
set_option linter.unusedVariables false
namespace Go.Proofs.YtjbojboiagbofaaDoor
open Go.RowKit Go.Shelf

/-- The reader at r: what is left of its text, and whether it is bad. -/
def RS (w : World) (r : Nat) (l : List UInt8) (b : Bool) : Prop := w.heap[r]? = some (.cells #[.string ⟨l.toArray⟩, .bool b] 49)
/-- Only block r has changed. -/
structure Chg (r : Nat) (w w' : World) : Prop where
  below : Below r w w'
  other : ∀ k, k < w.heap.size → k ≠ r → w'.heap[k]? = w.heap[k]?
theorem Chg.refl (r : Nat) (w : World) : Chg r w w := ⟨Below.refl _ _, fun _ _ _ => rfl⟩
theorem Chg.trans {r : Nat} {a b c : World} (h : Chg r a b) (k : Chg r b c) : Chg r a c :=
  ⟨h.below.trans k.below, fun i hi hr => (k.other i (Nat.lt_of_lt_of_le hi h.below.size) hr).trans (h.other i hi hr)⟩
theorem Chg.of_below {r : Nat} {w w' : World} (h : Below w.heap.size w w') (hr : r ≤ w.heap.size) : Chg r w w' := ⟨h.mono hr, fun k hk _ => h.block k hk⟩
theorem RS.below {w w' : World} {r : Nat} {l : List UInt8} {b : Bool} (h : RS w r l b) (hb : Below w.heap.size w w') : RS w' r l b := by
  unfold RS at *
  rw [hb.block r (Array.getElem?_eq_some_iff.1 h).1]
  exact h
theorem RS.lt {w : World} {r : Nat} {l : List UInt8} {b : Bool} (h : RS w r l b) : r < w.heap.size := (Array.getElem?_eq_some_iff.1 h).1
theorem RS.c0 {w : World} {r : Nat} {l : List UInt8} {b : Bool} (h : RS w r l b) : w.cell? ⟨r, 0, none⟩ = some (.string ⟨l.toArray⟩) := by rw [cell_of_row _ _ _ _ _ _ h]; rfl
theorem RS.c1 {w : World} {r : Nat} {l : List UInt8} {b : Bool} (h : RS w r l b) : w.cell? ⟨r, 1, none⟩ = some (.bool b) := by rw [cell_of_row _ _ _ _ _ _ h]; rfl
theorem RS.f0 {w : World} {r : Nat} {l : List UInt8} {b : Bool} (h : RS w r l b) (i : Nat) : w.frozen? ⟨r, i, none⟩ = false := by
  unfold RS at h
  simp [World.frozen?, h]
theorem RS.set0 {w : World} {r : Nat} {l : List UInt8} {b : Bool} (h : RS w r l b) (l' : List UInt8) : RS (w.setCell ⟨r, 0, none⟩ (.string ⟨l'.toArray⟩)) r l' b ∧ Chg r w (w.setCell ⟨r, 0, none⟩ (.string ⟨l'.toArray⟩)) := by
  have e := setCell_eq_setRow w r 0 _ 49 (0, 0) (.string ⟨l'.toArray⟩) h
  rw [e]
  exact ⟨setRow_heap w r _ _ 49 _ h, ⟨rfl, rfl, rfl, by simp [World.setRow], fun k hk => setRow_other w r k _ (by omega)⟩, fun k _ hk => setRow_other w r k _ hk⟩
theorem RS.set1 {w : World} {r : Nat} {l : List UInt8} {b : Bool} (h : RS w r l b) (b' : Bool) : RS (w.setCell ⟨r, 1, none⟩ (.bool b')) r l b' ∧ Chg r w (w.setCell ⟨r, 1, none⟩ (.bool b')) := by
  have e := setCell_eq_setRow w r 1 _ 49 (0, 0) (.bool b') h
  rw [e]
  exact ⟨setRow_heap w r _ _ 49 _ h, ⟨rfl, rfl, rfl, by simp [World.setRow], fun k hk => setRow_other w r k _ (by omega)⟩, fun k _ hk => setRow_other w r k _ hk⟩
theorem str_take (l : List UInt8) (n : Nat) : (⟨l.toArray⟩ : ByteArray).extract 0 n = ⟨(l.take n).toArray⟩ := by
  apply ByteArray.ext
  apply Array.ext'
  simp [ByteArray.data_extract]
theorem str_drop (l : List UInt8) (n : Nat) : (⟨l.toArray⟩ : ByteArray).extract n l.length = ⟨(l.drop n).toArray⟩ := by
  apply ByteArray.ext
  apply Array.ext'
  simp [ByteArray.data_extract]
  rw [List.take_of_length_le (by simp)]
def tkS (n : Nat) (l : List UInt8) : List UInt8 := if l.length < n then [] else l.take n
def tkR (n : Nat) (l : List UInt8) : List UInt8 := if l.length < n then l else l.drop n
def tkB (n : Nat) (l : List UInt8) (b : Bool) : Bool := if l.length < n then true else b
set_option maxHeartbeats 1000000 in
theorem take_any (r n : Nat) (l : List UInt8) (b : Bool) (hn : n ≤ 100) (hl : l.length ≤ 9223372036854775807) (w : World) (h : RS w r l b) :
    Calls Tryd.prog 48 #[.pointer (some ⟨r, 0, none⟩), .int .i64 n] w fun e w' => e = .returned (.string ⟨(tkS n l).toArray⟩) ∧ RS w' r (tkR n l) (tkB n l b) ∧ Chg r w w' := by
  have q0 := h.c0
  have q1 := h.c1
  have f0 := h.f0 0
  have f1 := h.f0 1
  have hz : (⟨l.toArray⟩ : ByteArray).size = l.length := rfl
  by_cases hlt : l.length < n
  · have h1 : (l.length : Int) < n := by omega
    go_enter Tryd.func48, Tryd.ntmps48
    go_wp2
    go_ret
    refine ⟨?_, ?_, (h.set1 true).2⟩
    · unfold tkS; rw [if_pos hlt]; rfl
    · unfold tkR tkB; rw [if_pos hlt, if_pos hlt]; exact (h.set1 true).1
  · have h1 : ¬ (l.length : Int) < n := by omega
    go_enter Tryd.func48, Tryd.ntmps48
    go_wp2
    go_ret
    have e1 := str_take l n
    have e2 := str_drop l n
    refine ⟨?_, ?_, ?_⟩
    · unfold tkS; rw [if_neg hlt, ← e1]; rfl
    · unfold tkR tkB; rw [if_neg hlt, if_neg hlt, e2]; exact (h.set0 _).1
    · rw [e2]; exact (h.set0 _).2
set_option maxHeartbeats 1000000 in
theorem need_any (r : Nat) (l : List UInt8) (b ok : Bool) (w : World) (h : RS w r l b) :
    Calls Tryd.prog 49 #[.pointer (some ⟨r, 0, none⟩), .bool ok] w fun e w' => e = .returned (.tuple #[]) ∧ RS w' r l (b || !ok) ∧ Chg r w w' := by
  have q1 := h.c1
  have f1 := h.f0 1
  cases ok
  · go_enter Tryd.func49, Tryd.ntmps49
    go_wp2
    refine bodyPost_end (results_none rfl _ _ _) rfl ?_
    refine ⟨rfl, ?_, (h.set1 true).2⟩
    simpa using (h.set1 true).1
  · go_enter Tryd.func49, Tryd.ntmps49
    go_wp2
    refine bodyPost_end (results_none rfl _ _ _) rfl ?_
    exact ⟨rfl, by simpa using h, Chg.refl _ _⟩
theorem tkS_len (n : Nat) (l : List UInt8) : (tkS n l).length ≤ n := by
  unfold tkS
  split
  · exact Nat.zero_le _
  · simp; omega
theorem tkR_len (n : Nat) (l : List UInt8) : (tkR n l).length ≤ l.length := by
  unfold tkR
  split
  · exact Nat.le_refl _
  · simp
def mkB (x : List UInt8) (l : List UInt8) (b : Bool) : Bool := tkB x.length l b || !(tkS x.length l == x)
set_option maxHeartbeats 1000000 in
theorem mark_any (r : Nat) (x : List UInt8) (l : List UInt8) (b : Bool) (hx : x.length ≤ 100) (hl : l.length ≤ 9223372036854775807) (w : World) (h : RS w r l b) :
    Calls Tryd.prog 45 #[.pointer (some ⟨r, 0, none⟩), .string ⟨x.toArray⟩] w fun e w' => e = .returned (.tuple #[]) ∧ RS w' r (tkR x.length l) (mkB x l b) ∧ Chg r w w' := by
  have c1 := fun w h => take_any r x.length l b hx hl w h
  have hz : (⟨x.toArray⟩ : ByteArray).size = x.length := rfl
  go_enter Tryd.func45, Tryd.ntmps45
  go_wp2_with fail
  refine (c1 _ h).mono ?_; rintro e w1 ⟨rfl, h1, g1⟩
  go_wp2_with fail
  refine (need_any r _ _ _ w1 h1).mono ?_; rintro e w2 ⟨rfl, h2, g2⟩
  go_wp2_with fail
  refine bodyPost_end (results_none rfl _ _ _) rfl ?_
  exact ⟨rfl, h2, g1.trans g2⟩
end Go.Proofs.YtjbojboiagbofaaDoor
