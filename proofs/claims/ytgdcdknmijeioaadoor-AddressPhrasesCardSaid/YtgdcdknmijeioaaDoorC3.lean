/- reader: take, need, next, run, blanks. -/
import Derived.Test.YtgdcdknmijeioaaDoorC2
set_option linter.unusedSimpArgs false
set_option linter.unusedVariables false
namespace Go.Proofs.YtgdcdknmijeioaaDoor
open Go.RowKit Go.Shelf

/-- The reader at r: what is left of its text, and whether it is bad. -/
def RS (w : World) (r : Nat) (l : List UInt8) (b : Bool) : Prop := w.heap[r]? = some (.cells #[.string ⟨l.toArray⟩, .bool b] 46)
/-- Only block r has changed. -/
structure Chg (r : Nat) (w w' : World) : Prop where
  below : Below r w w'
  other : ∀ k, k < w.heap.size → k ≠ r → w'.heap[k]? = w.heap[k]?
theorem Chg.refl (r : Nat) (w : World) : Chg r w w := ⟨Below.refl _ _, fun _ _ _ => rfl⟩
theorem Chg.trans {r : Nat} {a b c : World} (h : Chg r a b) (k : Chg r b c) : Chg r a c :=
  ⟨h.below.trans k.below, fun i hi hr => (k.other i (Nat.lt_of_lt_of_le hi h.below.size) hr).trans (h.other i hi hr)⟩
theorem Chg.of_below {r : Nat} {w w' : World} (h : Below w.heap.size w w') (hr : r ≤ w.heap.size) : Chg r w w' := ⟨h.mono hr, fun k hk _ => h.block k hk⟩
theorem RS.below {w w' : World} {r : Nat} {l : List UInt8} {b : Bool} (h : RS w r l b) (hb : Below w.heap.size w w') : RS w' r l b := by
  unfold RS at *
  rw [hb.block r (Array.getElem?_eq_some_iff.1 h).1]
  exact h
theorem RS.lt {w : World} {r : Nat} {l : List UInt8} {b : Bool} (h : RS w r l b) : r < w.heap.size := (Array.getElem?_eq_some_iff.1 h).1
theorem RS.c0 {w : World} {r : Nat} {l : List UInt8} {b : Bool} (h : RS w r l b) : w.cell? ⟨r, 0, none⟩ = some (.string ⟨l.toArray⟩) := by rw [cell_of_row _ _ _ _ _ _ h]; rfl
theorem RS.c1 {w : World} {r : Nat} {l : List UInt8} {b : Bool} (h : RS w r l b) : w.cell? ⟨r, 1, none⟩ = some (.bool b) := by rw [cell_of_row _ _ _ _ _ _ h]; rfl
theorem RS.f0 {w : World} {r : Nat} {l : List UInt8} {b : Bool} (h : RS w r l b) (i : Nat) : w.frozen? ⟨r, i, none⟩ = false := by
  unfold RS at h
  simp [World.frozen?, h]
theorem RS.set0 {w : World} {r : Nat} {l : List UInt8} {b : Bool} (h : RS w r l b) (l' : List UInt8) : RS (w.setCell ⟨r, 0, none⟩ (.string ⟨l'.toArray⟩)) r l' b ∧ Chg r w (w.setCell ⟨r, 0, none⟩ (.string ⟨l'.toArray⟩)) := by
  have e := setCell_eq_setRow w r 0 _ 46 (0, 0) (.string ⟨l'.toArray⟩) h
  rw [e]
  exact ⟨setRow_heap w r _ _ 46 _ h, ⟨rfl, rfl, rfl, by simp [World.setRow], fun k hk => setRow_other w r k _ (by omega)⟩, fun k _ hk => setRow_other w r k _ hk⟩
theorem RS.set1 {w : World} {r : Nat} {l : List UInt8} {b : Bool} (h : RS w r l b) (b' : Bool) : RS (w.setCell ⟨r, 1, none⟩ (.bool b')) r l b' ∧ Chg r w (w.setCell ⟨r, 1, none⟩ (.bool b')) := by
  have e := setCell_eq_setRow w r 1 _ 46 (0, 0) (.bool b') h
  rw [e]
  exact ⟨setRow_heap w r _ _ 46 _ h, ⟨rfl, rfl, rfl, by simp [World.setRow], fun k hk => setRow_other w r k _ (by omega)⟩, fun k _ hk => setRow_other w r k _ hk⟩
theorem str_take (l : List UInt8) (n : Nat) : (⟨l.toArray⟩ : ByteArray).extract 0 n = ⟨(l.take n).toArray⟩ := by
  apply ByteArray.ext
  apply Array.ext'
  simp [ByteArray.data_extract]
theorem str_drop (l : List UInt8) (n : Nat) : (⟨l.toArray⟩ : ByteArray).extract n l.length = ⟨(l.drop n).toArray⟩ := by
  apply ByteArray.ext
  apply Array.ext'
  simp [ByteArray.data_extract]
  rw [List.take_of_length_le (by simp)]

set_option maxHeartbeats 1000000 in
theorem need_any (r : Nat) (l : List UInt8) (b ok : Bool) (w : World) (h : RS w r l b) :
    Calls Tryd.prog 53 #[.pointer (some ⟨r, 0, none⟩), .bool ok] w fun e w' => e = .returned (.tuple #[]) ∧ RS w' r l (b || !ok) ∧ Chg r w w' := by
  have q1 := h.c1
  have f1 := h.f0 1
  cases b
  · cases ok
    · go_enter Tryd.func53, Tryd.ntmps53
      go_wp2
      refine bodyPost_end (results_none rfl _ _ _) rfl ?_
      exact ⟨rfl, (h.set1 true).1, (h.set1 true).2⟩
    · go_enter Tryd.func53, Tryd.ntmps53
      go_wp2
      refine bodyPost_end (results_none rfl _ _ _) rfl ?_
      exact ⟨rfl, (h.set1 false).1, (h.set1 false).2⟩
  · go_enter Tryd.func53, Tryd.ntmps53
    go_wp2
    refine bodyPost_end (results_none rfl _ _ _) rfl ?_
    exact ⟨rfl, (h.set1 true).1, (h.set1 true).2⟩
theorem trim_one (c : UInt8) (l : List UInt8) : Lib.trimPrefix l [c] = (tkm c l).2 ∧ Lib.hasPrefix l [c] = (tkm c l).1 := by
  unfold Lib.trimPrefix Lib.hasPrefix
  cases l with
  | nil => exact ⟨rfl, rfl⟩
  | cons x t =>
    simp only [tkm]
    by_cases h : x = c
    · subst h; simp
    · have h' : ¬ c = x := fun e => h e.symm
      simp [h, h', List.isPrefixOf]
set_option maxHeartbeats 1000000 in
theorem take_any (r : Nat) (c : UInt8) (l : List UInt8) (b : Bool) (w : World) (h : RS w r l b) :
    Calls Tryd.prog 23 #[.pointer (some ⟨r, 0, none⟩), .string ⟨#[c]⟩] w fun e w' => e = .returned (.bool (tkm c l).1) ∧ RS w' r (tkm c l).2 b ∧ Chg r w w' := by
  have q0 := h.c0
  have f0 := h.f0 0
  have c1 := fun w => Tryd.strings_CutPrefix ⟨l.toArray⟩ ⟨#[c]⟩ w
  have e0 : (⟨l.toArray⟩ : ByteArray).data.toList = l := rfl
  have e1 : (⟨#[c]⟩ : ByteArray).data.toList = [c] := rfl
  rw [e0, e1, (trim_one c l).1, (trim_one c l).2] at c1
  clear e0 e1
  go_enter Tryd.func23, Tryd.ntmps23
  go_wp2_with (go_at_call 20; refine (c1 _).mono ?_; rintro e w' ⟨rfl, rfl⟩)
  go_ret
  exact ⟨rfl, (h.set0 _).1, (h.set0 _).2⟩
def nxC : List UInt8 → UInt8 | [] => 0 | c :: _ => c
def nxB (l : List UInt8) (b : Bool) : Bool := match l with | [] => true | _ => b
set_option maxHeartbeats 1000000 in
theorem next_any (r : Nat) (l : List UInt8) (b : Bool) (hl : l.length ≤ 9223372036854775807) (w : World) (h : RS w r l b) :
    Calls Tryd.prog 78 #[.pointer (some ⟨r, 0, none⟩)] w fun e w' => e = .returned (.int .u8 (nxC l).toNat) ∧ RS w' r l.tail (nxB l b) ∧ Chg r w w' := by
  have q0 := h.c0
  have q1 := h.c1
  have f0 := h.f0 0
  have f1 := h.f0 1
  cases l with
  | nil =>
    go_enter Tryd.func78, Tryd.ntmps78
    go_wp2
    go_ret
    exact ⟨rfl, (h.set1 true).1, (h.set1 true).2⟩
  | cons c t =>
    have he : (⟨(c :: t).toArray⟩ : ByteArray).toList.isEmpty = false := by rw [Lib.toList_data]; rfl
    have hz : (⟨(c :: t).toArray⟩ : ByteArray).size = t.length + 1 := by show (c :: t).toArray.size = _; simp
    have hlt : 0 < (⟨(c :: t).toArray⟩ : ByteArray).size := by omega
    have h0 : (⟨(c :: t).toArray⟩ : ByteArray)[0]'hlt = c := rfl
    have hdr := str_drop (c :: t) 1
    have hs := (h.set0 t)
    simp only [List.drop_succ_cons, List.drop_zero, List.length_cons] at hdr
    have hl1 : t.length + 1 ≤ 9223372036854775807 := by simpa using hl
    generalize (⟨(c :: t).toArray⟩ : ByteArray) = sv at *
    go_enter Tryd.func78, Tryd.ntmps78
    go_wp2
    go_ret
    exact ⟨rfl, hs.1, hs.2⟩
set_option maxHeartbeats 1000000 in
theorem run_bl (r : Nat) (l : List UInt8) (b : Bool) (hl : l.length ≤ 9223372036854775807) (w : World) (h : RS w r l b) :
    Calls Tryd.prog 48 #[.pointer (some ⟨r, 0, none⟩), .func (.func 49) #[] #[]] w fun e w' => e = .returned (.string ⟨(l.takeWhile blB).toArray⟩) ∧ RS w' r (l.dropWhile blB) b ∧ Chg r w w' := by
  have q0 := h.c0
  have f0 := h.f0 0
  have hz : (⟨l.toArray⟩ : ByteArray).size = l.length := rfl
  have c1 := fun w => count_bl ⟨l.toArray⟩ (by rw [hz]; exact hl) w
  have e0 : (⟨l.toArray⟩ : ByteArray).data.toList = l := rfl
  rw [e0] at c1
  have e1 := str_take l (l.takeWhile blB).length
  have e2 := str_drop l (l.takeWhile blB).length
  rw [take_takeWhile] at e1
  rw [drop_takeWhile, ← hz] at e2
  have hs := h.set0 (l.dropWhile blB)
  have hle := len_takeWhile blB l
  rw [← hz] at hle
  clear e0 hz
  generalize (⟨l.toArray⟩ : ByteArray) = sv at *
  generalize (l.takeWhile blB).length = n at *
  have h1 : (n : Int) ≤ sv.size := by omega
  go_enter Tryd.func48, Tryd.ntmps48
  go_wp2_with (go_at_call 41; refine (c1 _).mono ?_; rintro e w' ⟨rfl, rfl⟩)
  go_ret
  exact ⟨rfl, hs.1, hs.2⟩
set_option maxHeartbeats 1000000 in
theorem run_wb (r : Nat) (l : List UInt8) (b : Bool) (hl : l.length ≤ 9223372036854775807) (w : World) (h : RS w r l b) :
    Calls Tryd.prog 48 #[.pointer (some ⟨r, 0, none⟩), .func (.func 51) #[] #[]] w fun e w' => e = .returned (.string ⟨(l.takeWhile wbB).toArray⟩) ∧ RS w' r (l.dropWhile wbB) b ∧ Chg r w w' := by
  have q0 := h.c0
  have f0 := h.f0 0
  have hz : (⟨l.toArray⟩ : ByteArray).size = l.length := rfl
  have c1 := fun w => count_wb ⟨l.toArray⟩ (by rw [hz]; exact hl) w
  have e0 : (⟨l.toArray⟩ : ByteArray).data.toList = l := rfl
  rw [e0] at c1
  have e1 := str_take l (l.takeWhile wbB).length
  have e2 := str_drop l (l.takeWhile wbB).length
  rw [take_takeWhile] at e1
  rw [drop_takeWhile, ← hz] at e2
  have hs := h.set0 (l.dropWhile wbB)
  have hle := len_takeWhile wbB l
  rw [← hz] at hle
  clear e0 hz
  generalize (⟨l.toArray⟩ : ByteArray) = sv at *
  generalize (l.takeWhile wbB).length = n at *
  have h1 : (n : Int) ≤ sv.size := by omega
  go_enter Tryd.func48, Tryd.ntmps48
  go_wp2_with (go_at_call 41; refine (c1 _).mono ?_; rintro e w' ⟨rfl, rfl⟩)
  go_ret
  exact ⟨rfl, hs.1, hs.2⟩
set_option maxHeartbeats 1000000 in
theorem run_ad (r : Nat) (l : List UInt8) (b : Bool) (hl : l.length ≤ 9223372036854775807) (w : World) (h : RS w r l b) :
    Calls Tryd.prog 48 #[.pointer (some ⟨r, 0, none⟩), .func (.func 52) #[] #[]] w fun e w' => e = .returned (.string ⟨(l.takeWhile adB).toArray⟩) ∧ RS w' r (l.dropWhile adB) b ∧ Chg r w w' := by
  have q0 := h.c0
  have f0 := h.f0 0
  have hz : (⟨l.toArray⟩ : ByteArray).size = l.length := rfl
  have c1 := fun w => count_ad ⟨l.toArray⟩ (by rw [hz]; exact hl) w
  have e0 : (⟨l.toArray⟩ : ByteArray).data.toList = l := rfl
  rw [e0] at c1
  have e1 := str_take l (l.takeWhile adB).length
  have e2 := str_drop l (l.takeWhile adB).length
  rw [take_takeWhile] at e1
  rw [drop_takeWhile, ← hz] at e2
  have hs := h.set0 (l.dropWhile adB)
  have hle := len_takeWhile adB l
  rw [← hz] at hle
  clear e0 hz
  generalize (⟨l.toArray⟩ : ByteArray) = sv at *
  generalize (l.takeWhile adB).length = n at *
  have h1 : (n : Int) ≤ sv.size := by omega
  go_enter Tryd.func48, Tryd.ntmps48
  go_wp2_with (go_at_call 41; refine (c1 _).mono ?_; rintro e w' ⟨rfl, rfl⟩)
  go_ret
  exact ⟨rfl, hs.1, hs.2⟩
set_option maxHeartbeats 1000000 in
theorem blanks_any (r : Nat) (l : List UInt8) (b : Bool) (hl : l.length ≤ 9223372036854775807) (w : World) (h : RS w r l b) :
    Calls Tryd.prog 33 #[.pointer (some ⟨r, 0, none⟩)] w fun e w' => e = .returned (.tuple #[]) ∧ RS w' r (l.dropWhile blB) b ∧ Chg r w w' := by
  go_enter Tryd.func33, Tryd.ntmps33
  go_wp2_with (go_at_call 48; refine (run_bl r l b hl _ h).mono ?_; rintro e w' ⟨rfl, h1, g1⟩)
  refine bodyPost_end (results_none rfl _ _ _) rfl ?_
  exact ⟨rfl, h1, g1⟩
set_option maxHeartbeats 1000000 in
theorem plain_any (r : Nat) (l : List UInt8) (b : Bool) (hl : l.length ≤ 9223372036854775807) (w : World) (h : RS w r l b) :
    Calls Tryd.prog 71 #[.pointer (some ⟨r, 0, none⟩)] w fun e w' => e = .returned (.string ⟨(l.takeWhile wbB).toArray⟩) ∧ RS w' r (l.dropWhile wbB) b ∧ Chg r w w' := by
  go_enter Tryd.func71, Tryd.ntmps71
  go_wp2_with (go_at_call 48; refine (run_wb r l b hl _ h).mono ?_; rintro e w' ⟨rfl, h1, g1⟩)
  go_ret
  exact ⟨rfl, h1, g1⟩
end Go.Proofs.YtgdcdknmijeioaaDoor
