/- reader: need, take, token, mark. -/
import Derived.Test.YtjblfemkecmlmaaDoorC2
import Derived.Shelf.Strings.SlTrimAscii
set_option linter.unusedSimpArgs false
set_option linter.unusedVariables false
namespace Go.Proofs.YtjblfemkecmlmaaDoor
open Go.RowKit Go.Shelf

/-- The reader at r: what is left of its text, and whether it is bad. -/
def RS (w : World) (r : Nat) (l : List UInt8) (b : Bool) : Prop := w.heap[r]? = some (.cells #[.string ⟨l.toArray⟩, .bool b] 50)
/-- Only block r has changed. -/
structure Chg (r : Nat) (w w' : World) : Prop where
  below : Below r w w'
  other : ∀ k, k < w.heap.size → k ≠ r → w'.heap[k]? = w.heap[k]?
theorem Chg.refl (r : Nat) (w : World) : Chg r w w := ⟨Below.refl _ _, fun _ _ _ => rfl⟩
theorem Chg.trans {r : Nat} {a b c : World} (h : Chg r a b) (k : Chg r b c) : Chg r a c :=
  ⟨h.below.trans k.below, fun i hi hr => (k.other i (Nat.lt_of_lt_of_le hi h.below.size) hr).trans (h.other i hi hr)⟩
theorem Chg.of_below {r : Nat} {w w' : World} (h : Below w.heap.size w w') (hr : r ≤ w.heap.size) : Chg r w w' := ⟨h.mono hr, fun k hk _ => h.block k hk⟩
theorem RS.below {w w' : World} {r : Nat} {l : List UInt8} {b : Bool} (h : RS w r l b) (hb : Below w.heap.size w w') : RS w' r l b := by
  unfold RS at *
  rw [hb.block r (Array.getElem?_eq_some_iff.1 h).1]
  exact h
theorem RS.lt {w : World} {r : Nat} {l : List UInt8} {b : Bool} (h : RS w r l b) : r < w.heap.size := (Array.getElem?_eq_some_iff.1 h).1
theorem RS.c0 {w : World} {r : Nat} {l : List UInt8} {b : Bool} (h : RS w r l b) : w.cell? ⟨r, 0, none⟩ = some (.string ⟨l.toArray⟩) := by rw [cell_of_row _ _ _ _ _ _ h]; rfl
theorem RS.c1 {w : World} {r : Nat} {l : List UInt8} {b : Bool} (h : RS w r l b) : w.cell? ⟨r, 1, none⟩ = some (.bool b) := by rw [cell_of_row _ _ _ _ _ _ h]; rfl
theorem RS.f0 {w : World} {r : Nat} {l : List UInt8} {b : Bool} (h : RS w r l b) (i : Nat) : w.frozen? ⟨r, i, none⟩ = false := by
  unfold RS at h
  simp [World.frozen?, h]
theorem RS.set0 {w : World} {r : Nat} {l : List UInt8} {b : Bool} (h : RS w r l b) (l' : List UInt8) : RS (w.setCell ⟨r, 0, none⟩ (.string ⟨l'.toArray⟩)) r l' b ∧ Chg r w (w.setCell ⟨r, 0, none⟩ (.string ⟨l'.toArray⟩)) := by
  have e := setCell_eq_setRow w r 0 _ 50 (0, 0) (.string ⟨l'.toArray⟩) h
  rw [e]
  exact ⟨setRow_heap w r _ _ 50 _ h, ⟨rfl, rfl, rfl, by simp [World.setRow], fun k hk => setRow_other w r k _ (by omega)⟩, fun k _ hk => setRow_other w r k _ hk⟩
theorem RS.set1 {w : World} {r : Nat} {l : List UInt8} {b : Bool} (h : RS w r l b) (b' : Bool) : RS (w.setCell ⟨r, 1, none⟩ (.bool b')) r l b' ∧ Chg r w (w.setCell ⟨r, 1, none⟩ (.bool b')) := by
  have e := setCell_eq_setRow w r 1 _ 50 (0, 0) (.bool b') h
  rw [e]
  exact ⟨setRow_heap w r _ _ 50 _ h, ⟨rfl, rfl, rfl, by simp [World.setRow], fun k hk => setRow_other w r k _ (by omega)⟩, fun k _ hk => setRow_other w r k _ hk⟩
theorem str_take (l : List UInt8) (n : Nat) : (⟨l.toArray⟩ : ByteArray).extract 0 n = ⟨(l.take n).toArray⟩ := by
  apply ByteArray.ext
  apply Array.ext'
  simp [ByteArray.data_extract]
theorem str_drop (l : List UInt8) (n : Nat) : (⟨l.toArray⟩ : ByteArray).extract n l.length = ⟨(l.drop n).toArray⟩ := by
  apply ByteArray.ext
  apply Array.ext'
  simp [ByteArray.data_extract]
  rw [List.take_of_length_le (by simp)]

set_option maxHeartbeats 1000000 in
theorem need_any (r : Nat) (l : List UInt8) (b ok : Bool) (w : World) (h : RS w r l b) :
    Calls Tryd.prog 77 #[.pointer (some ⟨r, 0, none⟩), .bool ok] w fun e w' => e = .returned (.tuple #[]) ∧ RS w' r l (b || !ok) ∧ Chg r w w' := by
  have q1 := h.c1
  have f1 := h.f0 1
  cases b
  · cases ok
    · go_enter Tryd.func77, Tryd.ntmps77
      go_wp2
      refine bodyPost_end (results_none rfl _ _ _) rfl ?_
      exact ⟨rfl, (h.set1 true).1, (h.set1 true).2⟩
    · go_enter Tryd.func77, Tryd.ntmps77
      go_wp2
      refine bodyPost_end (results_none rfl _ _ _) rfl ?_
      exact ⟨rfl, (h.set1 false).1, (h.set1 false).2⟩
  · go_enter Tryd.func77, Tryd.ntmps77
    go_wp2
    refine bodyPost_end (results_none rfl _ _ _) rfl ?_
    exact ⟨rfl, (h.set1 true).1, (h.set1 true).2⟩

theorem blB_contains : (fun b : UInt8 => [32, 9].contains b) = blB := by
  funext b
  unfold blB
  simp [List.contains, List.elem]
  cases (b == 32) <;> cases (b == 9) <;> rfl
theorem trimLeft_eq (l : List UInt8) : Lib.trimLeftS l [32, 9] = tL l := by unfold Lib.trimLeftS tL; rw [blB_contains]
theorem trimRight_eq (l : List UInt8) : Lib.trimRightS l [32, 9] = tR l := by unfold Lib.trimRightS tR; rw [blB_contains]
theorem trimS_eq (l : List UInt8) : Lib.trimS l [32, 9] = trm l := by unfold Lib.trimS; rw [trimRight_eq, trimLeft_eq, tL_tR]; rfl
theorem blanks_ascii : ∀ (j : Nat) b, (⟨#[32, 9]⟩ : ByteArray).data.toList[j]? = some b → b.toNat < 128 := ascii_of_all (by decide)
theorem tl_any (l : List UInt8) (w : World) : Calls Tryd.prog 26 #[.string ⟨l.toArray⟩, .string ⟨#[32, 9]⟩] w fun e w' => e = .returned (.string ⟨(tL l).toArray⟩) ∧ Below w.heap.size w w' := by
  have c := Any.strings_TrimLeft_laid Tryd.lays161 (by kernel_rfl) ⟨l.toArray⟩ ⟨#[32, 9]⟩ w (by decide) blanks_ascii
  have e0 : (⟨l.toArray⟩ : ByteArray).data.toList = l := rfl
  have e1 : (⟨#[32, 9]⟩ : ByteArray).data.toList = [32, 9] := rfl
  rw [e0, e1, trimLeft_eq] at c
  exact c
theorem tm_any (l : List UInt8) (hl : l.length ≤ 9223372036854775807) (w : World) : Calls Tryd.prog 18 #[.string ⟨l.toArray⟩, .string ⟨#[32, 9]⟩] w fun e w' => e = .returned (.string ⟨(trm l).toArray⟩) ∧ Below w.heap.size w w' := by
  have c := Any.strings_Trim_laid Tryd.lays160 (by kernel_rfl) ⟨l.toArray⟩ ⟨#[32, 9]⟩ w hl (by decide) blanks_ascii
  have e0 : (⟨l.toArray⟩ : ByteArray).data.toList = l := rfl
  have e1 : (⟨#[32, 9]⟩ : ByteArray).data.toList = [32, 9] := rfl
  rw [e0, e1, trimS_eq] at c
  exact c
theorem RS.chgB {w w' : World} {r : Nat} {l : List UInt8} {b : Bool} (h : RS w r l b) (hb : Below w.heap.size w w') : RS w' r l b ∧ Chg r w w' := ⟨h.below hb, Chg.of_below hb (Nat.le_of_lt h.lt)⟩
set_option maxHeartbeats 1000000 in
theorem take_any (r : Nat) (l : List UInt8) (b : Bool) (n : Nat) (hn : n ≤ l.length) (hl : l.length ≤ 9223372036854775807) (w : World) (h : RS w r l b) :
    Calls Tryd.prog 78 #[.pointer (some ⟨r, 0, none⟩), .int .i64 n] w fun e w' => e = .returned (.string ⟨(l.take n).toArray⟩) ∧ RS w' r (tL (l.drop n)) b ∧ Chg r w w' := by
  have q0 := h.c0
  have f0 := h.f0 0
  have hz : (⟨l.toArray⟩ : ByteArray).size = l.length := rfl
  have c1 := fun w => tl_any (l.drop n) w
  have e1 := str_take l n
  have e2 := str_drop l n
  rw [← hz] at e2 hn hl
  have HH := Lib.hid h
  clear hz h
  generalize (⟨l.toArray⟩ : ByteArray) = sv at *
  generalize (⟨(l.drop n).toArray⟩ : ByteArray) = dv at *
  have h1 : (n : Int) ≤ sv.size := by omega
  go_enter Tryd.func78, Tryd.ntmps78
  go_wp2_with fail
  refine (c1 _).mono ?_; rintro e w1 ⟨rfl, b1⟩
  have h1 := HH.out.chgB b1
  have f1 := h1.1.f0 0
  have q1 := h1.1.c0
  have HS := Lib.hid (h1.1.set0 (tL (l.drop n)))
  have HG := Lib.hid h1.2
  clear h1 b1 c1 q0 f0
  go_wp2_with fail
  go_ret
  exact ⟨rfl, HS.out.1, HG.out.trans HS.out.2⟩
/-- What a method of the reader gives: a text, and the reader behind it. -/
def TPost (r : Nat) (res : List UInt8 × Rd) (w : World) (e : Ending) (w' : World) : Prop := e = .returned (.string ⟨res.1.toArray⟩) ∧ RS w' r res.2.1 res.2.2 ∧ Chg r w w'
set_option maxHeartbeats 1000000 in
theorem token_any (r : Nat) (l : List UInt8) (b : Bool) (hl : l.length ≤ 9223372036854775807) (w : World) (h : RS w r l b) :
    Calls Tryd.prog 53 #[.pointer (some ⟨r, 0, none⟩)] w (TPost r (tkR (l, b)) w) := by
  have q0 := h.c0
  have hz : (⟨l.toArray⟩ : ByteArray).size = l.length := rfl
  have c1 := fun w => count_tk ⟨l.toArray⟩ (by rw [hz]; exact hl) w
  have e0 : (⟨l.toArray⟩ : ByteArray).data.toList = l := rfl
  rw [e0] at c1
  have e3 := take_takeWhile tkB l
  have e4 := drop_takeWhile tkB l
  have hle := len_takeWhile tkB l
  have hemp : (l.takeWhile tkB).isEmpty = !decide (0 < (l.takeWhile tkB).length) := by
    cases l.takeWhile tkB <;> simp <;> omega
  have c3 := fun w b h => take_any r l b (l.takeWhile tkB).length hle hl w h
  rw [e3, e4] at c3
  unfold TPost tkR
  dsimp only
  rw [hemp]
  generalize (l.takeWhile tkB).length = n at *
  generalize (⟨l.toArray⟩ : ByteArray) = sv at *
  clear hz hl hle hemp e0 e3 e4
  go_enter Tryd.func53, Tryd.ntmps53
  go_wp2_with (go_at_call 47; refine (c1 _).mono ?_; rintro e w' ⟨rfl, rfl⟩)
  refine (need_any r l b _ _ h).mono ?_; rintro e w2 ⟨rfl, h2, g2⟩
  have HG := Lib.hid g2
  clear g2 c1 q0 h
  go_wp2_with fail
  refine (c3 _ _ h2).mono ?_; rintro e w3 ⟨rfl, h3, g3⟩
  have HS := Lib.hid h3
  have HG3 := Lib.hid (HG.out.trans g3)
  clear h3 g3 h2 c3
  go_wp2_with fail
  go_ret
  exact ⟨rfl, HS.out, HG3.out⟩
theorem trim_one (c : UInt8) (l : List UInt8) : Lib.hasPrefix l [c] = (l.head? == some c) := by
  unfold Lib.hasPrefix
  cases l with
  | nil => rfl
  | cons x t =>
    by_cases h : x = c
    · subst h; simp
    · have h' : ¬ c = x := fun e => h e.symm
      have h1 : (c == x) = false := by simpa using h'
      have h2 : (x == c) = false := by simpa using h
      simp [h1, h2, List.isPrefixOf]
theorem mkR_yes (c : UInt8) (l : List UInt8) (b : Bool) (h : l.head? = some c) : mkR c (l, b) = (tL (l.drop 1), b) := by
  obtain ⟨t, rfl⟩ := head_cons h
  rw [mkR_cons]; rfl
theorem mkR_no (c : UInt8) (l : List UInt8) (b : Bool) (h : l.head? ≠ some c) : mkR c (l, b) = (l, true) := by
  unfold mkR
  cases l with
  | nil => rfl
  | cons x t => simp at h; simp [h]
set_option maxHeartbeats 1000000 in
theorem mark_any (c : UInt8) (r : Nat) (l : List UInt8) (b : Bool) (hl : l.length ≤ 9223372036854775807) (w : World) (h : RS w r l b) :
    Calls Tryd.prog 54 #[.pointer (some ⟨r, 0, none⟩), .string ⟨#[c]⟩] w fun e w' => e = .returned (.tuple #[]) ∧ RS w' r (mkR c (l, b)).1 (mkR c (l, b)).2 ∧ Chg r w w' := by
  have q0 := h.c0
  have c1 := fun w => Tryd.strings_HasPrefix ⟨l.toArray⟩ ⟨#[c]⟩ w
  have e0 : (⟨l.toArray⟩ : ByteArray).data.toList = l := rfl
  have e1 : (⟨#[c]⟩ : ByteArray).data.toList = [c] := rfl
  rw [e0, e1, trim_one] at c1
  by_cases hc : l.head? = some c
  · rw [mkR_yes c l b hc]
    have hp : (l.head? == some c) = true := by rw [hc]; simp
    have hlen : 1 ≤ l.length := by obtain ⟨t, rfl⟩ := head_cons hc; simp
    rw [hp] at c1
    have c3 := fun w h => take_any r l b 1 hlen hl w h
    clear e0 e1 hp hc
    go_enter Tryd.func54, Tryd.ntmps54
    go_wp2_with (go_at_call 49; refine (c1 _).mono ?_; rintro e w' ⟨rfl, rfl⟩)
    refine (need_any r l b _ _ h).mono ?_; rintro e w2 ⟨rfl, h2, g2⟩
    have e2 : (b || !true) = b := by simp
    rw [e2] at h2
    have HG := Lib.hid g2
    clear g2 c1 q0 h
    go_wp2_with fail
    refine (c3 _ h2).mono ?_; rintro e w3 ⟨rfl, h3, g3⟩
    have HS := Lib.hid h3
    have HG3 := Lib.hid (HG.out.trans g3)
    clear h3 g3 h2 c3
    go_wp2_with fail
    refine bodyPost_end (results_none rfl _ _ _) rfl ?_
    exact ⟨rfl, HS.out, HG3.out⟩
  · rw [mkR_no c l b hc]
    have hp : (l.head? == some c) = false := by simpa using hc
    rw [hp] at c1
    clear e0 e1 hp hc
    go_enter Tryd.func54, Tryd.ntmps54
    go_wp2_with (go_at_call 49; refine (c1 _).mono ?_; rintro e w' ⟨rfl, rfl⟩)
    refine (need_any r l b _ _ h).mono ?_; rintro e w2 ⟨rfl, h2, g2⟩
    have e2 : (b || !false) = true := by simp
    rw [e2] at h2
    have HG := Lib.hid g2
    have HS := Lib.hid h2
    clear g2 c1 q0 h h2
    go_wp2_with fail
    refine bodyPost_end (results_none rfl _ _ _) rfl ?_
    exact ⟨rfl, HS.out, HG.out⟩
end Go.Proofs.YtjblfemkecmlmaaDoor
