/- firstLine, nameSize, beginsBlank. -/
import Derived.Test.YtjblfemkecmlmaaDoorC10
import Derived.Test.YtjblfemkecmlmaaDoorQ4
import Derived.Lib.SlBytesConst
set_option linter.unusedSimpArgs false
set_option linter.unusedVariables false
namespace Go.Proofs.YtjblfemkecmlmaaDoor
open Go.RowKit Go.Shelf

/-- Bytes at a place. -/
structure BP (w : World) (b off : Nat) (l : List UInt8) : Prop where
  lt : b < w.heap.size
  cell : ∀ (j : Nat) (c : UInt8), l[j]? = some c → w.cell? ⟨b, off + j, none⟩ = some (.int .u8 c.toNat)
theorem BP.below {w w' : World} {b off : Nat} {l : List UInt8} (h : BP w b off l) (hb : Below w.heap.size w w') : BP w' b off l :=
  ⟨Nat.lt_of_lt_of_le h.lt hb.size, fun j c hj => by rw [hb.cell (p := ⟨b, off + j, none⟩) h.lt]; exact h.cell j c hj⟩
theorem BP.belowB {w w' : World} {B b off : Nat} {l : List UInt8} (h : BP w b off l) (hb : Below B w w') (hB : b < B) : BP w' b off l :=
  ⟨Nat.lt_of_lt_of_le h.lt hb.size, fun j c hj => by rw [hb.cell (p := ⟨b, off + j, none⟩) hB]; exact h.cell j c hj⟩
theorem BP.bs {w : World} {b off : Nat} {l : List UInt8} (h : BP w b off l) : Bs w (some ⟨b, off, none⟩) l := fun j c hj => ⟨b, off, rfl, h.lt, h.cell j c hj⟩
theorem BP.drop {w : World} {b off : Nat} {l : List UInt8} (h : BP w b off l) (k : Nat) : BP w b (off + k) (l.drop k) :=
  ⟨h.lt, fun j c hj => by rw [Nat.add_assoc]; exact h.cell _ c (by rw [← List.getElem?_drop]; exact hj)⟩
theorem BP.take {w : World} {b off : Nat} {l : List UInt8} (h : BP w b off l) (k : Nat) : BP w b off (l.take k) :=
  ⟨h.lt, fun j c hj => h.cell j c (by
    rw [List.getElem?_take] at hj
    split at hj
    · exact hj
    · cases hj)⟩
theorem nums_get (l : List UInt8) (i : Nat) (c : UInt8) (h : l[i]? = some c) : (nums l).getD i 0 = (c.toNat : Int) := by
  unfold nums
  rw [List.getD_eq_getElem?_getD, List.getElem?_map, h]
  rfl
theorem nums_range (l : List UInt8) : ∀ x ∈ nums l, 0 ≤ x ∧ x < 256 := by
  intro x hx
  unfold nums at hx
  obtain ⟨c, _, rfl⟩ := List.mem_map.1 hx
  have := c.toNat_lt
  omega
theorem bytesOf_nums (l : List UInt8) : Lib.bytesOf (nums l) = l := by
  unfold Lib.bytesOf nums
  rw [List.map_map]
  conv => rhs; rw [← List.map_id l]
  apply List.map_congr_left
  intro c _
  simp
/-- The library's variable is there. -/
def Max (w : World) : Prop := ∃ m, w.cell? ⟨0, 0, none⟩ = some (.int .i64 m)
theorem Max.below {w w' : World} (h : Max w) (hb : Below w.heap.size w w') : Max w' := by
  obtain ⟨m, hm⟩ := h
  exact ⟨m, by rw [hb.cell (p := ⟨0, 0, none⟩) (World.block_lt_of_cell? w _ hm)]; exact hm⟩
theorem Max.lt {w : World} (h : Max w) : 0 < w.heap.size := by
  obtain ⟨m, hm⟩ := h
  exact World.block_lt_of_cell? w _ hm
theorem Max.belowB {w w' : World} {B : Nat} (h : Max w) (hb : Below B w w') (hB : 0 < B) : Max w' := by
  obtain ⟨m, hm⟩ := h
  exact ⟨m, by rw [hb.cell (p := ⟨0, 0, none⟩) hB]; exact hm⟩
theorem below_dN {B : Nat} {a w : World} (h : Below B a w) (n : Nat) : Below B a (w.drewN n) := h.trans ⟨rfl, rfl, rfl, Nat.le_refl _, fun _ _ => rfl⟩
set_option maxHeartbeats 2000000 in
set_option maxRecDepth 100000 in
theorem firstLine_any (l : List UInt8) (b off n cap : Nat) (hn : l.length = n) (hl : n ≤ 2147483648) (hcap : n ≤ cap) (hc2 : cap ≤ 9223372036854775807) (w : World) (hM : Max w) (h : BP w b off l) :
    Calls Tryd.prog 19 #[.slice (some ⟨b, off, none⟩) n cap] w fun e w' => e = .returned (.string ⟨(lnL l).toArray⟩) ∧ Below w.heap.size w w' := by
  have b1 : Below w.heap.size w (w.alloc (.cells #[.int .u8 13, .int .u8 10] 5 (2, 3))) := (Below.refl _ _).alloc (Nat.le_refl _) _
  have r1 := heap_alloc_new w (.cells #[.int .u8 13, .int .u8 10] 5 (2, 3))
  obtain ⟨m, hm⟩ := hM.below b1
  have H1 := h.below b1
  have c1 := Tryd.bytes_Index_at ⟨b, off, none⟩ ⟨w.heap.size, 0, none⟩ n cap 2 2 (nums l) [13, 10] m (w.alloc (.cells #[.int .u8 13, .int .u8 10] 5 (2, 3))) (by unfold nums; simpa using hn) rfl (nums_range l) (by decide) (fun i hi => by
      have hi' : i < l.length := by omega
      have he : l[i]? = some l[i] := List.getElem?_eq_getElem hi'
      have hadd : (⟨b, off, none⟩ : Addr).add i = ⟨b, off + i, none⟩ := by unfold Addr.add; split <;> simp_all
      rw [nums_get l i _ he, hadd]
      exact H1.cell i _ he) (fun i hi => by
      have hadd : (⟨w.heap.size, 0, none⟩ : Addr).add i = ⟨w.heap.size, i, none⟩ := by unfold Addr.add; split <;> simp_all
      rw [hadd, cell_of_row _ _ _ _ _ _ r1]
      match i, hi with
      | 0, _ => rfl
      | 1, _ => rfl) hcap (by omega) (by omega) hm
  rw [bytesOf_nums, show Lib.bytesOf [13, 10] = [13, 10] from rfl, index_lb] at c1
  have hcv : (convert 22 22 (.slice (some ⟨w.heap.size, 0, none⟩) 2 2)).run Tryd.prog (w.alloc (.cells #[.int .u8 13, .int .u8 10] 5)) = .ok (.slice (some ⟨w.heap.size, 0, none⟩) 2 2) (w.alloc (.cells #[.int .u8 13, .int .u8 10] 5 (2, 3))) := Lib.run_convert_bytes_const (P := Tryd.prog) w 22 5 #[.int .u8 13, .int .u8 10] 2 2 Tryd.underlying22 Tryd.underlying5
  clear hm r1 hM
  cases hb : (lb l).2
  · rw [hb, if_neg (by decide)] at c1
    rw [ln_whole hb]
    clear hb h
    go_enter Tryd.func19, Tryd.ntmps19
    go_wp2_with fail
    refine c1.mono ?_; rintro e w2 ⟨rfl, q, rfl⟩
    have b2 := below_dN b1 q
    have hs := bs_string' (w := (w.alloc (.cells #[.int .u8 13, .int .u8 10] 5 (2, 3))).drewN q) cap (H1.below (below_dN (Below.refl _ _) q)).bs hn
    have B2 := Lib.hid b2
    clear c1 b2 b1 H1
    generalize (w.alloc (.cells #[.int .u8 13, .int .u8 10] 5 (2, 3))).drewN q = w2 at *
    go_wp2_with fail
    go_ret
    exact ⟨rfl, B2.out⟩
  · rw [hb, if_pos rfl] at c1
    obtain ⟨e1, e2⟩ := ln_take hb
    have hx : (lb l).1.length + 2 ≤ cap := by omega
    have hx2 : (lb l).1.length + 2 ≤ 2147483648 := by omega
    rw [← e1]
    have hlt : (l.take ((lb l).1.length + 2)).length = (lb l).1.length + 2 := by rw [List.length_take]; omega
    have HT := H1.take ((lb l).1.length + 2)
    generalize l.take ((lb l).1.length + 2) = lt at *
    generalize (lb l).1.length = x at *
    have hx3 : ((x : Int) + 2) ≤ cap := by omega
    clear hb h e1 e2
    go_enter Tryd.func19, Tryd.ntmps19
    go_wp2_with fail
    refine c1.mono ?_; rintro e w2 ⟨rfl, q, rfl⟩
    have b2 := below_dN b1 q
    have hs := bs_string' (w := (w.alloc (.cells #[.int .u8 13, .int .u8 10] 5 (2, 3))).drewN q) cap (HT.below (below_dN (Below.refl _ _) q)).bs hlt
    have B2 := Lib.hid b2
    have hlt' := Lib.hid hlt
    clear c1 b2 b1 H1 HT hlt
    generalize (w.alloc (.cells #[.int .u8 13, .int .u8 10] 5 (2, 3))).drewN q = w2 at *
    go_wp2_with fail
    go_ret
    exact ⟨rfl, B2.out⟩
set_option maxHeartbeats 1000000 in
theorem nameSize_any (x : List UInt8) (hx : x.length ≤ 9223372036854775807) (w : World) :
    Calls Tryd.prog 20 #[.string ⟨x.toArray⟩] w fun e w' => e = .returned (.int .i64 (nsz x)) ∧ w' = w := by
  have hz : (⟨x.toArray⟩ : ByteArray).size = x.length := rfl
  have c1 := fun w => count_nm ⟨x.toArray⟩ (by rw [hz]; exact hx) w
  have e0 : (⟨x.toArray⟩ : ByteArray).data.toList = x := rfl
  rw [e0] at c1
  have hle := len_takeWhile nmB x
  have e2 := str_drop x (x.takeWhile nmB).length
  have c2 := fun w => Tryd.strings_HasPrefix ⟨(x.drop (x.takeWhile nmB).length).toArray⟩ ⟨#[58]⟩ w
  have e3 : (⟨(x.drop (x.takeWhile nmB).length).toArray⟩ : ByteArray).data.toList = x.drop (x.takeWhile nmB).length := rfl
  have e4 : (⟨#[58]⟩ : ByteArray).data.toList = [58] := rfl
  rw [e3, e4, trim_one, List.head?_drop] at c2
  unfold nsz
  generalize (x.takeWhile nmB).length = n at *
  rw [← hz] at e2 hle hx
  clear e0 e3 e4 hz
  by_cases h : x[n]? = some 58
  · rw [if_pos h]
    have hp : (x[n]? == some 58) = true := by rw [h]; rfl
    rw [hp] at c2
    clear h hp
    generalize (⟨x.toArray⟩ : ByteArray) = sv at *
    generalize (⟨(x.drop n).toArray⟩ : ByteArray) = dv at *
    have h1 : (n : Int) ≤ sv.size := by omega
    go_enter Tryd.func20, Tryd.ntmps20
    go_wp2_with (first | (go_at_call 47; refine (c1 _).mono ?_; rintro e w' ⟨rfl, rfl⟩) | (go_at_call 49; refine (c2 _).mono ?_; rintro e w' ⟨rfl, rfl⟩))
    go_ret
    exact ⟨rfl, rfl⟩
  · rw [if_neg h]
    have hp : (x[n]? == some 58) = false := by simpa using h
    rw [hp] at c2
    clear h hp
    generalize (⟨x.toArray⟩ : ByteArray) = sv at *
    generalize (⟨(x.drop n).toArray⟩ : ByteArray) = dv at *
    have h1 : (n : Int) ≤ sv.size := by omega
    go_enter Tryd.func20, Tryd.ntmps20
    go_wp2_with (first | (go_at_call 47; refine (c1 _).mono ?_; rintro e w' ⟨rfl, rfl⟩) | (go_at_call 49; refine (c2 _).mono ?_; rintro e w' ⟨rfl, rfl⟩))
    go_ret
    exact ⟨rfl, rfl⟩
theorem blank_index (c : UInt8) : blB c = decide (0 ≤ Lib.indexByte [32, 9] c) := by
  have h := contains_index c [32, 9]
  have h2 := congrFun blB_contains c
  rw [Bool.eq_iff_iff, decide_eq_true_eq, h, ← h2]
set_option maxHeartbeats 1000000 in
theorem beginsBlank_any (x : List UInt8) (hx : x.length ≤ 9223372036854775807) (w : World) :
    Calls Tryd.prog 21 #[.string ⟨x.toArray⟩] w fun e w' => e = .returned (.bool (x.head?.map blB == some true)) ∧ w' = w := by
  cases x with
  | nil =>
    go_enter Tryd.func21, Tryd.ntmps21
    go_wp2
    go_ret
    exact ⟨rfl, rfl⟩
  | cons c t =>
    have he : (⟨(c :: t).toArray⟩ : ByteArray).toList.isEmpty = false := by rw [Lib.toList_data]; rfl
    have hz : (⟨(c :: t).toArray⟩ : ByteArray).size = t.length + 1 := by show (c :: t).toArray.size = _; simp
    have hlt : 0 < (⟨(c :: t).toArray⟩ : ByteArray).size := by omega
    have h0 : (⟨(c :: t).toArray⟩ : ByteArray)[0]'hlt = c := rfl
    have c2 := fun w => Tryd.strings_IndexByte ⟨#[32, 9]⟩ c.toNat w
    rw [toU8] at c2
    have hm : (⟨#[32, 9]⟩ : ByteArray).data.toList = [32, 9] := rfl
    rw [hm] at c2
    have hb : ((c :: t).head?.map blB == some true) = decide (0 ≤ Lib.indexByte [32, 9] c) := by
      rw [← blank_index]
      simp
    rw [hb]
    have hcb := c.toNat_lt
    clear hm hb hx hz
    generalize Lib.indexByte [32, 9] c = ix at *
    generalize (⟨(c :: t).toArray⟩ : ByteArray) = sv at *
    go_enter Tryd.func21, Tryd.ntmps21
    go_wp2_with (go_at_call 50; refine (c2 _).mono ?_; rintro e w' ⟨rfl, rfl⟩)
    go_ret
    exact ⟨rfl, rfl⟩
end Go.Proofs.YtjblfemkecmlmaaDoor
