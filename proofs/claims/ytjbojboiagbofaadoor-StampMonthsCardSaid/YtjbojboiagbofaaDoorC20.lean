/- codec.Number. -/
import Derived.Test.YtjbojboiagbofaaDoorC19
import Derived.Lib.OthersKept
import Derived.Lib.Strings
set_option linter.unusedSimpArgs false
set_option linter.unusedVariables false
namespace Go.Proofs.YtjbojboiagbofaaDoor
open Go.RowKit Go.Shelf

theorem drop_at (s : ByteArray) (pos : Nat) (h : pos < s.size) : s.data.toList.drop pos = s[pos]'h :: s.data.toList.drop (pos + 1) := by
  rw [List.drop_eq_getElem_cons (by simpa using h)]; rfl
/-- The digits' number, n ahead of them. -/
def dg : List UInt8 → Nat → Option Nat
  | [], n => some n
  | c :: t, n => if 48 ≤ c.toNat ∧ c.toNat ≤ 57 then dg t (n * 10 + (c.toNat - 48)) else none
def number (l : List UInt8) : Option Nat := if l = [] ∨ 10 < l.length ∨ l.head? = some 48 ∧ l ≠ [48] then none else dg l 0
def numRes (r : Option Nat) (most : Int) : Value := match r with
  | some n => if (n : Int) ≤ most then .tuple #[.int .i64 n, .bool true] else .tuple #[.int .i64 0, .bool false]
  | none => .tuple #[.int .i64 0, .bool false]
theorem dg_yes {c : UInt8} {t : List UInt8} {n : Nat} (h : 48 ≤ c.toNat ∧ c.toNat ≤ 57) : dg (c :: t) n = dg t (n * 10 + (c.toNat - 48)) := by rw [dg, if_pos h]
theorem dg_no {c : UInt8} {t : List UInt8} {n : Nat} (h : ¬ (48 ≤ c.toNat ∧ c.toNat ≤ 57)) : dg (c :: t) n = none := by rw [dg, if_neg h]

def NumPost (w : World) (r : Option Nat) (most : Int) (e : Ending) (w' : World) : Prop := e = .returned (numRes r most) ∧ Below w.heap.size w w'
def pw : Nat → Nat
  | 0 => 1
  | k + 1 => pw k * 10
theorem pw_pos (k : Nat) : 1 ≤ pw k := by
  induction k with
  | zero => exact Nat.le_refl _
  | succ k ih => show 1 ≤ pw k * 10; omega
theorem pw_mono {k j : Nat} (h : k ≤ j) : pw k ≤ pw j := by
  induction h with
  | refl => exact Nat.le_refl _
  | step h ih => rename_i j'; show _ ≤ pw j' * 10; omega
theorem pw_lt (p : Nat) (h : p ≤ 10) : pw p ≤ 10000000000 := pw_mono h

set_option maxHeartbeats 2000000 in
set_option maxRecDepth 20000 in
theorem number_any (s : ByteArray) (most : Int) (w : World) (hs : s.size ≤ 8388608) :
    Calls Tryd.prog 52 #[.string s, .int .i64 most] w (NumPost w (number s.data.toList) most) := by
  have hlen : s.data.toList.length = s.size := (Lib.size_eq s).symm
  have htl := Lib.toList_data s
  by_cases h0 : s.data.toList = []
  · have hz : (s.toList == []) = true := by rw [htl, h0]; rfl
    have hn : number s.data.toList = none := by unfold number; rw [if_pos (.inl h0)]
    have HN := Lib.hid hn
    clear hn h0 htl hlen
    go_enter Tryd.func52, Tryd.ntmps52
    go_wp2
    go_ret2
    unfold NumPost; rw [HN.out]
    exact ⟨rfl, Below.refl _ _⟩
  have hz : (s.toList == []) = false := by rw [htl]; simpa using h0
  have hpos : 0 < s.size := by rw [← hlen]; exact List.length_pos_iff.2 h0
  by_cases h1 : 10 < s.size
  · have hn : number s.data.toList = none := by unfold number; rw [if_pos (.inr (.inl (by omega)))]
    have HN := Lib.hid hn
    clear hn h0 htl hlen
    go_enter Tryd.func52, Tryd.ntmps52
    go_wp2
    go_ret2
    unfold NumPost; rw [HN.out]
    exact ⟨rfl, Below.refl _ _⟩
  have hd0 : s.data.toList = s[0]'hpos :: s.data.toList.drop 1 := by have := drop_at s 0 hpos; simpa using this
  by_cases h2 : (s[0]'hpos).toNat = 48 ∧ s.data.toList ≠ [48]
  · obtain ⟨h2, h3⟩ := h2
    have hn : number s.data.toList = none := by
      unfold number
      have hh : s.data.toList.head? = some 48 := by
        rw [hd0]
        exact congrArg some (UInt8.toNat_inj.1 (by exact h2))
      rw [if_pos (.inr (.inr ⟨hh, h3⟩))]
    have hq : (((s[0]'hpos).toNat : Int) == 48) = true := by rw [beq_iff_eq]; omega
    have hq2 : (s.toList == [48]) = false := by rw [htl]; simpa using h3
    have HN := Lib.hid hn
    clear hn h0 htl hlen h2 h3 hd0
    go_enter Tryd.func52, Tryd.ntmps52
    go_wp2
    go_ret2
    unfold NumPost; rw [HN.out]
    exact ⟨rfl, Below.refl _ _⟩
  have hn : number s.data.toList = dg s.data.toList 0 := by
    unfold number
    rw [if_neg]
    rintro (h | h | ⟨h, h'⟩)
    · exact h0 h
    · omega
    · rw [hd0] at h
      exact h2 ⟨by rw [Option.some.inj h]; rfl, h'⟩
  rw [hn]
  have hguard : (((s[0]'hpos).toNat : Int) == 48) = false ∨ (((s[0]'hpos).toNat : Int) == 48) = true ∧ (s.toList == [48]) = true := by
    by_cases h3 : (s[0]'hpos).toNat = 48
    · refine .inr ⟨by rw [beq_iff_eq]; omega, ?_⟩
      rw [htl]
      have : s.data.toList = [48] := Classical.byContradiction fun h => h2 ⟨h3, h⟩
      rw [this]; rfl
    · exact .inl (by rw [beq_eq_false_iff_ne]; omega)
  have hs10 : s.size ≤ 10 := by omega
  clear hn h0 htl hlen h2 hd0 h1
  rcases hguard with hq | ⟨hq, hq2⟩
  all_goals
    go_enter Tryd.func52, Tryd.ntmps52
    go_wp2
    go_loopw [6] (fun v wr => ∃ (pos n : Nat), pos ≤ s.size ∧ v = .int .i64 n ∧ Hid (n < pw pos) ∧ wr.heap[w.heap.size]? = some (.stringIter s pos) ∧ Below w.heap.size w wr ∧ dg (s.data.toList.drop pos) n = dg s.data.toList 0) (fun v wr => s.size - wr.iterPos w.heap.size)
    case atStart => exact ⟨0, 0, by omega, rfl, (by decide : 0 < 1), World.iter_heap w s 0, (Below.refl _ _).alloc (Nat.le_refl _) _, rfl⟩
    case round =>
      obtain ⟨pos, n, hps, rfl, hn, hit, hbw, hdg⟩ := hrel
      have hn10 : n < 10000000000 := by have := hn.out; have := pw_lt pos (by omega); omega
      by_cases hp : pos < s.size
      · rw [drop_at s pos hp] at hdg
        by_cases hc : (s[pos]'hp).toNat < 128
        · have hnx : ∀ ty, (Instr.next (.pointer (some ⟨w.heap.size, 0, none⟩)) true ty).run Tryd.prog wr = _ := fun ty => Lib.run_next_ascii_at wr w.heap.size s pos ty hit hp hc
          have hit2 := Lib.iterAt_heap wr w.heap.size s pos (pos + 1) hit
          have hbw2 := Lib.below_iterAt hbw (k := w.heap.size) (Nat.le_refl _) s (pos + 1)
          generalize wr.iterAt w.heap.size s (pos + 1) = w1 at hnx hit2 hbw2
          generalize s[pos]'hp = c at hnx hc hdg
          by_cases hdig : 48 ≤ c.toNat ∧ c.toNat ≤ 57
          · rw [dg_yes hdig] at hdg
            have HD := Lib.hid hdg
            clear hdg
            have l1 : (48 : Int) ≤ (c.toNat : Int) := by omega
            have l2 : (c.toNat : Int) ≤ 57 := by omega
            go_wp2
            have hn2 : n * 10 + (c.toNat - 48) < pw (pos + 1) := by have := hn.out; show _ < pw pos * 10; omega
            refine ⟨⟨pos + 1, n * 10 + (c.toNat - 48), by omega, by go_num, hn2, hit2, hbw2, HD.out⟩, ?_⟩
            simp only [World.iterPos, hit, hit2]
            omega
          · rw [dg_no hdig] at hdg
            have HD := Lib.hid hdg
            clear hdg
            by_cases l1 : c.toNat < 48
            · have l1' : (c.toNat : Int) < 48 := by omega
              go_wp2
              go_ret2
              unfold NumPost; rw [← HD.out]
              exact ⟨rfl, hbw2⟩
            · have l1' : ¬ (c.toNat : Int) < 48 := by omega
              have l2' : (57 : Int) < (c.toNat : Int) := by omega
              go_wp2
              go_ret2
              unfold NumPost; rw [← HD.out]
              exact ⟨rfl, hbw2⟩
        · obtain ⟨hd1, hd2⟩ := decode_high s pos hp (by omega)
          have hd3 := decode_le s pos
          have hnx : ∀ ty, (Instr.next (.pointer (some ⟨w.heap.size, 0, none⟩)) true ty).run Tryd.prog wr = _ := fun ty => Lib.run_next_any_at wr w.heap.size s pos ty hit hp
          have hbw2 := Lib.below_iterAt hbw (k := w.heap.size) (Nat.le_refl _) s (pos + (Utf8.decode s pos).2)
          generalize (Utf8.decode s pos).1 = d at hnx hd1 hd3
          generalize wr.iterAt w.heap.size s (pos + (Utf8.decode s pos).2) = w1 at hnx hbw2
          rw [dg_no (by omega)] at hdg
          have HD := Lib.hid hdg
          clear hdg
          have l1' : ¬ (d : Int) < 48 := by omega
          have l2' : (57 : Int) < (d : Int) := by omega
          go_wp2
          go_ret2
          unfold NumPost; rw [← HD.out]
          exact ⟨rfl, hbw2⟩
      · have hnx : ∀ ty, (Instr.next (.pointer (some ⟨w.heap.size, 0, none⟩)) true ty).run Tryd.prog wr = _ := fun ty => Lib.run_next_end_at wr w.heap.size s pos ty hit hp
        rw [List.drop_eq_nil_of_le (by simpa using hp), dg] at hdg
        have HD := Lib.hid hdg
        clear hdg
        by_cases hm : (n : Int) ≤ most
        · have HR := Lib.hid (show numRes (some n) most = .tuple #[.int .i64 n, .bool true] by show (if (n : Int) ≤ most then _ else _) = _; rw [if_pos hm])
          go_wp2
          go_ret2
          unfold NumPost; rw [← HD.out, HR.out]
          exact ⟨rfl, hbw⟩
        · have hm' : most < (n : Int) := by omega
          have HR := Lib.hid (show numRes (some n) most = .tuple #[.int .i64 0, .bool false] by show (if (n : Int) ≤ most then _ else _) = _; rw [if_neg hm])
          go_wp2
          go_ret2
          unfold NumPost; rw [← HD.out, HR.out]
          exact ⟨rfl, hbw⟩
end Go.Proofs.YtjbojboiagbofaaDoor
