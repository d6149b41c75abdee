/- codec.Quote, literal. -/
import Derived.Test.YtdikgifgapbocaaDoorC14
set_option linter.unusedSimpArgs false
set_option linter.unusedVariables false
namespace Go.Proofs.YtdikgifgapbocaaDoor
open Go.RowKit Go.Shelf

def lit (l : List UInt8) : List UInt8 := 123 :: (Lib.decDigits l.length ++ [125, 13, 10] ++ l)
def escc (c : UInt8) : List UInt8 := if c = 34 ∨ c = 92 then [92, c] else [c]
def esc : List UInt8 → List UInt8
  | [] => []
  | c :: t => escc c ++ esc t
def plain (l : List UInt8) : Bool := decide (l.length ≤ 200) && l.all (fun c => decide (32 ≤ c.toNat ∧ c.toNat ≤ 126))
def quote (l : List UInt8) : List UInt8 := if plain l then 34 :: (esc l ++ [34]) else lit l

theorem digs_small {u : Nat} (h : u < 10) : Lib.decDigits u = [UInt8.ofNat (48 + u)] := by rw [Lib.decDigits, dif_pos h]
theorem digs_big {u : Nat} (h : ¬ u < 10) : Lib.decDigits u = Lib.decDigits (u / 10) ++ [UInt8.ofNat (48 + u % 10)] := by rw [Lib.decDigits, dif_neg h]
theorem digs_len (u : Nat) : (Lib.decDigits u).length ≤ u + 1 := by
  induction u using Nat.strongRecOn with
  | ind u ih =>
    by_cases h : u < 10
    · rw [digs_small h]; simp
    · rw [digs_big h]
      have := ih (u / 10) (by omega)
      simp only [List.length_append, List.length_cons, List.length_nil]
      omega
/-- What the library's table holds, in w. -/
def Tab (w : World) : Prop := Lib.TabIs Tryd.prog w "internal/strconv.uint64pow10" .u64 Lib.pow10Tab
theorem Tab.below {w w' : World} (h : Tab w) (hb : Below w.heap.size w w') : Tab w' := by
  unfold Tab Lib.TabIs World.var? at *
  cases hg : Tryd.prog.globalNamed "internal/strconv.uint64pow10" with
  | none => rw [hg] at h; cases h
  | some g =>
    rw [hg] at h
    simp only [Option.bind_some] at h ⊢
    have hlt : g < w.heap.size := by
      rcases Nat.lt_or_ge g w.heap.size with h' | h'
      · exact h'
      · rw [Array.getElem?_eq_none h'] at h
        cases h
    rw [hb.block g hlt]
    exact h
theorem below_grow2 (w : World) (k : Nat) (os : Array Obj) : Below w.heap.size w (Sort.grow (w.drewN k) os) :=
  ⟨rfl, rfl, rfl, by show w.heap.size ≤ (w.heap ++ os).size; rw [Array.size_append]; omega, fun j hj => by show (w.heap ++ os)[j]? = w.heap[j]?; exact Array.getElem?_append_left hj⟩
theorem lit_str (s : ByteArray) : ((⟨#[123]⟩ : ByteArray) ++ ⟨(Lib.decDigits s.size).toArray⟩ ++ ⟨#[125]⟩ ++ ⟨#[13, 10]⟩ ++ s) = ⟨(lit s.data.toList).toArray⟩ := by
  apply ByteArray.ext
  apply Array.ext'
  rw [Lib.size_eq s]
  simp only [lit, ByteArray.data_append, Array.toList_append, List.cons_append, List.nil_append, List.append_assoc]
set_option maxHeartbeats 2000000 in
set_option maxRecDepth 100000 in
theorem literal_any (s : ByteArray) (w : World) (hs : s.size ≤ 8388608) (ht : s.size < 100 ∨ Tab w) :
    Calls Tryd.prog 38 #[.string s] w fun e w' => e = .returned (.string ⟨(lit s.data.toList).toArray⟩) ∧ Below w.heap.size w w' := by
  have hI : Calls Tryd.prog 52 #[.int .i64 s.size] w fun e w' => e = .returned (.string ⟨(Lib.decDigits s.size).toArray⟩) ∧ Below w.heap.size w w' := by
    rcases ht with h | h
    · exact (Tryd.strconv_Itoa_small s.size h w).mono fun e w' ⟨he, hw⟩ => ⟨he, hw ▸ Below.refl _ _⟩
    · refine (Tryd.strconv_Itoa s.size (by omega) (by omega) w h).mono fun e w' ⟨he, k, os, hw⟩ => ⟨?_, ?_⟩
      · rw [he]
        unfold Lib.itoa
        rw [if_neg (by omega)]
        simp
      · rw [hw]
        exact below_grow2 w k os
  have hdl := digs_len s.size
  have hlen : s.data.toList.length = s.size := (Lib.size_eq s).symm
  have HL := Lib.hid hlen
  clear hlen
  go_enter Tryd.func38, Tryd.ntmps38
  go_wp2_with (go_at_call 52; refine hI.mono ?_; rintro e w' ⟨rfl, hb⟩)
  go_ret
  refine ⟨?_, hb⟩
  rw [← lit_str]
  rfl
/-- The scan from a place on: what is written, or none where a byte is not to be quoted. -/
def scan : List UInt8 → List UInt8 → Option (List UInt8)
  | acc, [] => some acc
  | acc, c :: t => if 32 ≤ c.toNat ∧ c.toNat ≤ 126 then scan (acc ++ escc c) t else none
theorem scan_spec (l : List UInt8) : ∀ acc, scan acc l = if l.all (fun c => decide (32 ≤ c.toNat ∧ c.toNat ≤ 126)) then some (acc ++ esc l) else none := by
  induction l with
  | nil => intro acc; simp [scan, esc]
  | cons c t ih =>
    intro acc
    rw [scan]
    by_cases h : 32 ≤ c.toNat ∧ c.toNat ≤ 126
    · rw [if_pos h, ih]
      simp [h, esc]
    · rw [if_neg h]
      simp only [List.all_cons, decide_eq_false h, Bool.false_and, Bool.false_eq_true, if_false]
theorem encodeRune_ascii (c : UInt8) (h : c.toNat < 128) : Lib.encodeRune (c.toNat : Int) = [c] := by
  unfold Lib.encodeRune
  rw [Lib.encodeRuneZ_one (by omega) (by omega)]
  simp
theorem wByte {B : Nat} {acc : List UInt8} {w : World} (c : UInt8) (cv : Int) (hc : (c.toNat : Int) = cv) (h : Lib.IsBuilderF 42 5 B B (Lib.byteCells acc) w) (hl : acc.length ≤ 40000000) :
    Calls Tryd.prog 39 #[.pointer (some ⟨B, 0, none⟩), .int .u8 cv] w fun e w' => e = .returned .nilIface ∧ Lib.IsBuilderF 42 5 B B (Lib.byteCells (acc ++ [c])) w' ∧ Below B w w' ∧ Lib.OthersKept 5 (some B) w w' := by
  subst hc
  have hlt : B < w.heap.size := h.elim (fun h => h.lt) (fun h => h.lt)
  refine (Tryd.Builder_WriteByte_k B B _ c.toNat _ h (by rw [Lib.byteCells_length]; omega) (by omega)).mono ?_
  rintro e w' ⟨rfl, h1, h2, h3⟩
  exact ⟨rfl, by rw [Lib.byteCells_append]; exact .inr h1, h2, h3⟩
theorem wRune {B : Nat} {acc : List UInt8} {w : World} (c : UInt8) (hc : c.toNat < 128) (h : Lib.IsBuilderF 42 5 B B (Lib.byteCells acc) w) (hl : acc.length ≤ 40000000) :
    Calls Tryd.prog 40 #[.pointer (some ⟨B, 0, none⟩), .int .i32 c.toNat] w fun e w' => e = .returned (.tuple #[.int .i64 1, .nilIface]) ∧ Lib.IsBuilderF 42 5 B B (Lib.byteCells (acc ++ [c])) w' ∧ Below B w w' ∧ Lib.OthersKept 5 (some B) w w' := by
  have hlt : B < w.heap.size := h.elim (fun h => h.lt) (fun h => h.lt)
  refine (Tryd.Builder_WriteRune_k B B _ c.toNat (by omega) (by omega) _ h (by rw [Lib.byteCells_length]; omega) (by omega)).mono ?_
  rintro e w' ⟨rfl, h1, h2, h3⟩
  have e1 : Lib.runeCells (c.toNat : Int) = Lib.byteCells [c] := by rw [← Lib.byteCells_encodeRune, encodeRune_ascii c hc]
  rw [e1] at h1 ⊢
  exact ⟨rfl, by rw [Lib.byteCells_append]; exact .inr h1, h2, h3⟩
theorem kept_iterB {w w' : World} {B k pos : Nat} {s : ByteArray} (h : Lib.OthersKept 5 (some B) w w') (hk : w.heap[k]? = some (.stringIter s pos)) (hne : k ≠ B) : w'.heap[k]? = some (.stringIter s pos) := h k _ hk (by simpa using hne) (by simp)
def QPost (w : World) (l : List UInt8) (r : Option (List UInt8)) (e : Ending) (w' : World) : Prop :=
  (match r with | some r => e = Ending.returned (.string ⟨(r ++ [34]).toArray⟩) | none => e = Ending.returned (.string ⟨(lit l).toArray⟩)) ∧ Below w.heap.size w w'
set_option maxHeartbeats 4000000 in
set_option maxRecDepth 1000000 in
theorem quote_any (s : ByteArray) (w : World) (hs : s.size ≤ 8388608) (ht : s.size < 100 ∨ Tab w) :
    Calls Tryd.prog 21 #[.string s] w fun e w' => e = .returned (.string ⟨(quote s.data.toList).toArray⟩) ∧ Below w.heap.size w w' := by
  have hlen : s.data.toList.length = s.size := (Lib.size_eq s).symm
  by_cases h200 : 200 < s.size
  · have hq : quote s.data.toList = lit s.data.toList := by
      unfold quote plain
      rw [if_neg]
      simp
      omega
    rw [hq]
    clear hq hlen
    go_enter Tryd.func21, Tryd.ntmps21
    go_wp2_with (go_at_call 38; refine (literal_any s _ hs ht).mono ?_; rintro e w' ⟨rfl, hb⟩)
    go_ret
    exact ⟨rfl, hb⟩
  have hq : ∀ e w', QPost w s.data.toList (scan [34] s.data.toList) e w' → e = .returned (.string ⟨(quote s.data.toList).toArray⟩) ∧ Below w.heap.size w w' := by
    rintro e w' ⟨h1, h2⟩
    refine ⟨?_, h2⟩
    rw [scan_spec] at h1
    unfold quote plain
    rw [decide_eq_true (by omega : s.data.toList.length ≤ 200), Bool.true_and]
    by_cases ha : s.data.toList.all (fun c => decide (32 ≤ c.toNat ∧ c.toNat ≤ 126)) = true
    · rw [if_pos ha] at h1 ⊢
      simpa using h1
    · rw [if_neg ha] at h1 ⊢
      exact h1
  have ht' : ∀ w', Below w.heap.size w w' → s.size < 100 ∨ Tab w' := fun w' hb => ht.imp id (fun h => h.below hb)
  refine Calls.mono ?_ hq
  clear hq ht
  go_enter Tryd.func21, Tryd.ntmps21
  go_wp2_with (go_at_call 39; refine (Tryd.Builder_WriteByte_k w.heap.size w.heap.size [] 34 _ (Lib.IsBuilderF.of (Lib.fresh_isBuilder 42 5 w)) (by simp) (by simp)).mono ?_; rintro e w1 ⟨rfl, h1, b1, k1⟩)
  have hbw1 : Below w.heap.size w w1 := ((Below.refl _ w).alloc (Nat.le_refl _) _).trans b1
  have hlt1 : w.heap.size < w1.heap.size := by have := b1.size; simp at this; omega
  have hI1 : Lib.IsBuilderF 42 5 w.heap.size w.heap.size (Lib.byteCells [34]) w1 := .inr h1
  clear h1 b1 k1
  go_loopw [] (fun wr => ∃ (pos : Nat) (acc : List UInt8), pos ≤ s.size ∧ Lib.IsBuilderF 42 5 w.heap.size w.heap.size (Lib.byteCells acc) wr ∧ wr.heap[w1.heap.size]? = some (.stringIter s pos) ∧ Below w.heap.size w wr ∧ scan acc (s.data.toList.drop pos) = scan [34] s.data.toList ∧ acc.length ≤ 2 * pos + 1) (fun wr => s.size - wr.iterPos w1.heap.size)
  case atStart => exact ⟨0, [34], by omega, hI1.alloc _, World.iter_heap w1 s 0, hbw1.alloc hbw1.size _, rfl, by simp⟩
  case round =>
    obtain ⟨pos, acc, hps, hI, hit, hbw, hsc, hal⟩ := hrel
    have hbl : w.heap.size ≤ wr.heap.size := hbw.size
    have hkl : w1.heap.size < wr.heap.size := (Array.getElem?_eq_some_iff.1 hit).1
    by_cases hp : pos < s.size
    · rw [drop_at s pos hp] at hsc
      by_cases hc : (s[pos]'hp).toNat < 128
      · have hnx : ∀ ty, (Instr.next (.pointer (some ⟨w1.heap.size, 0, none⟩)) true ty).run Tryd.prog wr = _ := fun ty => Lib.run_next_ascii_at wr w1.heap.size s pos ty hit hp hc
        have hI2 := hI.iterAt hit (pos + 1)
        have hit2 := Lib.iterAt_heap wr w1.heap.size s pos (pos + 1) hit
        have hbw2 := Lib.below_iterAt hbw (k := w1.heap.size) (by omega) s (pos + 1)
        have hsz2 : w.heap.size ≤ (wr.iterAt w1.heap.size s (pos + 1)).heap.size := by rw [Lib.iterAt_size]; omega
        generalize wr.iterAt w1.heap.size s (pos + 1) = w2 at hnx hI2 hit2 hbw2 hsz2
        generalize s[pos]'hp = c at hnx hc hsc
        by_cases hq : 32 ≤ c.toNat ∧ c.toNat ≤ 126
        · rw [scan, if_pos hq] at hsc
          have l1 : (32 : Int) ≤ (c.toNat : Int) := by omega
          have l2 : (c.toNat : Int) ≤ 126 := by omega
          by_cases he : c = 34 ∨ c = 92
          · have hx : escc c = [92, c] := by unfold escc; rw [if_pos he]
            rw [hx] at hsc
            have HS := Lib.hid hsc
            have hg : ((c.toNat : Int) == 34) = true ∨ ((c.toNat : Int) == 34) = false ∧ ((c.toNat : Int) == 92) = true := by
              rcases he with rfl | rfl
              · exact .inl rfl
              · exact .inr ⟨rfl, rfl⟩
            clear hsc hx he
            rcases hg with hg | ⟨hg, hg2⟩
            all_goals
              go_wp2_with (first | (go_at_call 39; refine (wByte 92 92 rfl hI2 (by omega)).mono ?_; rintro e w3 ⟨rfl, h3, b3, k3⟩) | (go_at_call 40; refine (wRune c hc h3 (by simp; omega)).mono ?_; rintro e w4 ⟨rfl, h4, b4, k4⟩))
              have hit4 := kept_iterB k4 (kept_iterB k3 hit2 (by omega)) (by omega)
              refine ⟨⟨pos + 1, acc ++ [92] ++ [c], by omega, h4, hit4, (hbw2.trans b3).trans b4, by rw [List.append_assoc]; exact HS.out, by simp; omega⟩, ?_⟩
              simp only [World.iterPos, hit, hit4]
              omega
          · have hx : escc c = [c] := by unfold escc; rw [if_neg he]
            rw [hx] at hsc
            have HS := Lib.hid hsc
            have hg : ((c.toNat : Int) == 34) = false := by
              rw [beq_eq_false_iff_ne]
              intro e
              exact he (.inl (UInt8.toNat_inj.1 (by have e' : c.toNat = 34 := by omega
                                                    exact e')))
            have hg2 : ((c.toNat : Int) == 92) = false := by
              rw [beq_eq_false_iff_ne]
              intro e
              exact he (.inr (UInt8.toNat_inj.1 (by have e' : c.toNat = 92 := by omega
                                                    exact e')))
            clear hsc hx he
            go_wp2_with (go_at_call 40; refine (wRune c hc hI2 (by omega)).mono ?_; rintro e w4 ⟨rfl, h4, b4, k4⟩)
            have hit4 := kept_iterB k4 hit2 (by omega)
            refine ⟨⟨pos + 1, acc ++ [c], by omega, h4, hit4, hbw2.trans b4, HS.out, by simp; omega⟩, ?_⟩
            simp only [World.iterPos, hit, hit4]
            omega
        · rw [scan, if_neg hq] at hsc
          have HS := Lib.hid hsc
          clear hsc
          have hlit := literal_any s w2 hs (ht' _ hbw2)
          by_cases l1 : c.toNat < 32
          · have l1' : (c.toNat : Int) < 32 := by omega
            go_wp2_with (go_at_call 38; refine hlit.mono ?_; rintro e w4 ⟨rfl, b4⟩)
            go_ret
            unfold QPost
            rw [← HS.out]
            exact ⟨rfl, hbw2.trans (b4.mono hbw2.size)⟩
          · have l1' : ¬ (c.toNat : Int) < 32 := by omega
            have l2' : (126 : Int) < (c.toNat : Int) := by omega
            go_wp2_with (go_at_call 38; refine hlit.mono ?_; rintro e w4 ⟨rfl, b4⟩)
            go_ret
            unfold QPost
            rw [← HS.out]
            exact ⟨rfl, hbw2.trans (b4.mono hbw2.size)⟩
      · obtain ⟨hd1, hd2⟩ := decode_high s pos hp (by omega)
        have hd3 := decode_le s pos
        have hnx : ∀ ty, (Instr.next (.pointer (some ⟨w1.heap.size, 0, none⟩)) true ty).run Tryd.prog wr = _ := fun ty => Lib.run_next_any_at wr w1.heap.size s pos ty hit hp
        have hbw2 := Lib.below_iterAt hbw (k := w1.heap.size) (by omega) s (pos + (Utf8.decode s pos).2)
        generalize (Utf8.decode s pos).1 = d at hnx hd1 hd3
        generalize wr.iterAt w1.heap.size s (pos + (Utf8.decode s pos).2) = w2 at hnx hbw2
        rw [scan, if_neg (by omega)] at hsc
        have HS := Lib.hid hsc
        clear hsc
        have hlit := literal_any s w2 hs (ht' _ hbw2)
        have l1' : ¬ (d : Int) < 32 := by omega
        have l2' : (126 : Int) < (d : Int) := by omega
        go_wp2_with (go_at_call 38; refine hlit.mono ?_; rintro e w4 ⟨rfl, b4⟩)
        go_ret
        unfold QPost
        rw [← HS.out]
        exact ⟨rfl, hbw2.trans (b4.mono hbw2.size)⟩
    · have hnx : ∀ ty, (Instr.next (.pointer (some ⟨w1.heap.size, 0, none⟩)) true ty).run Tryd.prog wr = _ := fun ty => Lib.run_next_end_at wr w1.heap.size s pos ty hit hp
      rw [List.drop_eq_nil_of_le (by simpa using hp), scan] at hsc
      have HS := Lib.hid hsc
      clear hsc
      go_wp2_with (first | (go_at_call 39; refine (wByte 34 34 rfl hI (by omega)).mono ?_; rintro e w3 ⟨rfl, h3, b3, k3⟩) | (go_at_call 30; refine (Tryd.Builder_String_any_k w.heap.size w.heap.size (acc ++ [34]) _ h3 (hbw.trans b3).size).mono ?_; rintro e w4 ⟨rfl, _, b4, _⟩))
      go_ret
      unfold QPost
      rw [← HS.out]
      exact ⟨rfl, (hbw.trans b3).trans b4⟩
end Go.Proofs.YtdikgifgapbocaaDoor
