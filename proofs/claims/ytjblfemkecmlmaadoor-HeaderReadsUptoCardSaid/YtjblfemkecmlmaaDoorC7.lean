/- codec.Small, codec.Great, the document's too. -/
import Derived.Test.YtjblfemkecmlmaaDoorC6
set_option linter.unusedSimpArgs false
set_option linter.unusedVariables false
namespace Go.Proofs.YtjblfemkecmlmaaDoor
open Go.RowKit Go.Shelf

theorem toNat_ofNat_mod (n : Nat) : (UInt8.ofNat n).toNat = n % 256 := by simp
theorem ret_int {k : IntKind} {a b : Int} (h : a = b) : Ending.returned (.int k a) = .returned (.int k b) := by rw [h]
/-- Block g holds l, nothing of it frozen; it is younger than w0. -/
structure RowB (w0 w : World) (g : Nat) (l : List UInt8) : Prop where
  ge : w0.heap.size ≤ g
  lt : g < w.heap.size
  cell : ∀ j c, l[j]? = some c → w.cell? ⟨g, j, none⟩ = some (.int .u8 c.toNat)
  free : ∀ j, j < l.length → w.frozen? ⟨g, j, none⟩ = false
  bel : Below w0.heap.size w0 w
theorem RowB.bs {w0 w : World} {g : Nat} {l : List UInt8} (h : RowB w0 w g l) : Bs w (some ⟨g, 0, none⟩) l := fun j c hj => ⟨g, 0, rfl, h.lt, by rw [Nat.zero_add]; exact h.cell j c hj⟩
theorem RowB.set {w0 w : World} {g : Nat} {l : List UInt8} (h : RowB w0 w g l) {j : Nat} (hj : j < l.length) (c : UInt8) : RowB w0 (w.setCell ⟨g, j, none⟩ (.int .u8 c.toNat)) g (l.set j c) := by
  refine ⟨h.ge, by simpa using h.lt, fun i x hi => ?_, fun i hi => ?_, h.bel.setCell h.ge _⟩
  · by_cases hij : i = j
    · subst hij
      rw [List.getElem?_set_self hj] at hi
      obtain rfl := Option.some.inj hi
      exact World.cell?_setCell_same _ _ _ (h.cell i _ (List.getElem?_eq_getElem hj))
    · rw [List.getElem?_set_ne (Ne.symm hij)] at hi
      exact (World.cell?_setCell_other (w := w) (a := ⟨g, j, none⟩) (b := ⟨g, i, none⟩) (v := .int .u8 c.toNat) (h := by intro e; cases e; exact hij rfl)).trans (h.cell i x hi)
  · rw [World.frozen?_setCell]
    exact h.free i (by simpa using hi)
theorem RowB.below {w0 w w' : World} {g : Nat} {l : List UInt8} (h : RowB w0 w g l) (hb : Below w.heap.size w w') : RowB w0 w' g l :=
  ⟨h.ge, Nat.lt_of_lt_of_le h.lt hb.size, fun j c hj => by rw [hb.cell (p := ⟨g, j, none⟩) h.lt]; exact h.cell j c hj, fun j hj => by rw [hb.frozen (p := ⟨g, j, none⟩) h.lt]; exact h.free j hj, h.bel.trans (hb.mono h.bel.size)⟩
theorem size_bytesRow (s : ByteArray) (cap : Nat) : (bytesRow s cap).size = s.size + (cap - s.size) := by unfold bytesRow; rw [Array.size_append, Array.size_map, Array.size_replicate]; rfl
theorem rowB_made (w0 w : World) (hb : Below w0.heap.size w0 w) (s : ByteArray) (cap : Nat) : RowB w0 (w.drew.alloc (.cells (bytesRow s cap) 5 ((bytesRow s cap).size, (bytesRow s cap).size + 1))) w.heap.size s.data.toList := by
  have hq := heap_alloc_new w.drew (.cells (bytesRow s cap) 5 ((bytesRow s cap).size, (bytesRow s cap).size + 1))
  have hl : s.data.toList.length = s.size := (Lib.size_eq s).symm
  have hz := size_bytesRow s cap
  refine ⟨hb.size, by simp, fun j c hj => ?_, fun j hj => ?_, hb.drew.alloc hb.size _⟩
  · rw [World.cell?]
    have hq' : (w.drew.alloc (.cells (bytesRow s cap) 5 ((bytesRow s cap).size, (bytesRow s cap).size + 1))).heap[w.heap.size]? = _ := hq
    simp only [hq']
    have hjl := (List.getElem?_eq_some_iff.1 hj).1
    unfold bytesRow
    rw [Array.getElem?_append_left (by rw [Array.size_map]; exact hjl)]
    rw [Array.getElem?_map]
    have : s.data[j]? = some c := by rw [← Array.getElem?_toList]; exact hj
    rw [this]
    rfl
  · unfold World.frozen?
    have hq' : (w.drew.alloc (.cells (bytesRow s cap) 5 ((bytesRow s cap).size, (bytesRow s cap).size + 1))).heap[w.heap.size]? = _ := hq
    simp only [hq']
    simp
    omega

section
variable {ops : Array Oper} {rest : List Oper} {o : Oper} {act : Act} {Q : Exit → Act → World → Prop}
theorem wpL_tobytes {w0 w : World} {x : Operand} {s : ByteArray} (hgd : o.guard = none) (ho : o.op = .convert 9 22 x) (hx : act.eval x = .string s) (hb : Below w0.heap.size w0 w) (hs : s.size ≤ maxLen)
    (h : ∀ cap w', RowB w0 w' w.heap.size s.data.toList → s.size ≤ cap → cap ≤ maxLen → Below w.heap.size w w' → wpList Tryd.prog ops Q rest (act.put o.dst (.slice (some ⟨w.heap.size, 0, none⟩) s.size cap)) w') :
    wpList Tryd.prog ops Q (o :: rest) act w := by
  have hr := run_bytes_of_string (P := Tryd.prog) w 9 22 5 s Tryd.underlying9 Tryd.underlying22 Tryd.underlying5
  refine wpList_plain hgd fun K hK => ?_
  unfold Oper.wp execOp
  rw [ho]
  simp only [hx, Sem.run_bind, hr, Result.andThen_ok, Sem.run_pure]
  exact hK _ _ (h _ _ (rowB_made w0 w hb s _) (grownCap_ge _ _ _ _) (grownCap_le_maxLen _ _ _ _ hs) ((Below.refl _ _).drew.alloc (Nat.le_refl _) _))
end
def mv (a b : Int) (c : Int) : Int := if (c - a) % 256 < 26 then (c - a + b) % 256 else c
set_option maxHeartbeats 1000000 in
set_option maxRecDepth 100000 in
theorem conv_any (a b c : Int) (ha : 0 ≤ a ∧ a < 256) (hb : 0 ≤ b ∧ b < 256) (hc : 0 ≤ c ∧ c < 256) (p q : Nat) (w : World) (hp : w.cell? ⟨p, 0, none⟩ = some (.int .u8 a)) (hq : w.cell? ⟨q, 0, none⟩ = some (.int .u8 b)) :
    Calls Tryd.prog 80 #[.int .u8 c, .pointer (some ⟨p, 0, none⟩), .pointer (some ⟨q, 0, none⟩)] w fun e w' => e = .returned (.int .u8 (mv a b c)) ∧ w = w' := by
  go_enter Tryd.func80, Tryd.ntmps80
  go_wp2
  · have h : (c - a) % 256 < 26 := by assumption
    go_ret
    refine ⟨ret_int ?_, rfl⟩
    unfold mv
    rw [if_pos h]
    omega
  · have h : ¬ (c - a) % 256 < 26 := by omega
    go_ret
    refine ⟨ret_int ?_, rfl⟩
    unfold mv
    rw [if_neg h]
set_option maxHeartbeats 1000000 in
set_option maxRecDepth 100000 in
theorem moving_any (a b : Int) (w : World) :
    Calls Tryd.prog 59 #[.int .u8 a, .int .u8 b] w fun e w' => e = .returned (.func (.func 80) #[] #[.pointer (some ⟨w.heap.size, 0, none⟩), .pointer (some ⟨w.heap.size + 1, 0, none⟩)]) ∧ w' = (w.alloc (.cells #[.int .u8 a] 5)).alloc (.cells #[.int .u8 b] 5) := by
  go_enter Tryd.func59, Tryd.ntmps59
  go_wp2
  go_ret
  exact ⟨rfl, rfl⟩
def mvB (a b : Int) (c : UInt8) : UInt8 := UInt8.ofNat (mv a b c.toNat).toNat
theorem mvB_num (a b : Int) (hb : 0 ≤ b ∧ b < 256) (c : UInt8) : ((mvB a b c).toNat : Int) = mv a b c.toNat := by
  have hc := c.toNat_lt
  unfold mvB
  rw [toNat_ofNat_mod]
  unfold mv
  split <;> omega
set_option maxHeartbeats 1000000 in
set_option maxRecDepth 100000 in
theorem eachByte_any (a b : Int) (ha : 0 ≤ a ∧ a < 256) (hb : 0 ≤ b ∧ b < 256) (p q : Nat) (s : ByteArray) (hs : s.size ≤ 9223372036854775807) (w : World) (hp : w.cell? ⟨p, 0, none⟩ = some (.int .u8 a)) (hq : w.cell? ⟨q, 0, none⟩ = some (.int .u8 b)) (hpl : p < w.heap.size) (hql : q < w.heap.size) :
    Calls Tryd.prog 58 #[.string s, .func (.func 80) #[] #[.pointer (some ⟨p, 0, none⟩), .pointer (some ⟨q, 0, none⟩)]] w fun e w' => e = .returned (.string ⟨(s.data.toList.map (mvB a b)).toArray⟩) ∧ Below w.heap.size w w' := by
  have hlen : s.data.toList.length = s.size := (Lib.size_eq s).symm
  go_enter Tryd.func58, Tryd.ntmps58
  go_wp2_with (refine wpL_tobytes (w0 := w) (s := s) rfl rfl rfl (Below.refl _ _) (by unfold maxLen; omega) ?_; intro cap w1 hr hc1 hc2 hb1)
  unfold maxLen at hc2
  go_loopw [12] (fun i wr => ∃ (j : Nat) (l : List UInt8), j ≤ s.size ∧ i = .int .i64 j ∧ RowB w wr w.heap.size l ∧ l.length = s.size ∧ l.take j ++ (l.drop j).map (mvB a b) = s.data.toList.map (mvB a b)) (fun i wr => s.size - (intOf i).toNat)
  case atStart => exact ⟨0, s.data.toList, by omega, rfl, hr, hlen, by simp⟩
  case round =>
    obtain ⟨j, l, hj, rfl, hrow, hl, hm⟩ := hrel
    by_cases hlt : j < s.size
    · have hjl : j < l.length := by omega
      have hcell := hrow.cell j l[j] (List.getElem?_eq_getElem hjl)
      have hfr := hrow.free j hjl
      have hpc : wr.cell? ⟨p, 0, none⟩ = some (.int .u8 a) := by rw [hrow.bel.cell (p := ⟨p, 0, none⟩) hpl]; exact hp
      have hqc : wr.cell? ⟨q, 0, none⟩ = some (.int .u8 b) := by rw [hrow.bel.cell (p := ⟨q, 0, none⟩) hql]; exact hq
      have hnew := hrow.set hjl (mvB a b l[j])
      rw [mvB_num a b hb] at hnew
      have hm' : (l.set j (mvB a b l[j])).take (j + 1) ++ ((l.set j (mvB a b l[j])).drop (j + 1)).map (mvB a b) = s.data.toList.map (mvB a b) := by
        rw [← hm, List.drop_set_of_lt (by omega), List.take_set, List.take_succ_eq_append_getElem hjl, List.set_append_right _ _ (by simp; omega)]
        rw [List.drop_eq_getElem_cons hjl, List.map_cons]
        simp [-List.map_drop, Nat.min_eq_left (Nat.le_of_lt hjl)]
      have hcb := (l[j]).toNat_lt
      have HL := Lib.hid hl
      have HM := Lib.hid hm'
      clear hm hm' hl hlen
      generalize l[j] = c at *
      go_wp2_with (go_at_call 80; refine (conv_any a b c.toNat ha hb (by omega) p q _ hpc hqc).mono ?_; rintro e w' ⟨rfl, rfl⟩)
      exact ⟨⟨j + 1, _, by omega, by go_num, hnew, by rw [List.length_set]; exact HL.out, HM.out⟩, by simp [intOf]; omega⟩
    · have hs1 := bs_string' (n := s.size) cap hrow.bs hl
      have e1 : List.take j l = l := List.take_of_length_le (by omega)
      have e2 : List.drop j l = [] := List.drop_eq_nil_of_le (by omega)
      rw [e1, e2, List.map_nil, List.append_nil] at hm
      have HM := Lib.hid hm
      clear e1 e2 hm hl hlen
      go_wp2
      go_ret
      exact ⟨by rw [← HM.out]; rfl, hrow.bel⟩

def small (l : List UInt8) : List UInt8 := l.map (mvB 65 97)
set_option maxHeartbeats 1000000 in
set_option maxRecDepth 100000 in
theorem small_any (s : ByteArray) (hs : s.size ≤ 9223372036854775807) (w : World) :
    Calls Tryd.prog 32 #[.string s] w fun e w' => e = .returned (.string ⟨(small s.data.toList).toArray⟩) ∧ Below w.heap.size w w' := by
  have b2 : Below w.heap.size w ((w.alloc (.cells #[.int .u8 65] 5)).alloc (.cells #[.int .u8 97] 5)) := ((Below.refl _ _).alloc (Nat.le_refl _) _).alloc (by simp) _
  go_enter Tryd.func32, Tryd.ntmps32
  go_wp2_with (first | (go_at_call 59; refine (moving_any _ _ _).mono ?_; rintro e w' ⟨rfl, rfl⟩) | (go_at_call 58; refine (eachByte_any 65 97 (by omega) (by omega) _ _ s hs _ (by simp) (by simp) (by simp; omega) (by simp)).mono ?_; rintro e w' ⟨rfl, hb⟩))
  go_ret
  exact ⟨rfl, b2.trans (hb.mono (by simp; omega))⟩
set_option maxHeartbeats 1000000 in
set_option maxRecDepth 100000 in
theorem rsmall_any (s : ByteArray) (hs : s.size ≤ 9223372036854775807) (w : World) :
    Calls Tryd.prog 35 #[.string s] w fun e w' => e = .returned (.string ⟨(small s.data.toList).toArray⟩) ∧ Below w.heap.size w w' := by
  have hlen : s.data.toList.length = s.size := (Lib.size_eq s).symm
  unfold small
  go_enter Tryd.func35, Tryd.ntmps35
  go_wp2_with (refine wpL_tobytes (w0 := w) (s := s) rfl rfl rfl (Below.refl _ _) (by unfold maxLen; omega) ?_; intro cap w1 hr hc1 hc2 hb1)
  unfold maxLen at hc2
  go_loopw [4] (fun i wr => ∃ (j : Nat) (l : List UInt8), j ≤ s.size ∧ i = .int .i64 j ∧ RowB w wr w.heap.size l ∧ l.length = s.size ∧ l.take j ++ (l.drop j).map (mvB 65 97) = s.data.toList.map (mvB 65 97)) (fun i wr => s.size - (intOf i).toNat)
  case atStart => exact ⟨0, s.data.toList, by omega, rfl, hr, hlen, by simp⟩
  case round =>
    obtain ⟨j, l, hj, rfl, hrow, hl, hm⟩ := hrel
    by_cases hlt : j < s.size
    · have hjl : j < l.length := by omega
      have hcell := hrow.cell j l[j] (List.getElem?_eq_getElem hjl)
      have hfr := hrow.free j hjl
      have hm' : (l.set j (mvB 65 97 l[j])).take (j + 1) ++ ((l.set j (mvB 65 97 l[j])).drop (j + 1)).map (mvB 65 97) = s.data.toList.map (mvB 65 97) := by
        rw [← hm, List.drop_set_of_lt (by omega), List.take_set, List.take_succ_eq_append_getElem hjl, List.set_append_right _ _ (by simp; omega)]
        rw [List.drop_eq_getElem_cons hjl, List.map_cons]
        simp [-List.map_drop, Nat.min_eq_left (Nat.le_of_lt hjl)]
      have hcb := (l[j]).toNat_lt
      have HL := Lib.hid hl
      by_cases hin : 65 ≤ (l[j]).toNat ∧ (l[j]).toNat ≤ 90
      · have hnew := hrow.set hjl (mvB 65 97 l[j])
        rw [mvB_num 65 97 (by omega)] at hnew
        have he : mv 65 97 (l[j].toNat : Int) = (l[j].toNat : Int) + 32 := by unfold mv; rw [if_pos (by omega)]; omega
        rw [he] at hnew
        have HM := Lib.hid hm'
        clear hm hm' hl hlen he
        generalize l[j] = c at *
        obtain ⟨h1, h2⟩ := hin
        have h1' : (65 : Int) ≤ (c.toNat : Int) := by omega
        have h2' : (c.toNat : Int) ≤ 90 := by omega
        have hd1 : decide ((65 : Int) ≤ (c.toNat : Int)) = true := by simpa using h1'
        go_wp2
        exact ⟨⟨j + 1, _, by omega, by go_num, hnew, by rw [List.length_set]; exact HL.out, HM.out⟩, by simp [intOf]; omega⟩
      · have he : mvB 65 97 l[j] = l[j] := by
          apply UInt8.toNat_inj.1
          have := mvB_num 65 97 (by omega) l[j]
          unfold mv at this
          rw [if_neg (by omega)] at this
          omega
        rw [he] at hm'
        have hsame : l.set j l[j] = l := List.set_getElem_self hjl
        rw [hsame] at hm'
        have HM := Lib.hid hm'
        clear hm hm' hl hlen he hsame
        generalize l[j] = c at *
        by_cases h1 : 65 ≤ c.toNat
        · have h1' : (65 : Int) ≤ (c.toNat : Int) := by omega
          have h2' : ¬ (c.toNat : Int) ≤ 90 := by omega
          have hd1 : decide ((65 : Int) ≤ (c.toNat : Int)) = true := by simpa using h1'
          go_wp2
          exact ⟨⟨j + 1, l, by omega, by go_num, hrow, HL.out, HM.out⟩, by simp [intOf]; omega⟩
        · have h1' : ¬ (65 : Int) ≤ (c.toNat : Int) := by omega
          have hd1 : decide ((65 : Int) ≤ (c.toNat : Int)) = false := by simpa using h1'
          go_wp2
          exact ⟨⟨j + 1, l, by omega, by go_num, hrow, HL.out, HM.out⟩, by simp [intOf]; omega⟩
    · have hs1 := bs_string' (n := s.size) cap hrow.bs hl
      have e1 : List.take j l = l := List.take_of_length_le (by omega)
      have e2 : List.drop j l = [] := List.drop_eq_nil_of_le (by omega)
      rw [e1, e2, List.map_nil, List.append_nil] at hm
      have HM := Lib.hid hm
      clear e1 e2 hm hl hlen
      go_wp2
      go_ret
      exact ⟨by rw [← HM.out]; rfl, hrow.bel⟩
def great (l : List UInt8) : List UInt8 := l.map (mvB 97 65)
set_option maxHeartbeats 1000000 in
set_option maxRecDepth 100000 in
theorem great_any (s : ByteArray) (hs : s.size ≤ 9223372036854775807) (w : World) :
    Calls Tryd.prog 30 #[.string s] w fun e w' => e = .returned (.string ⟨(great s.data.toList).toArray⟩) ∧ Below w.heap.size w w' := by
  have b2 : Below w.heap.size w ((w.alloc (.cells #[.int .u8 97] 5)).alloc (.cells #[.int .u8 65] 5)) := ((Below.refl _ _).alloc (Nat.le_refl _) _).alloc (by simp) _
  go_enter Tryd.func30, Tryd.ntmps30
  go_wp2_with (first | (go_at_call 59; refine (moving_any _ _ _).mono ?_; rintro e w' ⟨rfl, rfl⟩) | (go_at_call 58; refine (eachByte_any 97 65 (by omega) (by omega) _ _ s hs _ (by simp) (by simp) (by simp; omega) (by simp)).mono ?_; rintro e w' ⟨rfl, hb⟩))
  go_ret
  exact ⟨rfl, b2.trans (hb.mono (by simp; omega))⟩
set_option maxHeartbeats 1000000 in
set_option maxRecDepth 100000 in
theorem rgreat_any (s : ByteArray) (hs : s.size ≤ 9223372036854775807) (w : World) :
    Calls Tryd.prog 62 #[.string s] w fun e w' => e = .returned (.string ⟨(great s.data.toList).toArray⟩) ∧ Below w.heap.size w w' := by
  have hlen : s.data.toList.length = s.size := (Lib.size_eq s).symm
  unfold great
  go_enter Tryd.func62, Tryd.ntmps62
  go_wp2_with (refine wpL_tobytes (w0 := w) (s := s) rfl rfl rfl (Below.refl _ _) (by unfold maxLen; omega) ?_; intro cap w1 hr hc1 hc2 hb1)
  unfold maxLen at hc2
  go_loopw [4] (fun i wr => ∃ (j : Nat) (l : List UInt8), j ≤ s.size ∧ i = .int .i64 j ∧ RowB w wr w.heap.size l ∧ l.length = s.size ∧ l.take j ++ (l.drop j).map (mvB 97 65) = s.data.toList.map (mvB 97 65)) (fun i wr => s.size - (intOf i).toNat)
  case atStart => exact ⟨0, s.data.toList, by omega, rfl, hr, hlen, by simp⟩
  case round =>
    obtain ⟨j, l, hj, rfl, hrow, hl, hm⟩ := hrel
    by_cases hlt : j < s.size
    · have hjl : j < l.length := by omega
      have hcell := hrow.cell j l[j] (List.getElem?_eq_getElem hjl)
      have hfr := hrow.free j hjl
      have hm' : (l.set j (mvB 97 65 l[j])).take (j + 1) ++ ((l.set j (mvB 97 65 l[j])).drop (j + 1)).map (mvB 97 65) = s.data.toList.map (mvB 97 65) := by
        rw [← hm, List.drop_set_of_lt (by omega), List.take_set, List.take_succ_eq_append_getElem hjl, List.set_append_right _ _ (by simp; omega)]
        rw [List.drop_eq_getElem_cons hjl, List.map_cons]
        simp [-List.map_drop, Nat.min_eq_left (Nat.le_of_lt hjl)]
      have hcb := (l[j]).toNat_lt
      have HL := Lib.hid hl
      by_cases hin : 97 ≤ (l[j]).toNat ∧ (l[j]).toNat ≤ 122
      · have hnew := hrow.set hjl (mvB 97 65 l[j])
        rw [mvB_num 97 65 (by omega)] at hnew
        have he : mv 97 65 (l[j].toNat : Int) = (l[j].toNat : Int) - 32 := by unfold mv; rw [if_pos (by omega)]; omega
        rw [he] at hnew
        have HM := Lib.hid hm'
        clear hm hm' hl hlen he
        generalize l[j] = c at *
        obtain ⟨h1, h2⟩ := hin
        have h1' : (97 : Int) ≤ (c.toNat : Int) := by omega
        have h2' : (c.toNat : Int) ≤ 122 := by omega
        have hd1 : decide ((97 : Int) ≤ (c.toNat : Int)) = true := by simpa using h1'
        go_wp2
        exact ⟨⟨j + 1, _, by omega, by go_num, hnew, by rw [List.length_set]; exact HL.out, HM.out⟩, by simp [intOf]; omega⟩
      · have he : mvB 97 65 l[j] = l[j] := by
          apply UInt8.toNat_inj.1
          have := mvB_num 97 65 (by omega) l[j]
          unfold mv at this
          rw [if_neg (by omega)] at this
          omega
        rw [he] at hm'
        have hsame : l.set j l[j] = l := List.set_getElem_self hjl
        rw [hsame] at hm'
        have HM := Lib.hid hm'
        clear hm hm' hl hlen he hsame
        generalize l[j] = c at *
        by_cases h1 : 97 ≤ c.toNat
        · have h1' : (97 : Int) ≤ (c.toNat : Int) := by omega
          have h2' : ¬ (c.toNat : Int) ≤ 122 := by omega
          have hd1 : decide ((97 : Int) ≤ (c.toNat : Int)) = true := by simpa using h1'
          go_wp2
          exact ⟨⟨j + 1, l, by omega, by go_num, hrow, HL.out, HM.out⟩, by simp [intOf]; omega⟩
        · have h1' : ¬ (97 : Int) ≤ (c.toNat : Int) := by omega
          have hd1 : decide ((97 : Int) ≤ (c.toNat : Int)) = false := by simpa using h1'
          go_wp2
          exact ⟨⟨j + 1, l, by omega, by go_num, hrow, HL.out, HM.out⟩, by simp [intOf]; omega⟩
    · have hs1 := bs_string' (n := s.size) cap hrow.bs hl
      have e1 : List.take j l = l := List.take_of_length_le (by omega)
      have e2 : List.drop j l = [] := List.drop_eq_nil_of_le (by omega)
      rw [e1, e2, List.map_nil, List.append_nil] at hm
      have HM := Lib.hid hm
      clear e1 e2 hm hl hlen
      go_wp2
      go_ret
      exact ⟨by rw [← HM.out]; rfl, hrow.bel⟩
theorem small_sm : small = smS := by
  funext l
  unfold small smS
  apply List.map_congr_left
  intro c _
  apply UInt8.toNat_inj.1
  have h := mvB_num 65 97 (by omega) c
  have hc := c.toNat_lt
  unfold mv at h
  unfold smB
  split
  · rw [if_pos (by omega)] at h
    rw [UInt8.toNat_add]
    simp
    omega
  · rw [if_neg (by omega)] at h
    omega
theorem great_gt : great = gtS := by
  funext l
  unfold great gtS
  apply List.map_congr_left
  intro c _
  apply UInt8.toNat_inj.1
  have h := mvB_num 97 65 (by omega) c
  have hc := c.toNat_lt
  unfold mv at h
  unfold gtB
  split
  · rw [if_pos (by omega)] at h
    rw [UInt8.toNat_sub]
    simp
    omega
  · rw [if_neg (by omega)] at h
    omega
theorem sm_any (s : List UInt8) (hs : s.length ≤ 9223372036854775807) (w : World) :
    Calls Tryd.prog 32 #[.string ⟨s.toArray⟩] w fun e w' => e = .returned (.string ⟨(smS s).toArray⟩) ∧ Below w.heap.size w w' := by
  have h := small_any ⟨s.toArray⟩ hs w
  rw [small_sm] at h
  exact h
theorem rsm_any (s : List UInt8) (hs : s.length ≤ 9223372036854775807) (w : World) :
    Calls Tryd.prog 35 #[.string ⟨s.toArray⟩] w fun e w' => e = .returned (.string ⟨(smS s).toArray⟩) ∧ Below w.heap.size w w' := by
  have h := rsmall_any ⟨s.toArray⟩ hs w
  rw [small_sm] at h
  exact h
theorem gt_any (s : List UInt8) (hs : s.length ≤ 9223372036854775807) (w : World) :
    Calls Tryd.prog 30 #[.string ⟨s.toArray⟩] w fun e w' => e = .returned (.string ⟨(gtS s).toArray⟩) ∧ Below w.heap.size w w' := by
  have h := great_any ⟨s.toArray⟩ hs w
  rw [great_gt] at h
  exact h
theorem rgt_any (s : List UInt8) (hs : s.length ≤ 9223372036854775807) (w : World) :
    Calls Tryd.prog 62 #[.string ⟨s.toArray⟩] w fun e w' => e = .returned (.string ⟨(gtS s).toArray⟩) ∧ Below w.heap.size w w' := by
  have h := rgreat_any ⟨s.toArray⟩ hs w
  rw [great_gt] at h
  exact h
end Go.Proofs.YtjblfemkecmlmaaDoor
