/- CodecQuotes' walk. -/
import Derived.Test.YtdikgifgapbocaaDoorC21
import Derived.Test.YtdikgifgapbocaaDoorL9
import Derived.Laws.DeepStrings4
set_option linter.unusedSimpArgs false
set_option linter.unusedVariables false
namespace Go.Proofs.YtdikgifgapbocaaDoor
open Go.RowKit Go.Shelf

theorem digs_all (k : Nat) : ∀ c ∈ Lib.decDigits k, 48 ≤ c.toNat ∧ c.toNat ≤ 57 := by
  induction k using Nat.strongRecOn with
  | ind k ih =>
    intro c hc
    by_cases h : k < 10
    · rw [digs_small h] at hc
      obtain rfl := List.mem_singleton.1 hc
      simp; omega
    · rw [digs_big h] at hc
      rcases List.mem_append.1 hc with hc | hc
      · exact ih (k / 10) (by omega) c hc
      · obtain rfl := List.mem_singleton.1 hc
        simp; omega
theorem at_of {Q : ByteArray} {L : List UInt8} (hQ : Q.data.toList = L) {j : Nat} {c : UInt8} (hj : L[j]? = some c) : ∃ h : j < Q.size, Q[j]'h = c := by
  subst hQ
  have hl := (List.getElem?_eq_some_iff.1 hj).1
  have hs : j < Q.size := by rw [Lib.size_eq]; exact hl
  refine ⟨hs, ?_⟩
  have := Lib.data_getElem? Q j hs
  exact Option.some.inj (this.symm.trans hj)
theorem at_drop {Q : ByteArray} {X : List UInt8} {n : Nat} (hQ : Q.data.toList.drop n = X) (k : Nat) {c : UInt8} (hj : X[k]? = some c) : ∃ h : n + k < Q.size, Q[n + k]'h = c := by
  subst hQ
  rw [List.getElem?_drop] at hj
  exact at_of rfl hj
theorem esc_len (l : List UInt8) : (esc l).length ≤ 2 * l.length := by
  induction l with
  | nil => simp [esc]
  | cons c t ih =>
    rw [esc]
    have : (escc c).length ≤ 2 := by unfold escc; split <;> simp
    simp only [List.length_append, List.length_cons]
    omega
theorem str_of {Q : ByteArray} {L : List UInt8} (hQ : Q.data.toList = L) : Q = ⟨L.toArray⟩ := by subst hQ; exact (str_eq rfl).symm
theorem ex_of {Q : ByteArray} {A B C : List UInt8} (hQ : Q.data.toList = A ++ B ++ C) {i j : Nat} (hi : A.length = i) (hj : A.length + B.length = j) : (Q.extract i j).data.toList = B := by
  subst hi hj
  rw [ByteArray.data_extract, Array.toList_extract, List.extract_eq_take_drop, hQ]
  simp
set_option maxHeartbeats 4000000 in
set_option maxRecDepth 1000000 in
theorem quotesA (s Q : ByteArray) (w : World) (hs : s.size ≤ 1048576) (hQ : Q.data.toList = 34 :: (esc s.data.toList ++ [34])) (hC : ∀ w, Tab w → Calls Tryd.prog 21 #[.string s] w fun e w' => e = .returned (.string Q) ∧ Below w.heap.size w w') (hM : Max w) (hT : Tab w) :
    Calls Tryd.prog 8 #[.string s] w fun e w' => e = .returned (.bool true) ∧ Below w.heap.size w w' := by
  obtain ⟨p0, g0⟩ := at_of (j := 0) hQ rfl
  have hsz : Q.size = (esc s.data.toList).length + 2 := by rw [Lib.size_eq, hQ]; simp
  obtain ⟨pe, ge⟩ := at_of (j := Q.size - 1) (c := 34) hQ (by rw [hsz]; simp [List.getElem?_append])
  have hel : (esc s.data.toList).length ≤ 2 * s.size := by rw [Lib.size_eq]; exact esc_len _
  have h2 : ¬ (Q.size : Int) < 2 := by omega
  have h3 : Q.size ≤ 3000000 := by omega
  have h4 : (Q.size : Int) ≤ 3000000 := by omega
  clear hel
  have HQ : Hid (Q.data.toList = 34 :: (esc s.data.toList ++ [34])) := Lib.hid hQ
  have HZ : Hid (Q.size = (esc s.data.toList).length + 2) := Lib.hid hsz
  clear hQ hsz
  go_enter Tryd.func8, Tryd.ntmps8
  go_wp2_with fail
  refine (shown_any w hM).mono ?_; rintro e w1 ⟨rfl, b1⟩
  go_wp2_with fail
  refine (hC w1 (hT.below b1)).mono ?_; rintro e w2 ⟨rfl, b2⟩
  have b2' := below_trans b1 b2
  have hT2 := hT.below b2'
  clear hC hT hM
  go_wp2
  go_loopw [8, 9] (fun o i wr => ∃ (n : Nat) (t : List UInt8) (a : Option Addr) (cap : Nat) (acc : List UInt8), 1 ≤ n ∧ o = .slice a acc.length cap ∧ i = .int .i64 n ∧ OB w2 wr a cap acc ∧ Hid (n + (esc t).length + 1 = Q.size) ∧ Hid (Q.data.toList.drop n = esc t ++ [34]) ∧ Hid (acc ++ t = s.data.toList) ∧ acc.length < n) (fun o i wr => Q.size - (intOf i).toNat)
  case atStart => exact ⟨1, s.data.toList, _, 0, [], Nat.le_refl _, rfl, rfl, OB.made w2 #[] 0 (by unfold maxLen; omega) rfl, Lib.hid (by have := HZ.out; omega), Lib.hid (by rw [HQ.out]; rfl), Lib.hid rfl, by simp⟩
  case round =>
    obtain ⟨n, t, a, cap, acc, hn, rfl, rfl, hob, hz, hd, hacc, hal⟩ := hrel
    have hz := hz.out
    cases t with
    | nil =>
      have hlt : ¬ n < Q.size - 1 := by simp [esc] at hz; omega
      have hlt' : ¬ (n : Int) < Q.size - 1 := by omega
      have hcv : (convert 22 9 (.slice a acc.length cap)).run Tryd.prog wr = .ok (.string s) wr := by
        rw [bs_string' cap hob.cells rfl]
        have : acc = s.data.toList := by have := hacc.out; simpa using this
        rw [← str_of this.symm]
      have hbw := hob.bel
      clear hz hd hacc
      go_wp2
      go_ret
      exact ⟨rfl, below_trans b2' hbw⟩
    | cons c t =>
      have hd := hd.out
      rw [esc] at hd hz
      have hlt : (n : Int) < Q.size - 1 := by
        have : 1 ≤ (escc c).length := by unfold escc; split <;> simp
        simp only [List.length_append] at hz
        omega
      have hacc' : Hid ((acc ++ [c]) ++ t = s.data.toList) := Lib.hid (by rw [← hacc.out]; simp)
      rcases esc_cases c with ⟨g1, hx⟩ | ⟨g1, g2, hx⟩ | ⟨g1, g2, hx⟩
      case inr.inr =>
        rw [hx] at hd hz
        obtain ⟨hp, hq⟩ := at_drop hd 0 rfl
        have hz' : Hid (n + 1 + (esc t).length + 1 = Q.size) := Lib.hid (by simp at hz; omega)
        have hd' : Hid (Q.data.toList.drop (n + 1) = esc t ++ [34]) := Lib.hid (by rw [← List.drop_drop, hd]; rfl)
        rw [Nat.add_zero] at hp
        replace hq : Q[n]'hp = c := hq
        have hc8 := c.toNat_lt
        clear hz hd hx hacc
        go_wp2_with (at_builtin; refine wpL_ob rfl rfl rfl (by assumption) (by first | rfl | simp) rfl (by first | omega | (simp; omega)) ?_; intro a5 cap5 w5 hob5)
        exact ⟨⟨n + 1, t, a5, cap5, _, by omega, slice_eq (by simp), by go_num, hob5, hz', hd', hacc', by simp; omega⟩, by simp [intOf]; omega⟩
      all_goals
        rw [hx] at hd hz
        obtain ⟨hp, hq⟩ := at_drop hd 0 rfl
        obtain ⟨hp1, hq1⟩ := at_drop hd 1 rfl
        have hz' : Hid (n + 2 + (esc t).length + 1 = Q.size) := Lib.hid (by simp at hz; omega)
        have hd' : Hid (Q.data.toList.drop (n + 2) = esc t ++ [34]) := Lib.hid (by rw [← List.drop_drop, hd]; rfl)
        rw [Nat.add_zero] at hp
        replace hq : Q[n]'hp = 92 := hq
        have hc8 := c.toNat_lt
        clear hz hd hx hacc g1
        go_wp2_with (at_builtin; refine wpL_ob rfl rfl rfl (by assumption) (by first | rfl | simp) rfl (by first | omega | (simp; omega)) ?_; intro a5 cap5 w5 hob5)
        exact ⟨⟨n + 2, t, a5, cap5, _, by omega, slice_eq (by simp), by go_num, hob5, hz', hd', hacc', by simp; omega⟩, by simp [intOf]; omega⟩
set_option maxHeartbeats 4000000 in
set_option maxRecDepth 1000000 in
theorem quotesB (s Q : ByteArray) (w : World) (hs : s.size ≤ 1048576) (hQ : Q.data.toList = lit s.data.toList) (hC : ∀ w, Tab w → Calls Tryd.prog 21 #[.string s] w fun e w' => e = .returned (.string Q) ∧ Below w.heap.size w w') (hM : Max w) (hT : Tab w) :
    Calls Tryd.prog 8 #[.string s] w fun e w' => e = .returned (.bool true) ∧ Below w.heap.size w w' := by
  have hll : s.data.toList.length = s.size := (Lib.size_eq s).symm
  unfold lit at hQ
  rw [hll] at hQ
  have hda := digs_all s.size
  have hdl := digs_len s.size
  have hnum := number_digs s.size (by omega)
  generalize Lib.decDigits s.size = D at hQ hda hdl hnum
  obtain ⟨p0, g0⟩ := at_of (j := 0) hQ rfl
  have hsz : Q.size = D.length + 4 + s.size := by rw [Lib.size_eq, hQ]; simp [hll]; omega
  have hend : ∃ h : D.length + 1 < Q.size, Q[D.length + 1]'h = 125 := at_of hQ (by simp)
  have hdig : ∀ n, 1 ≤ n → n ≤ D.length → ∃ (h : n < Q.size) (c : UInt8), Q[n]'h = c ∧ 48 ≤ c.toNat ∧ c.toNat ≤ 57 := fun n h1 h2 => by
    obtain ⟨k, rfl⟩ : ∃ k, n = k + 1 := ⟨n - 1, by omega⟩
    have hk : D[k]? = some (D[k]'(by omega)) := List.getElem?_eq_getElem (by omega)
    obtain ⟨h, e⟩ := at_of (j := k + 1) hQ (c := D[k]'(by omega)) (by rw [List.getElem?_cons_succ, List.append_assoc, List.getElem?_append_left (by omega)]; exact hk)
    exact ⟨h, _, e, hda _ (List.getElem_mem _)⟩
  have hX : (Q.extract 1 (D.length + 1)).data.toList = D := ex_of (A := [123]) (B := D) (C := [125, 13, 10] ++ s.data.toList) (by rw [hQ]; simp) rfl (by simp; omega)
  have hx1 : Q.extract (D.length + 1) (D.length + 1 + 3) = ⟨#[125, 13, 10]⟩ := str_of (ex_of (A := 123 :: D) (B := [125, 13, 10]) (C := s.data.toList) (by rw [hQ]; simp) (by simp) (by simp))
  have hx2 : Q.extract (D.length + 1 + 3) Q.size = s := by
    rw [str_of (ex_of (Q := Q) (A := 123 :: (D ++ [125, 13, 10])) (B := s.data.toList) (C := []) (by rw [hQ]; simp) (i := D.length + 1 + 3) (j := Q.size) (by simp) (by simp [hll]; omega))]
  have hN := fun w => num_of (Q.extract 1 (D.length + 1)) D hX (some s.size) hnum (by rw [Lib.size_eq, hX]; omega) s.size (.tuple #[.int .i64 s.size, .bool true]) (by unfold numRes; simp) w
  generalize hm : D.length + 1 = m at *
  have h3 : Q.size = m + 3 + s.size := by omega
  have h4 : m ≤ 1048578 := by omega
  have h5 : ¬ (Q.size : Int) < 2 := by omega
  have hdig' : Hid (∀ n, 1 ≤ n → n < m → ∃ (h : n < Q.size) (c : UInt8), Q[n]'h = c ∧ 48 ≤ c.toNat ∧ c.toNat ≤ 57) := Lib.hid fun n h1 h2 => hdig n h1 (by omega)
  have hm1 : 1 ≤ m := by omega
  have h6 : (Q.size : Int) = m + 3 + s.size := by omega
  have h7 : Q.size ≤ 3000000 := by omega
  have H3 := Lib.hid h3
  have H6 := Lib.hid h6
  have HQ := Lib.hid hQ
  have e1 : ∀ w, (Instr.slice 9 (.string Q) (some (.int .i64 1)) (some (.int .i64 m)) none).run Tryd.prog w = .ok (.string (Q.extract 1 m)) w := fun w => run_slice_string w 9 Q .i64 .i64 1 m Tryd.underlying9 (by omega) (by omega) (by omega)
  have e2 : ∀ w, (Instr.slice 9 (.string Q) (some (.int .i64 m)) (some (.int .i64 (m + 3))) none).run Tryd.prog w = .ok (.string ⟨#[125, 13, 10]⟩) w := fun w => by
    rw [run_slice_string w 9 Q .i64 .i64 m (m + 3) Tryd.underlying9 (by omega) (by omega) (by omega), ← hx1]
    rfl
  have e3 : ∀ w, (Instr.slice 9 (.string Q) (some (.int .i64 (m + 3))) none none).run Tryd.prog w = .ok (.string s) w := fun w => by
    rw [run_slice_string_from_if w 9 Q .i64 (m + 3) Tryd.underlying9, if_pos (by omega)]
    congr 2
  clear hdig hX hnum hda hdl hsz hm hQ h3 h6
  obtain ⟨pe, ge⟩ := hend
  go_enter Tryd.func8, Tryd.ntmps8
  go_wp2_with fail
  refine (shown_any w hM).mono ?_; rintro e w1 ⟨rfl, b1⟩
  go_wp2_with fail
  refine (hC w1 (hT.below b1)).mono ?_; rintro e w2 ⟨rfl, b2⟩
  have b2' := below_trans b1 b2
  clear hC hT hM
  go_wp2
  go_loopw [5] (fun i wr => ∃ (n : Nat), 1 ≤ n ∧ n ≤ m ∧ i = .int .i64 n ∧ Below w.heap.size w wr) (fun i wr => Q.size - (intOf i).toNat)
  case atStart => exact ⟨1, Nat.le_refl _, hm1, rfl, b2'⟩
  case round =>
    obtain ⟨n, hn, hnm, rfl, hb⟩ := hrel
    by_cases he : n < m
    · obtain ⟨hp, c, hc, l1, l2⟩ := hdig'.out n hn he
      have l1' : (48 : Int) ≤ c.toNat := by omega
      have l2' : (c.toNat : Int) ≤ 57 := by omega
      clear hN hx1 hx2
      go_wp2
      exact ⟨⟨n + 1, by omega, by omega, by go_num, hb⟩, by simp [intOf]; omega⟩
    · obtain rfl : n = m := by omega
      have h8 : Hid ((Q.size : Int) = n + 3 + s.size) := H6
      go_wp2_with fail
      refine (hN wr).mono ?_; rintro e w3 ⟨rfl, b3⟩
      have h9 : ((Q.size : Int) == n + 3 + s.size) = true := by rw [beq_iff_eq]; exact h8.out
      go_wp2
      go_ret
      exact ⟨rfl, below_trans hb b3⟩
theorem quotes_any (s : ByteArray) (w : World) (hs : s.size ≤ 1048576) (hM : Max w) (hT : Tab w) :
    Calls Tryd.prog 8 #[.string s] w fun e w' => e = .returned (.bool true) ∧ Below w.heap.size w w' := by
  have hC : ∀ w, Tab w → Calls Tryd.prog 21 #[.string s] w fun e w' => e = .returned (.string ⟨(quote s.data.toList).toArray⟩) ∧ Below w.heap.size w w' := fun w h => quote_any s w (by omega) (.inr h)
  by_cases hp : plain s.data.toList = true
  · have hq : quote s.data.toList = 34 :: (esc s.data.toList ++ [34]) := by unfold quote; rw [if_pos hp]
    exact quotesA s _ w hs (by rw [hq]) hC hM hT
  · have hq : quote s.data.toList = lit s.data.toList := by unfold quote; rw [if_neg hp]
    exact quotesB s _ w hs (by rw [hq]) hC hM hT
end Go.Proofs.YtdikgifgapbocaaDoor
