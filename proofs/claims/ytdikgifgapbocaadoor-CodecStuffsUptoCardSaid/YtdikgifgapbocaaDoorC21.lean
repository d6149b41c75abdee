/- The document's Quote. -/
import Derived.Test.YtdikgifgapbocaaDoorC20
set_option linter.unusedSimpArgs false
set_option linter.unusedVariables false
namespace Go.Proofs.YtdikgifgapbocaaDoor
open Go.RowKit Go.Shelf

section
variable {ops : Array Oper} {rest : List Oper} {o : Oper} {act : Act} {Q : Exit → Act → World → Prop}
theorem wpL_obz {w0 w : World} {a : Option Addr} {cap : Nat} {l : List UInt8} {s x : Operand} {n : Nat} {z : Int} (c : UInt8) (hz : (c.toNat : Int) = z) (hgd : o.guard = none) (ho : o.op = .call { callee := .builtin .append, args := #[s, x], argTypes := #[22, 22] })
    (hs : act.eval s = .slice a n cap) (hob : OB w0 w a cap l) (hn : l.length = n) (hx : act.eval x = .slice (some ⟨w.heap.size, 0, none⟩) 1 1) (hl : l.length < 70368744177664)
    (h : ∀ a' cap' w', OB w0 w' a' cap' (l ++ [c]) → wpList Tryd.prog ops Q rest (act.put o.dst (.slice a' (n + 1) cap')) w') :
    wpList Tryd.prog ops Q (o :: rest) act (w.alloc (.cells #[.int .u8 z] 5)) := by
  subst hz
  exact wpL_ob hgd ho hs hob hn hx hl h
end
theorem OB.one (w : World) (c : UInt8) (z : Int) (hz : (c.toNat : Int) = z) : OB w (w.alloc (.cells #[.int .u8 z] 5)) (some ⟨w.heap.size, 0, none⟩) 1 [c] := by
  subst hz
  exact ⟨World.ownsRow_lit w #[.int .u8 c.toNat] 1 (Nat.le_refl _) (by unfold maxLen; omega) rfl, (Below.refl _ _).alloc (Nat.le_refl _) _⟩
def okB (c : UInt8) : Bool := decide (32 ≤ c.toNat ∧ c.toNat ≤ 126)
def quoteBy (b : Bool) (l : List UInt8) : List UInt8 := if b then 34 :: (esc l ++ [34]) else lit l
theorem esc_cases (c : UInt8) : (((c.toNat : Int) == 34) = true ∧ escc c = [92, c]) ∨ (((c.toNat : Int) == 34) = false ∧ ((c.toNat : Int) == 92) = true ∧ escc c = [92, c]) ∨ (((c.toNat : Int) == 34) = false ∧ ((c.toNat : Int) == 92) = false ∧ escc c = [c]) := by
  have hq : ∀ (k : Nat), k < 256 → (c = UInt8.ofNat k ↔ (c.toNat : Int) = k) := fun k hk => ⟨fun h => by subst h; simp; omega, fun h => UInt8.toNat_inj.1 (by simp; omega)⟩
  have h1 : c = 34 ↔ (c.toNat : Int) = 34 := hq 34 (by omega)
  have h2 : c = 92 ↔ (c.toNat : Int) = 92 := hq 92 (by omega)
  unfold escc
  by_cases e1 : c = 34
  · exact .inl ⟨by simpa using h1.1 e1, if_pos (.inl e1)⟩
  · have n1 := mt h1.2 e1
    by_cases e2 : c = 92
    · exact .inr (.inl ⟨by simpa using n1, by simpa using h2.1 e2, if_pos (.inr e2)⟩)
    · have n2 := mt h2.2 e2
      exact .inr (.inr ⟨by simpa using n1, by simpa using n2, if_neg (by rintro (h | h); exact e1 h; exact e2 h)⟩)
theorem ok_cases (b : Bool) (c : UInt8) : (b = false ∧ (b && okB c) = false) ∨ (b = true ∧ (c.toNat : Int) < 32 ∧ (b && okB c) = false) ∨ (b = true ∧ ¬ (c.toNat : Int) < 32 ∧ (32 : Int) ≤ c.toNat ∧ (126 : Int) < c.toNat ∧ (b && okB c) = false) ∨ (b = true ∧ (32 : Int) ≤ c.toNat ∧ (c.toNat : Int) ≤ 126 ∧ (b && okB c) = true) := by
  unfold okB
  cases b
  · exact .inl ⟨rfl, rfl⟩
  · refine .inr ?_
    by_cases h1 : c.toNat < 32
    · exact .inl ⟨rfl, by omega, by simp; omega⟩
    · by_cases h2 : c.toNat ≤ 126
      · exact .inr (.inr ⟨rfl, by omega, by omega, by simp; omega⟩)
      · exact .inr (.inl ⟨rfl, by omega, by omega, by omega, by simp; omega⟩)
theorem lit_str2 (s : ByteArray) : ((⟨#[123]⟩ : ByteArray) ++ ⟨(Lib.decDigits s.size).toArray⟩ ++ ⟨#[125, 13, 10]⟩ ++ s) = ⟨(lit s.data.toList).toArray⟩ := by
  apply ByteArray.ext
  apply Array.ext'
  rw [Lib.size_eq s]
  simp only [lit, ByteArray.data_append, Array.toList_append, List.cons_append, List.nil_append, List.append_assoc]
theorem quote_by (l : List UInt8) : quote l = quoteBy (decide (l.length ≤ 200) && l.all okB) l := rfl
set_option maxHeartbeats 4000000 in
set_option maxRecDepth 100000 in
theorem rquote_any (s : ByteArray) (w : World) (hs : s.size ≤ 8388608) :
    Calls Tryd.prog 22 #[.string s] w fun e w' => e = .returned (.string ⟨(quote s.data.toList).toArray⟩) ∧ Below w.heap.size w w' := by
  have hlen : s.data.toList.length = s.size := (Lib.size_eq s).symm
  have hstart : Hid (quote s.data.toList = quoteBy (decide (s.size ≤ 200) && (s.data.toList.drop 0).all okB) s.data.toList) := Lib.hid (by rw [quote_by, hlen]; rfl)
  have hD := rdigits_any s.size (by omega)
  have ho1 := OB.one w 34 34 rfl
  clear hlen
  go_enter Tryd.func22, Tryd.ntmps22
  go_wp2
  go_loopw [3, 4, 5] (fun p o i wr => ∃ (j : Nat) (b : Bool) (a : Option Addr) (cap : Nat) (acc : List UInt8), j ≤ s.size ∧ p = .bool b ∧ o = .slice a acc.length cap ∧ i = .int .i64 j ∧ OB w wr a cap acc ∧ Hid (quote s.data.toList = quoteBy (b && (s.data.toList.drop j).all okB) s.data.toList) ∧ Hid (acc ++ esc (s.data.toList.drop j) = 34 :: esc s.data.toList) ∧ acc.length ≤ 2 * j + 1) (fun p o i wr => s.size - (intOf i).toNat)
  case atStart => exact ⟨0, decide (s.size ≤ 200), _, 1, [34], by omega, by go_num, rfl, rfl, ho1, hstart, Lib.hid rfl, by simp⟩
  case round =>
    obtain ⟨j, b, a, cap, acc, hj, rfl, rfl, rfl, hob, hq, he, hal⟩ := hrel
    by_cases hp : j < s.size
    · have hq := hq.out
      have he := he.out
      rw [drop_at s j hp] at hq he
      have hc8 := (s[j]'hp).toNat_lt
      generalize hcc : s[j]'hp = c at *
      rw [List.all_cons] at hq
      rw [esc] at he
      rcases ok_cases b c with ⟨rfl, hk⟩ | ⟨rfl, l1, hk⟩ | ⟨rfl, l0, l1, l2, hk⟩ | ⟨rfl, l1, l2, hk⟩
      all_goals
        rw [← Bool.and_assoc, hk] at hq
        have HQ := Lib.hid hq
        rcases esc_cases c with ⟨g1, hx⟩ | ⟨g1, g2, hx⟩ | ⟨g1, g2, hx⟩
        all_goals
          rw [hx] at he
          have HE := Lib.hid he
          clear he hq hx
          go_wp2_with (at_builtin; first | (refine wpL_ob rfl rfl rfl (by assumption) (by first | rfl | simp) rfl (by first | omega | (simp; omega)) ?_; intro a2 cap2 w2 hob2) | (refine wpL_obz 92 rfl rfl rfl rfl (by assumption) (by first | rfl | simp) rfl (by first | omega | (simp; omega)) ?_; intro a2 cap2 w2 hob2))
          exact ⟨⟨j + 1, _, a2, cap2, _, by omega, by first | rfl | (congr 1; simp; omega), slice_eq (by simp), by go_num, hob2, HQ, Lib.hid (by rw [← HE.out]; simp), by simp; omega⟩, by simp [intOf]; omega⟩
    · have hq := hq.out
      have he := he.out
      rw [List.drop_eq_nil_of_le (by simpa using hp), List.all_nil, Bool.and_true] at hq
      rw [List.drop_eq_nil_of_le (by simpa using hp), esc, List.append_nil] at he
      have HE := Lib.hid he
      have hbw := hob.bel
      cases b
      · have HQ : Hid (quote s.data.toList = lit s.data.toList) := Lib.hid hq
        clear hq he
        have hdl := digs_len s.size
        go_wp2_with (go_at_call 27; refine (hD wr).mono ?_; rintro e w1 ⟨rfl, hb1⟩)
        go_ret
        refine ⟨?_, below_trans hbw hb1⟩
        rw [HQ.out, ← lit_str2]
        rfl
      · have HQ : Hid (quote s.data.toList = 34 :: (esc s.data.toList ++ [34])) := Lib.hid hq
        clear hq he
        go_wp2_with (at_builtin; refine wpL_obz 34 rfl rfl rfl rfl (by assumption) (by first | rfl | simp) rfl (by first | omega | (simp; omega)) ?_; intro a2 cap2 w2 hob2; have hcv := bs_string' (n := acc.length + 1) cap2 hob2.cells (by simp); have hb2 := hob2.bel)
        go_ret
        refine ⟨?_, hb2⟩
        rw [HQ.out, HE.out]
        rfl
end Go.Proofs.YtdikgifgapbocaaDoor
