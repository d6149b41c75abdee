/- The document's Digits; a number's digits read back. -/
import Derived.Test.YtdikgifgapbocaaDoorC18
set_option linter.unusedSimpArgs false
set_option linter.unusedVariables false
namespace Go.Proofs.YtdikgifgapbocaaDoor
open Go.RowKit Go.Shelf

theorem run_one (w : World) (x : Int) : (convert 22 9 (.slice (some ⟨w.heap.size, 0, none⟩) 1 1)).run Tryd.prog (w.alloc (.cells #[.int .u8 x] 5)) = .ok (.string ⟨#[UInt8.ofNat x.toNat]⟩) (w.alloc (.cells #[.int .u8 x] 5)) := by
  rw [run_convert_bytes_arg (w.alloc (.cells #[.int .u8 x] 5)) 22 5 Tryd.underlying22 Tryd.underlying5 w.heap.size 0 1 1 [x] rfl (fun i hi => ?_) 9 Tryd.underlying9]
  · rfl
  · obtain rfl : i = 0 := by omega
    rw [Lib.cell_of_heap (heap_alloc_new w _)]
    rfl
theorem str_cons (c : UInt8) (l : List UInt8) : (⟨#[c]⟩ : ByteArray) ++ ⟨l.toArray⟩ = ⟨(c :: l).toArray⟩ := by
  apply ByteArray.ext
  apply Array.ext'
  rw [ByteArray.data_append, Array.toList_append]
  rfl
set_option maxHeartbeats 2000000 in
set_option maxRecDepth 100000 in
theorem rdigits_any (n : Nat) (hn : n < 10000000000) (w : World) :
    Calls Tryd.prog 27 #[.int .i64 n] w fun e w' => e = .returned (.string ⟨(Lib.decDigits n).toArray⟩) ∧ Below w.heap.size w w' := by
  have hone := run_one
  have hdl := digs_len n
  go_enter Tryd.func27, Tryd.ntmps27
  go_wp2
  go_loopw [0, 3] (fun v s wr => ∃ (k : Nat) (acc : List UInt8), v = .int .i64 k ∧ s = .string ⟨acc.toArray⟩ ∧ k ≤ n ∧ Hid (Lib.decDigits k ++ acc = Lib.decDigits n) ∧ acc.length ≤ n + 1 ∧ Below w.heap.size w wr) (fun v s wr => (intOf v).toNat)
  case atStart => exact ⟨n, [], rfl, rfl, Nat.le_refl _, Lib.hid (by simp), by simp, Below.refl _ _⟩
  case round =>
    obtain ⟨k, acc, rfl, rfl, hk, hd, hal, hb⟩ := hrel
    have hz := hb.size
    by_cases h9 : 9 < k
    · have hd' : Hid (Lib.decDigits (k / 10) ++ (UInt8.ofNat (48 + k % 10) :: acc) = Lib.decDigits n) := Lib.hid (by rw [← hd.out, digs_big (u := k) (by omega)]; simp)
      have hal' : (UInt8.ofNat (48 + k % 10) :: acc).length ≤ n + 1 := by
        have := congrArg List.length hd'.out
        rw [List.length_append] at this
        omega
      have e1 : (48 : UInt8) + UInt8.ofNat (k % 10) = UInt8.ofNat (48 + k % 10) := by
        apply UInt8.toNat_inj.1
        simp [UInt8.toNat_add, UInt8.toNat_ofNat]
      have E1 := Lib.hid e1
      clear e1
      go_wp2
      refine ⟨⟨k / 10, UInt8.ofNat (48 + k % 10) :: acc, by go_num, by rw [E1.out, str_cons], by omega, hd', hal', hb.alloc hz _⟩, by simp [intOf]; omega⟩
    · have e1 : (48 : UInt8) + UInt8.ofNat k = UInt8.ofNat (48 + k) := by
        apply UInt8.toNat_inj.1
        simp [UInt8.toNat_add, UInt8.toNat_ofNat]
      have E1 := Lib.hid e1
      have hd' : Hid ((UInt8.ofNat (48 + k) :: acc) = Lib.decDigits n) := Lib.hid (by rw [← hd.out, digs_small (u := k) (by omega)]; rfl)
      clear e1
      go_wp2
      go_ret
      have hr : (⟨#[48 + UInt8.ofNat k]⟩ : ByteArray) ++ ⟨acc.toArray⟩ = ⟨(Lib.decDigits n).toArray⟩ := by rw [E1.out, str_cons, hd'.out]
      exact ⟨congrArg (fun x => Ending.returned (Value.string x)) hr, hb.alloc hz _⟩
theorem head_app {l : List UInt8} (l2 : List UInt8) (h : l ≠ []) : (l ++ l2).head? = l.head? := by
  cases l with
  | nil => exact absurd rfl h
  | cons c t => rfl
theorem digs_head (n : Nat) (h : 0 < n) : (Lib.decDigits n).head? ≠ some 48 := by
  induction n using Nat.strongRecOn with
  | ind n ih =>
    by_cases h9 : n < 10
    · rw [digs_small h9]
      simp only [List.head?_cons, ne_eq, Option.some.injEq]
      intro e
      have := congrArg UInt8.toNat e
      simp [UInt8.toNat_ofNat] at this
      omega
    · rw [digs_big h9]
      have h1 := ih (n / 10) (by omega) (by omega)
      have hne : Lib.decDigits (n / 10) ≠ [] := by
        by_cases h8 : n / 10 < 10
        · rw [digs_small h8]; simp
        · rw [digs_big h8]; simp
      rwa [head_app _ hne]
theorem digs_zero : Lib.decDigits 0 = [48] := by rw [digs_small (by omega)]; rfl
theorem dg_snoc (l : List UInt8) (c : UInt8) : ∀ m, dg (l ++ [c]) m = (dg l m).bind (fun n => if 48 ≤ c.toNat ∧ c.toNat ≤ 57 then some (n * 10 + (c.toNat - 48)) else none) := by
  induction l with
  | nil => intro m; simp [dg]
  | cons d t ih =>
    intro m
    rw [List.cons_append, dg, dg]
    by_cases h : 48 ≤ d.toNat ∧ d.toNat ≤ 57
    · rw [if_pos h, if_pos h, ih]
    · rw [if_neg h, if_neg h]; rfl
theorem digs_back (k : Nat) : ∀ (l : List UInt8), l.length ≤ k → l ≠ [] → ∀ n, dg l 0 = some n → (l.head? ≠ some 48 ∨ l = [48]) → Lib.decDigits n = l := by
  induction k with
  | zero => intro l hl h; exact absurd (List.eq_nil_of_length_eq_zero (by omega)) h
  | succ k ih =>
    intro l hl hne n hn hh
    obtain ⟨l', c, rfl⟩ : ∃ l' c, l = l' ++ [c] := ⟨l.dropLast, l.getLast hne, (List.dropLast_concat_getLast hne).symm⟩
    rw [dg_snoc] at hn
    cases hd : dg l' 0 with
    | none => rw [hd] at hn; cases hn
    | some m =>
      rw [hd] at hn
      simp only [Option.bind_some] at hn
      by_cases hc : 48 ≤ c.toNat ∧ c.toNat ≤ 57
      · rw [if_pos hc] at hn
        have hn' := Option.some.inj hn
        by_cases h0 : l' = []
        · subst h0
          simp only [dg, Option.some.injEq] at hd
          subst hd
          rw [digs_small (by omega)]
          have : UInt8.ofNat (48 + n) = c := by
            rw [← hn', show 48 + (0 * 10 + (c.toNat - 48)) = c.toNat by omega]
            simp
          rw [this]; rfl
        · have hh' : l'.head? ≠ some 48 := by
            rcases hh with h | h
            · rwa [head_app _ h0] at h
            · exfalso
              have := congrArg List.length h
              simp at this
              exact h0 this
          have hm := ih l' (by simp at hl; omega) h0 m hd (.inl hh')
          have hm1 : 0 < m := by
            rcases Nat.eq_zero_or_pos m with e | e
            · subst e
              rw [digs_zero] at hm
              exact absurd (by rw [← hm]; rfl) hh'
            · exact e
          rw [digs_big (by omega), show n / 10 = m by omega, hm, show n % 10 = c.toNat - 48 by omega, show 48 + (c.toNat - 48) = c.toNat by omega]
          simp
      · rw [if_neg hc] at hn; cases hn
theorem number_dg {l : List UInt8} {n : Nat} (h0 : l ≠ []) (h10 : l.length ≤ 10) (hd : dg l 0 = some n) : number l = if Lib.decDigits n = l then some n else none := by
  unfold number
  by_cases hz : l.head? = some 48 ∧ l ≠ [48]
  · rw [if_pos (.inr (.inr hz)), if_neg]
    intro e
    rcases Nat.eq_zero_or_pos n with h | h
    · subst h; exact hz.2 (by rw [← e, digs_zero])
    · exact digs_head n h (by rw [e]; exact hz.1)
  · rw [if_neg (by rintro (h | h | h); exact h0 h; omega; exact hz h), hd, if_pos]
    exact digs_back l.length l (Nat.le_refl _) h0 n hd (by
      by_cases h1 : l = [48]
      · exact .inr h1
      · exact .inl fun h => hz ⟨h, h1⟩)
end Go.Proofs.YtdikgifgapbocaaDoor
