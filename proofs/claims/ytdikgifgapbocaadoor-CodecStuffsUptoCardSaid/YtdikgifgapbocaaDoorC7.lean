/- strings.IndexRune at a rune beyond ASCII, in the letters: none. -/
import Derived.Test.YtdikgifgapbocaaDoorC6
import Derived.Laws.Runes
set_option linter.unusedSimpArgs false
set_option linter.unusedVariables false
namespace Go.Proofs.YtdikgifgapbocaaDoor
open Go.RowKit Go.Shelf

def alphB : ByteArray := ⟨#[65,66,67,68,69,70,71,72,73,74,75,76,77,78,79,80,81,82,83,84,85,86,87,88,89,90,97,98,99,100,101,102,103,104,105,106,107,108,109,110,111,112,113,114,115,116,117,118,119,120,121,122,48,49,50,51,52,53,54,55,56,57,43,47]⟩
theorem alphB_ascii : ∀ b ∈ alphB.data.toList, b.toNat < 128 := by decide +kernel
theorem index_none_of {l : List UInt8} {c : UInt8} (h : c ∉ l) : Lib.indexByte l c = -1 := by
  have h1 := Lib.indexByte_ge l c
  have h2 : l.contains c = decide (0 ≤ Lib.indexByte l c) := by
    induction l with
    | nil => rfl
    | cons b l ih =>
      have ih' := ih (fun hm => h (List.mem_cons_of_mem _ hm)) (Lib.indexByte_ge l c)
      have hb : (b == c) = false := by simpa using fun e => h (by simp [e])
      have hb2 : (c == b) = false := by simpa using fun e => h (by simp [e])
      rw [List.contains_cons, hb2, Bool.false_or, ih', Lib.indexByte, hb]
      simp only [Bool.false_eq_true, if_false]
      have := Lib.indexByte_ge l c
      split
      · rename_i e
        have e' := beq_iff_eq.1 e
        rw [e']
      · rename_i e
        have e' : Lib.indexByte l c ≠ -1 := fun e2 => e (beq_iff_eq.2 e2)
        rw [decide_eq_decide]
        omega
  have h3 : l.contains c = false := by simpa using h
  rw [h3] at h2
  have := of_decide_eq_false h2.symm
  omega
theorem idxHigh (k e : Nat) (c : Int) (h0 : 128 ≤ c) (h1 : c < 256) (w : World) : Calls Tryd.prog 56 #[.string (alphB.extract k e), .int .u8 c] w fun e w' => e = .returned (.int .i64 (-1)) ∧ w' = w := by
  refine (Tryd.strings_IndexByte _ c w).mono fun e w' ⟨he, hw⟩ => ⟨?_, hw⟩
  rw [he, index_none_of]
  intro hm
  have h2 := alphB_ascii _ (mem_extract hm)
  have : c.toNat.toUInt8.toNat = c.toNat := by
    rw [Nat.toUInt8]
    simp
    omega
  omega
theorem Below.drewN {B : Nat} {a w : World} (h : Below B a w) (n : Nat) : Below B a (w.drewN n) := h.trans ⟨rfl, rfl, rfl, Nat.le_refl _, fun _ _ => rfl⟩
/-- A call that changes nothing, behind a draws. -/
theorem qBehind {f : FuncId} {args : Array Value} {w : World} {a n : Nat} {v : Value} (c : ∀ W : World, Calls Tryd.prog f args W fun e w' => e = .returned v ∧ w' = W) :
    Calls Tryd.prog f args (w.drewN (a + n)) fun e w'' => e = .returned v ∧ ∃ m, w'' = w.drewN (a + m) := (c _).mono fun _ _ hh => ⟨hh.1, n, hh.2⟩
set_option maxHeartbeats 2000000 in
set_option maxRecDepth 100000 in
theorem indexRune_two (r : Int) (w : World) (h0 : 128 ≤ r) (hv : validRune r = true) (hne : r ≠ 65533) (h2 : (Utf8.encode r).size = 2) :
    Calls Tryd.prog 44 #[.string alphB, .int .i32 r] w fun e w' => e = .returned (.int .i64 (-1)) ∧ Below w.heap.size w w' := by
  obtain ⟨f1, f2, f3⟩ := encode_facts r (by rw [validRune_eq]; exact hv) h0
  have hn : ¬ r < 128 := by omega
  have hne' : (r == 65533) = false := by simpa using hne
  generalize hrs : Utf8.encode r = rs at h2 f1 f2 f3
  have hL : 128 ≤ (rs[1]'(by omega)).toNat := by
    have := f3 (by omega)
    simpa [h2] using this
  have hA : alphB[1].toNat < 128 := alphB_ascii _ (by decide +kernel)
  have hz : alphB.size = 64 := by kernel_rfl
  have hB := (rs[1]'(by omega)).toNat_lt
  have hne1 : ((alphB[1].toNat : Int) != ((rs[1]'(by omega)).toNat : Int)) = true := by simp; omega
  clear f3
  go_enter Tryd.func44, Tryd.ntmps44
  go_wp2_with (go_at_call 57; refine (Tryd.utf8_ValidRune _ _).mono ?_; rintro e w' ⟨rfl, rfl⟩)
  · go_ret
    exact ⟨rfl, Below.refl _ _⟩
  · go_wp2
    go_step3
    go_wp2
    refine wp_loop_rounds 1 ?_
    rw [rounds_succ]
    go_wp2
    go_step3
    go_wp2
    go_quiet (fail)
    go_wp2
    go_quiet ((go_at_call 56; exact qBehind (fun W => idxHigh _ _ _ (by omega) (by omega) W)))
    go_wp2
    rw [Exit.noGoto_ret]
    go_simp
    go_ret
    exact ⟨rfl, Below.drewN (Below.refl _ _) _⟩
set_option maxHeartbeats 2000000 in
set_option maxRecDepth 100000 in
theorem indexRune_three (r : Int) (w : World) (h0 : 128 ≤ r) (hv : validRune r = true) (hne : r ≠ 65533) (h2 : (Utf8.encode r).size = 3) :
    Calls Tryd.prog 44 #[.string alphB, .int .i32 r] w fun e w' => e = .returned (.int .i64 (-1)) ∧ Below w.heap.size w w' := by
  obtain ⟨f1, f2, f3⟩ := encode_facts r (by rw [validRune_eq]; exact hv) h0
  have hn : ¬ r < 128 := by omega
  have hne' : (r == 65533) = false := by simpa using hne
  generalize hrs : Utf8.encode r = rs at h2 f1 f2 f3
  have hL : 128 ≤ (rs[2]'(by omega)).toNat := by
    have := f3 (by omega)
    simpa [h2] using this
  have hA : alphB[2].toNat < 128 := alphB_ascii _ (by decide +kernel)
  have hz : alphB.size = 64 := by kernel_rfl
  have hB := (rs[2]'(by omega)).toNat_lt
  have hne1 : ((alphB[2].toNat : Int) != ((rs[2]'(by omega)).toNat : Int)) = true := by simp; omega
  clear f3
  go_enter Tryd.func44, Tryd.ntmps44
  go_wp2_with (go_at_call 57; refine (Tryd.utf8_ValidRune _ _).mono ?_; rintro e w' ⟨rfl, rfl⟩)
  · go_ret
    exact ⟨rfl, Below.refl _ _⟩
  · go_wp2
    go_step3
    go_wp2
    refine wp_loop_rounds 1 ?_
    rw [rounds_succ]
    go_wp2
    go_step3
    go_wp2
    go_quiet (fail)
    go_wp2
    go_quiet ((go_at_call 56; exact qBehind (fun W => idxHigh _ _ _ (by omega) (by omega) W)))
    go_wp2
    rw [Exit.noGoto_ret]
    go_simp
    go_ret
    exact ⟨rfl, Below.drewN (Below.refl _ _) _⟩
set_option maxHeartbeats 2000000 in
set_option maxRecDepth 100000 in
theorem indexRune_four (r : Int) (w : World) (h0 : 128 ≤ r) (hv : validRune r = true) (hne : r ≠ 65533) (h2 : (Utf8.encode r).size = 4) :
    Calls Tryd.prog 44 #[.string alphB, .int .i32 r] w fun e w' => e = .returned (.int .i64 (-1)) ∧ Below w.heap.size w w' := by
  obtain ⟨f1, f2, f3⟩ := encode_facts r (by rw [validRune_eq]; exact hv) h0
  have hn : ¬ r < 128 := by omega
  have hne' : (r == 65533) = false := by simpa using hne
  generalize hrs : Utf8.encode r = rs at h2 f1 f2 f3
  have hL : 128 ≤ (rs[3]'(by omega)).toNat := by
    have := f3 (by omega)
    simpa [h2] using this
  have hA : alphB[3].toNat < 128 := alphB_ascii _ (by decide +kernel)
  have hz : alphB.size = 64 := by kernel_rfl
  have hB := (rs[3]'(by omega)).toNat_lt
  have hne1 : ((alphB[3].toNat : Int) != ((rs[3]'(by omega)).toNat : Int)) = true := by simp; omega
  clear f3
  go_enter Tryd.func44, Tryd.ntmps44
  go_wp2_with (go_at_call 57; refine (Tryd.utf8_ValidRune _ _).mono ?_; rintro e w' ⟨rfl, rfl⟩)
  · go_ret
    exact ⟨rfl, Below.refl _ _⟩
  · go_wp2
    go_step3
    go_wp2
    refine wp_loop_rounds 1 ?_
    rw [rounds_succ]
    go_wp2
    go_step3
    go_wp2
    go_quiet (fail)
    go_wp2
    go_quiet ((go_at_call 56; exact qBehind (fun W => idxHigh _ _ _ (by omega) (by omega) W)))
    go_wp2
    rw [Exit.noGoto_ret]
    go_simp
    go_ret
    exact ⟨rfl, Below.drewN (Below.refl _ _) _⟩

set_option maxHeartbeats 2000000 in
set_option maxRecDepth 100000 in
theorem indexRune_error (w : World) :
    Calls Tryd.prog 44 #[.string alphB, .int .i32 65533] w fun e w' => e = .returned (.int .i64 (-1)) ∧ Below w.heap.size w w' := by
  go_enter Tryd.func44, Tryd.ntmps44
  go_wp2
  have hz : alphB.size = 64 := by kernel_rfl
  go_loopw [] (fun wr => ∃ pos : Nat, wr.heap[w.heap.size]? = some (.stringIter alphB pos) ∧ Below w.heap.size w wr) (fun wr => 64 - wr.iterPos w.heap.size)
  case atStart => exact ⟨0, World.iter_heap w alphB 0, ((Below.refl _ _).alloc (Nat.le_refl _) _)⟩
  case round =>
    obtain ⟨pos, hit, hbw⟩ := hrel
    by_cases hp : pos < alphB.size
    · have ha := alphB_ascii (alphB[pos]'hp) (by simp [ByteArray.getElem_eq_getElem_data])
      have hnx : ∀ ty, (Instr.next (.pointer (some ⟨w.heap.size, 0, none⟩)) true ty).run Tryd.prog wr = _ := fun ty => Lib.run_next_ascii_at wr w.heap.size alphB pos ty hit hp ha
      have hit2 := Lib.iterAt_heap wr w.heap.size alphB pos (pos + 1) hit
      have hbw2 := Lib.below_iterAt hbw (k := w.heap.size) (Nat.le_refl _) alphB (pos + 1)
      have hne : (((alphB[pos]'hp).toNat : Int) == 65533) = false := by simp; omega
      go_wp2
      go_roundw
      case rel => exact ⟨pos + 1, hit2, hbw2⟩
      case measure => simp only [World.iterPos, hit, hit2]; omega
    · have hnx : ∀ ty, (Instr.next (.pointer (some ⟨w.heap.size, 0, none⟩)) true ty).run Tryd.prog wr = _ := fun ty => Lib.run_next_end_at wr w.heap.size alphB pos ty hit hp
      go_wp2
      go_ret
      exact ⟨rfl, hbw⟩
set_option maxRecDepth 100000 in
theorem indexRune_high (r : Int) (h0 : 128 ≤ r) (h1 : r ≤ 2147483647) (w : World) :
    Calls Tryd.prog 44 #[.string alphB, .int .i32 r] w fun e w' => e = .returned (.int .i64 (-1)) ∧ Below w.heap.size w w' := by
  by_cases he : r = 65533
  · subst he; exact indexRune_error w
  by_cases hv : validRune r = true
  · obtain ⟨f1, f2, f3⟩ := encode_facts r (by rw [validRune_eq]; exact hv) h0
    rcases (show (Utf8.encode r).size = 2 ∨ (Utf8.encode r).size = 3 ∨ (Utf8.encode r).size = 4 by omega) with h | h | h
    · exact indexRune_two r w h0 hv he h
    · exact indexRune_three r w h0 hv he h
    · exact indexRune_four r w h0 hv he h
  · have hv' : Lib.validRune r = false := by
      rw [← Bool.not_eq_true]
      exact hv
    have hn : ¬ r < 128 := by omega
    have hne' : (r == 65533) = false := by simpa using he
    go_enter Tryd.func44, Tryd.ntmps44
    go_wp2_with (go_at_call 57; refine (Tryd.utf8_ValidRune _ _).mono ?_; rintro e w' ⟨rfl, hw⟩; rw [hw])
    go_ret
    exact ⟨rfl, Below.refl _ _⟩
end Go.Proofs.YtdikgifgapbocaaDoor
