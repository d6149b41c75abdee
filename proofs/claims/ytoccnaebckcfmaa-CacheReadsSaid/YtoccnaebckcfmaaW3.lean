/- What a head's bytes are, and how they are read back. -/
import Derived.Test.YtoccnaebckcfmaaW2
import Derived.Lib.BufferWrite
set_option linter.unusedSimpArgs false
set_option linter.unusedVariables false
set_option maxRecDepth 8000
namespace Go.Proofs.Ytoccnaebckcfmaa
open Go.RowKit

def markL : List Int := [101, 115, 116, 97, 102, 101, 116, 116, 101, 32, 108, 111, 103]
def M : Array Value := ((markL ++ List.replicate 51 0).map (Value.int .u8)).toArray
def markS : ByteArray := { data := #[101, 115, 116, 97, 102, 101, 116, 116, 101, 32, 108, 111, 103] }

theorem run_copyMark (w : World) : (Builtin.copy_ #[34, 9] 3 #[.slice (some ⟨w.heap.size, 0, none⟩) 64 64, .string { data := #[101, 115, 116, 97, 102, 101, 116, 116, 101, 32, 108, 111, 103] }]).run Try.prog (w.alloc (.cells Z 5)) = .ok (.int .i64 13) (w.alloc (.cells M 5)) := by
  have hr := Go.Lib.run_copy_row_string (P := Try.prog) (w.alloc (.cells Z 5)) 34 9 3 5 w.heap.size 0 64 64 markS Z 5 Try.underlying34 (by kernel_rfl) (heap_alloc_last w _) (by decide) (by decide)
  have e : (Z.toList.take 0 ++ Go.Lib.byteCells markS.data.toList ++ Z.toList.drop (0 + markS.size)).toArray = M := by kernel_rfl
  rw [e, World.setRow_alloc_new] at hr
  exact hr

def headK (a s g p : Int) : Nat → Array Value
  | 0 => M
  | 1 => stored M 13 a 4
  | 2 => stored (stored M 13 a 4) 17 s 4
  | 3 => stored (stored (stored M 13 a 4) 17 s 4) 21 g 4
  | _ => stored (stored (stored (stored M 13 a 4) 17 s 4) 21 g 4) 25 p 4
/-- A head's bytes. -/
def headA (a s g p : Int) : Array Value := stored (stored (stored (stored M 13 a 4) 17 s 4) 21 g 4) 25 p 4
def headF (a s g p : Int) (j : Nat) : Int :=
  if 25 ≤ j ∧ j < 29 then le p (j - 25) else if 21 ≤ j ∧ j < 25 then le g (j - 21) else if 17 ≤ j ∧ j < 21 then le s (j - 17) else if 13 ≤ j ∧ j < 17 then le a (j - 13) else (markL ++ List.replicate 51 0).getD j 0

theorem M_at (j : Nat) (h : j < 64) : M[j]? = some (.int .u8 ((markL ++ List.replicate 51 0).getD j 0)) := by
  have hl : (markL ++ List.replicate 51 0).length = 64 := by decide
  simp only [M, List.getElem?_toArray, List.getElem?_map, List.getD_eq_getElem?_getD]
  rw [List.getElem?_eq_getElem (by rw [hl]; exact h)]
  rfl
theorem M_size : M.size = 64 := by decide
theorem headA_at (a s g p : Int) (j : Nat) (h : j < 64) : (headA a s g p)[j]? = some (.int .u8 (headF a s g p j)) := by
  have hs := M_size
  unfold headA headF
  by_cases h1 : 25 ≤ j ∧ j < 29
  · rw [if_pos h1, stored_at _ _ _ _ _ h1.1 (by omega) (by simp only [stored_size]; omega)]
  · rw [if_neg h1, stored_ge _ _ _ _ _ (by omega)]
    by_cases h2 : 21 ≤ j ∧ j < 25
    · rw [if_pos h2, stored_at _ _ _ _ _ h2.1 (by omega) (by simp only [stored_size]; omega)]
    · rw [if_neg h2, stored_ge _ _ _ _ _ (by omega)]
      by_cases h3 : 17 ≤ j ∧ j < 21
      · rw [if_pos h3, stored_at _ _ _ _ _ h3.1 (by omega) (by simp only [stored_size]; omega)]
      · rw [if_neg h3, stored_ge _ _ _ _ _ (by omega)]
        by_cases h4 : 13 ≤ j ∧ j < 17
        · rw [if_pos h4, stored_at _ _ _ _ _ h4.1 (by omega) (by omega)]
        · rw [if_neg h4, stored_ge _ _ _ _ _ (by omega), M_at j h]
theorem headA_size (a s g p : Int) : (headA a s g p).size = 64 := by simp only [headA, stored_size, M_size]
theorem headF_bd (a s g p : Int) (j : Nat) : 0 ≤ headF a s g p j ∧ headF a s g p j < 256 := by
  unfold headF
  split; exact le_bd _ _
  split; exact le_bd _ _
  split; exact le_bd _ _
  split; exact le_bd _ _
  by_cases h : j < 64
  · have : ∀ x ∈ (markL ++ List.replicate 51 0), 0 ≤ x ∧ x < 256 := by decide
    rw [List.getD_eq_getElem?_getD]
    have hl : (markL ++ List.replicate 51 (0 : Int)).length = 64 := by decide
    rw [List.getElem?_eq_getElem (by rw [hl]; exact h)]
    exact this _ (List.getElem_mem _)
  · rw [List.getD_eq_getElem?_getD, List.getElem?_eq_none (by rw [show (markL ++ List.replicate 51 (0 : Int)).length = 64 by decide]; omega)]
    decide
theorem secOk_bytes {c : Array Value} (h : c.size = 64) (f : Nat → Int) (hf : ∀ j, j < 64 → c[j]? = some (.int .u8 (f j))) : SecOk c := ⟨h, by
  rw [Array.all_eq_true_iff_forall_mem]; intro x hx
  obtain ⟨i, hi, rfl⟩ := Array.mem_iff_getElem.1 hx
  have := hf i (by omega)
  rw [Array.getElem?_eq_getElem hi] at this
  rw [Option.some.inj this]; rfl⟩
theorem headA_ok (a s g p : Int) : SecOk (headA a s g p) := secOk_bytes (headA_size a s g p) _ (headA_at a s g p)

theorem headK_zero (a s g p : Int) : headK a s g p 0 = M := rfl
theorem headK_size (a s g p : Int) (k : Nat) : (headK a s g p k).size = 64 := by
  unfold headK
  split <;> simp only [stored_size, M_size]
theorem headK_1 (a s g p : Int) : headK a s g p 1 = stored M 13 a 4 := rfl
theorem headK_2 (a s g p : Int) : headK a s g p 2 = stored (stored M 13 a 4) 17 s 4 := rfl
theorem headK_3 (a s g p : Int) : headK a s g p 3 = stored (stored (stored M 13 a 4) 17 s 4) 21 g 4 := rfl
theorem headK_pre0 (a s g p : Int) (j : Nat) (hj : j < 4) : ∃ z, (headK a s g p 0)[13 + j]? = some (.int .u8 z) := by
  refine Exists.intro ((markL ++ List.replicate 51 0).getD (13 + j) 0) ?_
  unfold headK
  exact M_at _ (by omega)
theorem headK_pre1 (a s g p : Int) (j : Nat) (hj : j < 4) : ∃ z, (headK a s g p 1)[17 + j]? = some (.int .u8 z) := by
  refine Exists.intro ((markL ++ List.replicate 51 0).getD (17 + j) 0) ?_
  rw [headK_1]
  rw [stored_ge _ _ _ _ _ (by omega)]; exact M_at _ (by omega)
theorem headK_pre2 (a s g p : Int) (j : Nat) (hj : j < 4) : ∃ z, (headK a s g p 2)[21 + j]? = some (.int .u8 z) := by
  refine Exists.intro ((markL ++ List.replicate 51 0).getD (21 + j) 0) ?_
  rw [headK_2]
  rw [stored_ge _ _ _ _ _ (by omega)]; rw [stored_ge _ _ _ _ _ (by omega)]; exact M_at _ (by omega)
theorem headK_pre3 (a s g p : Int) (j : Nat) (hj : j < 4) : ∃ z, (headK a s g p 3)[25 + j]? = some (.int .u8 z) := by
  refine Exists.intro ((markL ++ List.replicate 51 0).getD (25 + j) 0) ?_
  rw [headK_3]
  rw [stored_ge _ _ _ _ _ (by omega)]; rw [stored_ge _ _ _ _ _ (by omega)]; rw [stored_ge _ _ _ _ _ (by omega)]; exact M_at _ (by omega)

set_option maxHeartbeats 1000000 in
theorem bytes_any (w : World) (a s g p : Int) (ha : 0 ≤ a ∧ a ≤ 9223372036854775807) (hs : 0 ≤ s ∧ s ≤ 9223372036854775807) (hg : 0 ≤ g ∧ g ≤ 9223372036854775807) (hp : 0 ≤ p ∧ p ≤ 9223372036854775807) :
    Calls Try.prog 59 #[.agg #[.int .i64 a, .int .i64 s, .int .i64 g, .int .i64 p]] w fun e w' => ∃ q, e = .returned (.slice (some ⟨q, 0, none⟩) 64 64) ∧ w.heap.size ≤ q ∧ w'.heap[q]? = some (.cells (headA a s g p) 5 (0, 0)) ∧ Only [] w w' := by
  have hmk := make64
  have hcp := run_copyMark (w.alloc (.cells #[.int .i64 a, .int .i64 s, .int .i64 g, .int .i64 p] 99))
  simp only [World.size_alloc] at hcp
  go_enter Try.func59, Try.ntmps59
  go_wp2
  go_loopw [22, 4] (fun i r wr => ∃ k : Nat, k ≤ 4 ∧ i = .int .i64 k ∧ r = .slice (some ⟨w.heap.size + 1, 13 + 4 * k, none⟩) (51 - 4 * k) (51 - 4 * k) ∧ wr.heap[w.heap.size + 1]? = some (.cells (headK a s g p k) 5 (0, 0)) ∧ wr.heap[w.heap.size + 2]? = some (.cells #[.int .i64 a, .int .i64 s, .int .i64 g, .int .i64 p] 3 (0, 0)) ∧ Only [] w wr) (fun i _ _ => 4 - (intOf i).toNat)
  case atStart =>
    refine ⟨0, by omega, rfl, by rfl, ?_, ?_, ?_⟩
    · rw [Below.heap_alloc _ _ _ (by simp), headK_zero]
      have := heap_alloc_last (w.alloc (.cells #[.int .i64 a, .int .i64 s, .int .i64 g, .int .i64 p] 99)) (.cells M 5)
      rw [World.size_alloc] at this
      exact this
    · have := heap_alloc_last ((w.alloc (.cells #[.int .i64 a, .int .i64 s, .int .i64 g, .int .i64 p] 99)).alloc (.cells M 5)) (.cells #[.int .i64 a, .int .i64 s, .int .i64 g, .int .i64 p] 3)
      simp only [World.size_alloc] at this
      exact this
    · exact (((Only.refl [] w).alloc _).alloc _).alloc _
  case round =>
    obtain ⟨k, hk, rfl, rfl, hb, hi, ho⟩ := hrel
    by_cases hlt : k < 4
    · have hk4 : k = 0 ∨ k = 1 ∨ k = 2 ∨ k = 3 := by omega
      have hgt : w.heap.size + 1 < wr.heap.size := (Array.getElem?_eq_some_iff.1 hb).1
      have HO := Lib.hid ho
      have HI := Lib.hid hi
      rcases hk4 with rfl | rfl | rfl | rfl
      · have ST := Lib.hid (store_any wr (w.heap.size + 1) 13 4 51 (headK a s g p 0) 5 a hb (by omega) (by rw [headK_size]; omega) (headK_pre0 a s g p) ha.1 ha.2)
        have hcell : wr.cell? ⟨w.heap.size + 2, 0, none⟩ = some (.int .i64 a) := by rw [cell_of_row _ _ _ _ _ _ hi]; rfl
        clear hb ho hi
        go_wp2_with (go_at_call 80; refine ST.out.mono ?_; rintro e w' ⟨rfl, hb', ho'⟩)
        go_roundw
        case rel =>
          refine ⟨1, by omega, by go_num, by simp, hb', (ho'.block _ (Array.getElem?_eq_some_iff.1 HI.out).1 (by simp)).trans HI.out, HO.out.trans ho' (by simp)⟩
        case measure => simp [intOf]
      · have ST := Lib.hid (store_any wr (w.heap.size + 1) 17 4 47 (headK a s g p 1) 5 s hb (by omega) (by rw [headK_size]; omega) (headK_pre1 a s g p) hs.1 hs.2)
        have hcell : wr.cell? ⟨w.heap.size + 2, 1, none⟩ = some (.int .i64 s) := by rw [cell_of_row _ _ _ _ _ _ hi]; rfl
        clear hb ho hi
        go_wp2_with (go_at_call 80; refine ST.out.mono ?_; rintro e w' ⟨rfl, hb', ho'⟩)
        go_roundw
        case rel =>
          refine ⟨2, by omega, by go_num, by simp, hb', (ho'.block _ (Array.getElem?_eq_some_iff.1 HI.out).1 (by simp)).trans HI.out, HO.out.trans ho' (by simp)⟩
        case measure => simp [intOf]
      · have ST := Lib.hid (store_any wr (w.heap.size + 1) 21 4 43 (headK a s g p 2) 5 g hb (by omega) (by rw [headK_size]; omega) (headK_pre2 a s g p) hg.1 hg.2)
        have hcell : wr.cell? ⟨w.heap.size + 2, 2, none⟩ = some (.int .i64 g) := by rw [cell_of_row _ _ _ _ _ _ hi]; rfl
        clear hb ho hi
        go_wp2_with (go_at_call 80; refine ST.out.mono ?_; rintro e w' ⟨rfl, hb', ho'⟩)
        go_roundw
        case rel =>
          refine ⟨3, by omega, by go_num, by simp, hb', (ho'.block _ (Array.getElem?_eq_some_iff.1 HI.out).1 (by simp)).trans HI.out, HO.out.trans ho' (by simp)⟩
        case measure => simp [intOf]
      · have ST := Lib.hid (store_any wr (w.heap.size + 1) 25 4 39 (headK a s g p 3) 5 p hb (by omega) (by rw [headK_size]; omega) (headK_pre3 a s g p) hp.1 hp.2)
        have hcell : wr.cell? ⟨w.heap.size + 2, 3, none⟩ = some (.int .i64 p) := by rw [cell_of_row _ _ _ _ _ _ hi]; rfl
        clear hb ho hi
        go_wp2_with (go_at_call 80; refine ST.out.mono ?_; rintro e w' ⟨rfl, hb', ho'⟩)
        go_roundw
        case rel =>
          refine ⟨4, by omega, by go_num, by simp, hb', (ho'.block _ (Array.getElem?_eq_some_iff.1 HI.out).1 (by simp)).trans HI.out, HO.out.trans ho' (by simp)⟩
        case measure => simp [intOf]
    · have : k = 4 := by omega
      subst this
      have HO := Lib.hid ho
      have HB := Lib.hid hb
      clear hb ho hi
      go_wp2
      go_ret
      exact ⟨_, rfl, by omega, HB.out, HO.out⟩

end Go.Proofs.Ytoccnaebckcfmaa
