/- What unpack does. -/
import Derived.Test.YtoccnaebckcfmaaW18
set_option linter.unusedSimpArgs false
set_option linter.unusedVariables false
set_option maxRecDepth 8000
namespace Go.Proofs.Ytoccnaebckcfmaa
open Go.RowKit

/-- Number i of a sector of numbers. -/
def unp (f : Nat → Int) (i : Nat) : Int := ldF (fun j => f (i * 2 + j)) 2

structure UnpRow (f : Nat → Int) (A : Array Value) (k : Nat) : Prop where
  size : A.size = 32
  got : ∀ j, j < k → A[j]? = some (.int .i64 (unp f j))
  zero : ∀ j, k ≤ j → j < 32 → A[j]? = some (.int .i64 0)

set_option maxHeartbeats 1000000 in
theorem unpack_any (w : World) (g : Nat) (f : Nat → Int) (hc : ∀ j, j < 64 → w.cell? ⟨g, j, none⟩ = some (.int .u8 (f j))) (hgw : g < w.heap.size) (hf : ∀ j, 0 ≤ f j ∧ f j < 256) :
    Calls Try.prog 90 #[.slice (some ⟨g, 0, none⟩) 64 64] w fun e w' => e = .returned (.slice (some ⟨w.heap.size, 0, none⟩) 32 32) ∧ (∃ A, w'.heap[w.heap.size]? = some (.cells A 3 (0, 0)) ∧ UnpRow f A 32) ∧ Only [] w w' := by
  have hmk : ∀ w : World, (Instr.makeSlice 40 (.int .i64 32) (.int .i64 32)).run Try.prog w = .ok (.slice (some ⟨w.heap.size, 0, none⟩) 32 32) (w.alloc (.cells (madeCells #[.int .i64 0] 32) 3)) := make33 32 (by omega)
  have HC := Lib.hid hc
  have HF := Lib.hid hf
  clear hc hf
  go_enter Try.func90, Try.ntmps90
  go_wp2
  go_loopw [8] (fun i wr => ∃ (k : Nat) (A : Array Value), k ≤ 32 ∧ i = .int .i64 k ∧ wr.heap[w.heap.size]? = some (.cells A 3 (0, 0)) ∧ UnpRow f A k ∧ Only [] w wr) (fun i _ => 32 - (intOf i).toNat)
  case atStart => exact ⟨0, _, by omega, rfl, heap_alloc_last w _, ⟨(made_row 32).1, by simp, fun j _ hj => (made_row 32).2 j hj⟩, (Only.refl [] w).alloc _⟩
  case round =>
    obtain ⟨k, A, hk, rfl, hb, hA, ho⟩ := hrel
    by_cases hlt : k < 32
    · have LD := Lib.hid (load_any wr g (k * 2) 2 (64 - k * 2) (fun j => f (k * 2 + j)) (by omega) (fun j hj => (World.cell?_of_block (ho.block g hgw (by simp))).trans (HC.out _ (by omega))) (fun j => HF.out _))
      have hcell : wr.cell? ⟨w.heap.size, k, none⟩ = some (.int .i64 0) := by rw [cell_of_row _ _ _ _ _ _ hb]; exact hA.zero k (Nat.le_refl _) hlt
      have hfz : wr.frozen? ⟨w.heap.size, k, none⟩ = false := by simp [World.frozen?, hb]
      have KEEP := Lib.hid (And.intro hb (And.intro hA ho))
      clear hb hA ho
      go_wp2_with (go_at_call 79; rw [show (k + 1) * 2 - k * 2 = 2 by omega]; refine LD.out.mono ?_; rintro e w' ⟨rfl, rfl⟩)
      go_roundw
      case rel =>
        obtain ⟨hb, hA, ho⟩ := KEEP.out
        refine ⟨k + 1, _, by omega, by go_num, heap_setCell_row hb _ _, ⟨by simpa using hA.size, fun j hj => ?_, fun j h1 h2 => ?_⟩, ho.setCell (by simp) _⟩
        · by_cases hjk : j = k
          · subst hjk
            rw [Array.getElem?_setIfInBounds_self_of_lt (by rw [hA.size]; exact hlt)]
            rfl
          · rw [Array.getElem?_setIfInBounds_ne (by omega)]
            exact hA.got j (by omega)
        · rw [Array.getElem?_setIfInBounds_ne (by omega)]
          exact hA.zero j (by omega) h2
      case measure => simp [intOf]; omega
    · have : k = 32 := by omega
      subst this
      have KEEP := Lib.hid (And.intro hb (And.intro hA ho))
      clear hb hA ho
      go_wp2
      go_ret
      exact ⟨rfl, ⟨A, KEEP.out.1, KEEP.out.2.1⟩, KEEP.out.2.2⟩

/-- A sector of numbers read back. -/
theorem unp_packed (ns : Nat → Int) (k : Nat) (hk : k ≤ 32) (hn : ∀ j, j < k → 0 ≤ ns j ∧ ns j < 65536) {f : Nat → Int} (hf : ∀ j, j < 64 → (packed ns k)[j]? = some (.int .u8 (f j))) (i : Nat) (hi : i < 32) : unp f i = if i < k then ns i else 0 := by
  unfold unp
  by_cases h : i < k
  · rw [if_pos h]
    have h0 := hf (i * 2 + 0) (by omega)
    have h1 := hf (i * 2 + 1) (by omega)
    rw [packed_at ns k i 0 h hk (by omega)] at h0
    rw [packed_at ns k i 1 h hk (by omega)] at h1
    simp at h0 h1
    have := ldF_le2 (hn i h).1 (hn i h).2
    simp only [ldF] at this ⊢
    rw [← this, h0, h1]
    simp
  · rw [if_neg h]
    have h0 := hf (i * 2 + 0) (by omega)
    have h1 := hf (i * 2 + 1) (by omega)
    rw [packed_ge ns k _ (by omega) (by omega)] at h0 h1
    simp at h0 h1
    simp only [ldF, Nat.add_zero]
    omega

end Go.Proofs.Ytoccnaebckcfmaa
