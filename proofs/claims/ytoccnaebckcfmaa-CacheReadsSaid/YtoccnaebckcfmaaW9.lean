/- What pack does. -/
import Derived.Test.YtoccnaebckcfmaaW8
set_option linter.unusedSimpArgs false
set_option linter.unusedVariables false
set_option maxRecDepth 8000
namespace Go.Proofs.Ytoccnaebckcfmaa
open Go.RowKit

def packed (ns : Nat → Int) : Nat → Array Value
  | 0 => Z
  | k + 1 => stored (packed ns k) (k * 2) (ns k) 2
theorem packed_size (ns : Nat → Int) (k : Nat) : (packed ns k).size = 64 := by
  induction k with
  | zero => simp [packed, Z]
  | succ k ih => rw [packed, stored_size, ih]
theorem packed_ge (ns : Nat → Int) (k j : Nat) (h : k * 2 ≤ j) (hj : j < 64) : (packed ns k)[j]? = some (.int .u8 0) := by
  induction k with
  | zero => simp [packed, Z, hj]
  | succ k ih => rw [packed, stored_ge _ _ _ _ _ (by omega)]; exact ih (by omega)
theorem packed_at (ns : Nat → Int) (k i j : Nat) (hi : i < k) (hk : k ≤ 32) (hj : j < 2) : (packed ns k)[i * 2 + j]? = some (.int .u8 (le (ns i) j)) := by
  induction k with
  | zero => omega
  | succ k ih =>
    rw [packed]
    by_cases h : i = k
    · subst h
      rw [stored_at _ _ _ _ _ (by omega) (by omega) (by rw [packed_size]; omega), show i * 2 + j - i * 2 = j by omega]
    · rw [stored_ge _ _ _ _ _ (by omega)]
      exact ih (by omega) (by omega)
theorem packed_byte (ns : Nat → Int) (k j : Nat) (hk : k ≤ 32) (hj : j < 64) : ∃ z, (packed ns k)[j]? = some (.int .u8 z) := by
  by_cases h : k * 2 ≤ j
  · exact ⟨0, packed_ge ns k j h hj⟩
  · have := packed_at ns k (j / 2) (j % 2) (by omega) hk (by omega)
    rw [show j / 2 * 2 + j % 2 = j by omega] at this
    exact ⟨_, this⟩
theorem packed_ok (ns : Nat → Int) (k : Nat) (hk : k ≤ 32) : SecOk (packed ns k) := by
  have := fun j (hj : j < 64) => packed_byte ns k j hk hj
  refine secOk_bytes (packed_size ns k) (fun j => if hj : j < 64 then Classical.choose (this j hj) else 0) (fun j hj => ?_)
  simp only [hj, dif_pos]
  exact Classical.choose_spec (this j hj)
theorem packed_congr {ns ms : Nat → Int} {k : Nat} (h : ∀ i, i < k → ns i = ms i) : packed ns k = packed ms k := by
  induction k with
  | zero => rfl
  | succ k ih => rw [packed, packed, ih (fun i hi => h i (by omega)), h k (by omega)]

set_option maxHeartbeats 1000000 in
theorem pack_any (w : World) (g o L cap : Nat) (ns : Nat → Int) (hL : L ≤ 32) (hc : ∀ j, j < L → w.cell? ⟨g, o + j, none⟩ = some (.int .i64 (ns j))) (hgw : L ≠ 0 → g < w.heap.size) (h0 : ∀ j, j < L → 0 ≤ ns j ∧ ns j ≤ 9223372036854775807) :
    Calls Try.prog 86 #[.slice (some ⟨g, o, none⟩) L cap] w fun e w' => e = .returned (.slice (some ⟨w.heap.size, 0, none⟩) 64 64) ∧ w'.heap[w.heap.size]? = some (.cells (packed ns L) 5 (0, 0)) ∧ Only [] w w' := by
  have hmk := make64
  have HC := Lib.hid hc
  have H0 := Lib.hid h0
  clear hc h0
  go_enter Try.func86, Try.ntmps86
  go_wp2
  go_loopw [9] (fun i wr => ∃ k : Nat, k ≤ L ∧ i = .int .i64 k ∧ wr.heap[w.heap.size]? = some (.cells (packed ns k) 5 (0, 0)) ∧ Only [] w wr) (fun i _ => L - (intOf i).toNat)
  case atStart => exact ⟨0, by omega, rfl, heap_alloc_last w _, (Only.refl [] w).alloc _⟩
  case round =>
    obtain ⟨k, hk, rfl, hb, ho⟩ := hrel
    by_cases hlt : k < L
    · have hcell : wr.cell? ⟨g, o + k, none⟩ = some (.int .i64 (ns k)) := (World.cell?_of_block (ho.block g (hgw (by omega)) (by simp))).trans (HC.out k hlt)
      have hn := H0.out k hlt
      have ST := Lib.hid (store_any wr w.heap.size (k * 2) 2 (64 - k * 2) (packed ns k) 5 (ns k) hb (by omega) (by rw [packed_size]; omega) (fun j hj => ⟨0, packed_ge ns k _ (by omega) (by omega)⟩) hn.1 hn.2)
      have HO := Lib.hid ho
      clear hb ho
      go_wp2_with (go_at_call 80; rw [show (k + 1) * 2 - k * 2 = 2 by omega]; refine ST.out.mono ?_; rintro e w' ⟨rfl, hb', ho'⟩)
      go_roundw
      case rel => exact ⟨k + 1, by omega, by go_num, hb', HO.out.trans ho' (by simp)⟩
      case measure => simp [intOf]; omega
    · have : k = L := by omega
      subst this
      have HO := Lib.hid ho
      have HB := Lib.hid hb
      clear hb ho
      go_wp2
      go_ret
      exact ⟨rfl, HB.out, HO.out⟩

end Go.Proofs.Ytoccnaebckcfmaa
