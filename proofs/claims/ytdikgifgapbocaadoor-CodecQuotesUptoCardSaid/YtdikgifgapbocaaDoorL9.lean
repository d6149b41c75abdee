/- CodecNumbers' walk. -/
import Derived.Test.YtdikgifgapbocaaDoorC19
import Derived.Test.YtdikgifgapbocaaDoorL1
set_option linter.unusedSimpArgs false
set_option linter.unusedVariables false
namespace Go.Proofs.YtdikgifgapbocaaDoor
open Go.RowKit Go.Shelf

theorem digs_ne (k : Nat) : Lib.decDigits k ≠ [] := by
  by_cases h : k < 10
  · rw [digs_small h]; simp
  · rw [digs_big h]; simp
theorem digs_dg (k : Nat) : dg (Lib.decDigits k) 0 = some k := by
  induction k using Nat.strongRecOn with
  | ind k ih =>
    by_cases h : k < 10
    · rw [digs_small h]
      have : (UInt8.ofNat (48 + k)).toNat = 48 + k := by simp [UInt8.toNat_ofNat]; omega
      rw [dg_yes (by rw [this]; omega), this, dg]
      simp
    · rw [digs_big h, dg_snoc, ih (k / 10) (by omega)]
      have : (UInt8.ofNat (48 + k % 10)).toNat = 48 + k % 10 := by simp [UInt8.toNat_ofNat]; omega
      simp only [Option.bind_some]
      rw [if_pos (by rw [this]; omega), this]
      congr 1
      omega
theorem digs_short (p : Nat) : ∀ k, k < pw (p + 1) → (Lib.decDigits k).length ≤ p + 1 := by
  induction p with
  | zero => intro k h; rw [digs_small (by simpa [pw] using h)]; simp
  | succ p ih =>
    intro k h
    by_cases h9 : k < 10
    · rw [digs_small h9]; simp
    · rw [digs_big h9]
      have h' : k < pw (p + 1) * 10 := h
      have := ih (k / 10) (by omega)
      simp only [List.length_append, List.length_cons, List.length_nil]
      omega
theorem number_digs (k : Nat) (h : k < 10000000000) : number (Lib.decDigits k) = some k := by
  rw [number_dg (digs_ne k) (digs_short 9 k h) (digs_dg k), if_pos rfl]
theorem number_zero (k : Nat) : number (48 :: Lib.decDigits k) = none := by
  unfold number
  rw [if_pos (.inr (.inr ⟨rfl, fun e => digs_ne k (List.cons.inj e).2⟩))]
theorem number_blank (k : Nat) : number (Lib.decDigits k ++ [32]) = none := by
  unfold number
  split
  · rfl
  · rw [dg_snoc, digs_dg]; rfl
theorem num_of (S : ByteArray) (L : List UInt8) (hS : S.data.toList = L) (r : Option Nat) (h : number L = r) (hs : S.size ≤ 8388608) (most : Int) (v : Value) (hv : numRes r most = v) (w : World) :
    Calls Tryd.prog 19 #[.string S, .int .i64 most] w fun e w' => e = .returned v ∧ Below w.heap.size w w' := by
  have := number_any S most w hs
  rw [hS, h] at this
  subst hv
  exact this
theorem tail_off (l : List UInt8) : (⟨l.toArray⟩ : ByteArray) ++ ⟨#[32]⟩ = ⟨(l ++ [32]).toArray⟩ := by
  apply ByteArray.ext
  apply Array.ext'
  rw [ByteArray.data_append, Array.toList_append]
set_option maxHeartbeats 4000000 in
set_option maxRecDepth 100000 in
theorem numbers_any (n most : Int) (w : World) (bn : -9223372036854775808 ≤ n ∧ n ≤ 9223372036854775807) (bm : -9223372036854775808 ≤ most ∧ most ≤ 9223372036854775807) (hM : Max w) :
    Calls Tryd.prog 9 #[.int .i64 n, .int .i64 most] w fun e w' => e = .returned (.bool true) ∧ Below w.heap.size w w' := by
  have hS := shown_any w hM
  by_cases hout : n < 0 ∨ 9999999999 < n
  · go_enter Tryd.func9, Tryd.ntmps9
    clear bn bm
    rcases hout with h | h
    · go_wp2_with (go_at_call 10; refine hS.mono ?_; rintro e w1 ⟨rfl, b1⟩)
      go_ret
      exact ⟨rfl, b1⟩
    · have h' : ¬ n < 0 := by omega
      go_wp2_with (go_at_call 10; refine hS.mono ?_; rintro e w1 ⟨rfl, b1⟩)
      go_ret
      exact ⟨rfl, b1⟩
  · obtain ⟨k, rfl⟩ : ∃ k : Nat, n = k := ⟨n.toNat, by omega⟩
    have hk : k < 10000000000 := by omega
    have hkl := digs_short 9 k hk
    have hk' : k ≤ 9999999999 := by omega
    clear bn bm hout
    by_cases hkm : (k : Int) ≤ most
    · have HR := Lib.hid (show numRes (some k) most = .tuple #[.int .i64 k, .bool true] by show (if (k : Int) ≤ most then _ else _) = _; rw [if_pos hkm])
      go_enter Tryd.func9, Tryd.ntmps9
      go_wp2_with fail
      refine hS.mono ?_; rintro e w1 ⟨rfl, b1⟩
      go_wp2_with fail
      refine (rdigits_any k hk w1).mono ?_; rintro e w2 ⟨rfl, b2⟩
      go_wp2_with fail
      refine (num_of _ _ (arr_list _) _ (number_digs k hk) (by rw [arr_size]; omega) most (.tuple #[.int .i64 k, .bool true]) HR.out w2).mono ?_; rintro e w3 ⟨rfl, b3⟩
      go_wp2_with fail
      refine (num_of _ (48 :: Lib.decDigits k) (by rw [str_cons, arr_list]) _ (number_zero k) (by rw [str_cons, arr_size]; simp; omega) most (.tuple #[.int .i64 0, .bool false]) rfl w3).mono ?_; rintro e w4 ⟨rfl, b4⟩
      go_wp2_with fail
      refine (num_of _ (Lib.decDigits k ++ [32]) (by rw [tail_off, arr_list]) _ (number_blank k) (by rw [tail_off, arr_size]; simp; omega) most (.tuple #[.int .i64 0, .bool false]) rfl w4).mono ?_; rintro e w5 ⟨rfl, b5⟩
      go_wp2
      go_ret
      exact ⟨rfl, below_trans (below_trans (below_trans (below_trans b1 b2) b3) b4) b5⟩
    · have hkm' : most < (k : Int) := by omega
      have hkd : decide ((k : Int) ≤ most) = false := decide_eq_false hkm
      have HR := Lib.hid (show numRes (some k) most = .tuple #[.int .i64 0, .bool false] by show (if (k : Int) ≤ most then _ else _) = _; rw [if_neg hkm])
      go_enter Tryd.func9, Tryd.ntmps9
      go_wp2_with fail
      refine hS.mono ?_; rintro e w1 ⟨rfl, b1⟩
      go_wp2_with fail
      refine (rdigits_any k hk w1).mono ?_; rintro e w2 ⟨rfl, b2⟩
      go_wp2_with fail
      refine (num_of _ _ (arr_list _) _ (number_digs k hk) (by rw [arr_size]; omega) most (.tuple #[.int .i64 0, .bool false]) HR.out w2).mono ?_; rintro e w3 ⟨rfl, b3⟩
      go_wp2_with fail
      refine (num_of _ (48 :: Lib.decDigits k) (by rw [str_cons, arr_list]) _ (number_zero k) (by rw [str_cons, arr_size]; simp; omega) most (.tuple #[.int .i64 0, .bool false]) rfl w3).mono ?_; rintro e w4 ⟨rfl, b4⟩
      go_wp2_with fail
      refine (num_of _ (Lib.decDigits k ++ [32]) (by rw [tail_off, arr_list]) _ (number_blank k) (by rw [tail_off, arr_size]; simp; omega) most (.tuple #[.int .i64 0, .bool false]) rfl w4).mono ?_; rintro e w5 ⟨rfl, b5⟩
      go_wp2
      go_ret
      exact ⟨rfl, below_trans (below_trans (below_trans (below_trans b1 b2) b3) b4) b5⟩
end Go.Proofs.YtdikgifgapbocaaDoor
