/- The document's Encode64. -/
import Derived.Test.YtdikgifgapbocaaDoorC5
set_option linter.unusedSimpArgs false
set_option linter.unusedVariables false
namespace Go.Proofs.YtdikgifgapbocaaDoor
open Go.RowKit Go.Shelf

/-- The letters that are left, k bits (0, 2 or 4) pending: u. -/
def encS : Nat → Nat → List UInt8 → List UInt8
  | 0, _, [] => []
  | 2, u, [] => [lt (u * 16), 61, 61]
  | _, u, [] => [lt (u * 4), 61]
  | 0, _, x :: t => lt (x.toNat / 4) :: encS 2 (x.toNat % 4) t
  | 2, u, y :: t => lt (u * 16 + y.toNat / 16) :: encS 4 (y.toNat % 16) t
  | _, u, z :: t => lt (u * 4 + z.toNat / 64) :: lt (z.toNat % 64) :: encS 0 0 t
theorem encS_enc (l : List UInt8) : encS 0 0 l = enc l := by
  induction l using enc.induct with
  | case1 => simp [enc, encS]
  | case2 a => simp [enc, encS]
  | case3 a b => simp [enc, encS]
  | case4 a b c t ih => simp [enc, encS, ih]
theorem letter_int (v : Int) (h0 : 0 ≤ v) (h1 : v < 64) (w : World) : Calls Tryd.prog 34 #[.int .i64 v] w fun e w' => e = .returned (.int .u8 (lt v.toNat).toNat) ∧ w = w' := by
  have := letter_any v.toNat (by omega) w
  rwa [show ((v.toNat : Nat) : Int) = v by omega] at this

theorem and3 (n : Nat) (h : n < 256) : bits .and .i64 (n : Int) 3 = ((n % 4 : Nat) : Int) := by have := i64_mask 2 (by decide) (n : Int) (by omega) (by omega); simp at this; rw [this]; omega
theorem and15 (u n : Nat) (hu : u < 4) (h : n < 256) : bits .and .i64 (256 * (u : Int) + (n : Int)) 15 = ((n % 16 : Nat) : Int) := by have := i64_mask 4 (by decide) (256 * (u : Int) + (n : Int)) (by omega) (by omega); simp at this; rw [this]; omega
theorem and63' (u n : Nat) (hu : u < 16) (h : n < 256) : bits .and .i64 (256 * (u : Int) + (n : Int)) 63 = ((n % 64 : Nat) : Int) := by rw [i64_and63 _ (by omega) (by omega)]; omega
theorem and0 (n : Nat) (h : n < 256) : bits .and .i64 ((n : Int) % 64) 0 = 0 := by have := i64_mask 0 (by decide) ((n : Int) % 64) (by omega) (by omega); simpa using this
set_option maxHeartbeats 4000000 in
set_option maxRecDepth 1000000 in
theorem rencode_any (a : Option Addr) (cap : Nat) (l : List UInt8) (w : World) (hc : l.length ≤ cap) (hm : cap ≤ maxLen) (hl : l.length ≤ 8388608) (hB : Bs w a l) :
    Calls Tryd.prog 14 #[.slice a l.length cap] w fun e w' => e = .returned (.string ⟨(enc l).toArray⟩) ∧ Below w.heap.size w w' := by
  unfold maxLen at hm
  go_enter Tryd.func14, Tryd.ntmps14
  go_wp2
  go_loopw [3, 4, 5, 6] (fun v n many i wr => ∃ (k u j : Nat) (a' : Option Addr) (cap' : Nat) (acc : List UInt8), j ≤ l.length ∧ (k = 0 ∧ u = 0 ∧ acc.length % 4 = 0 ∨ k = 2 ∧ u < 4 ∧ acc.length % 4 = 1 ∨ k = 4 ∧ u < 16 ∧ acc.length % 4 = 2) ∧ v = .slice a' acc.length cap' ∧ n = .int .i64 u ∧ many = .int .i64 k ∧ i = .int .i64 j ∧ OB w wr a' cap' acc ∧ acc ++ encS k u (l.drop j) = enc l ∧ acc.length ≤ 2 * j) (fun v n many i wr => l.length - (intOf i).toNat)
  case atStart =>
    exact ⟨0, 0, 0, _, 0, [], by omega, .inl ⟨rfl, rfl, rfl⟩, rfl, rfl, rfl, rfl, OB.made w #[] 0 (by unfold maxLen; omega) rfl, by simpa using encS_enc l, by simp⟩
  case round =>
    obtain ⟨k, u, j, a', cap', acc, hj, hk, rfl, rfl, rfl, rfl, hob, henc, hal⟩ := hrel
    by_cases hlt : j < l.length
    · obtain ⟨x, hx⟩ : ∃ x, l[j]? = some x := ⟨_, List.getElem?_eq_getElem hlt⟩
      obtain ⟨b, off, rfl, hb, hcell⟩ := hB j x hx
      have hcw : wr.cell? ⟨b, off + j, none⟩ = some (.int .u8 x.toNat) := by rw [hob.bel.cell (p := ⟨b, off + j, none⟩) hb]; exact hcell
      have hx8 := x.toNat_lt
      have hd : l.drop j = x :: l.drop (j + 1) := by rw [List.drop_eq_getElem_cons hlt]; congr 1; exact Option.some.inj ((List.getElem?_eq_getElem hlt).symm.trans hx)
      rw [hd] at henc
      clear hx hcell hd
      rcases hk with ⟨rfl, rfl, hmod⟩ | ⟨rfl, hu, hmod⟩ | ⟨rfl, hu, hmod⟩
      · have HC := Lib.hid henc
        have HM := Lib.hid hmod
        have m3 := and3 x.toNat hx8
        clear henc hmod
        go_wp2
        refine wp_loop_rounds 2 ?_
        rw [rounds_succ]
        go_wp2_with (first | (go_at_call 34; refine (letter_int _ (by omega) (by omega) _).mono ?_; rintro e w' ⟨rfl, rfl⟩) | (at_builtin; refine wpL_ob rfl rfl rfl (by assumption) (by first | rfl | simp) rfl (by first | omega | (simp; omega)) ?_; intro a2 cap2 w2 hob2))
        rw [rounds_succ]
        go_wp2
        refine ⟨⟨2, x.toNat % 4, j + 1, a2, cap2, acc ++ [lt (x.toNat / 4)], by omega, .inr (.inl ⟨rfl, by omega, by have := HM.out; simp; omega⟩), slice_eq (by simp), by go_num, rfl, by go_num, hob2, ?_, by simp; omega⟩, by simp [intOf]; omega⟩
        rw [← HC.out]
        simp [encS]
      · have HC := Lib.hid henc
        have HM := Lib.hid hmod
        have m3 := and15 u x.toNat hu hx8
        clear henc hmod
        go_wp2
        refine wp_loop_rounds 2 ?_
        rw [rounds_succ]
        go_wp2_with (first | (go_at_call 34; refine (letter_int _ (by omega) (by omega) _).mono ?_; rintro e w' ⟨rfl, rfl⟩) | (at_builtin; refine wpL_ob rfl rfl rfl (by assumption) (by first | rfl | simp) rfl (by first | omega | (simp; omega)) ?_; intro a2 cap2 w2 hob2))
        rw [rounds_succ]
        go_wp2
        refine ⟨⟨4, x.toNat % 16, j + 1, a2, cap2, acc ++ [lt ((256 * u + x.toNat) / 16)], by omega, .inr (.inr ⟨rfl, by omega, by have := HM.out; simp; omega⟩), slice_eq (by simp), by go_num, rfl, by go_num, hob2, ?_, by simp; omega⟩, by simp [intOf]; omega⟩
        rw [← HC.out]
        rw [show (256 * u + x.toNat) / 16 = u * 16 + x.toNat / 16 by omega]
        simp [encS]
      · have HC := Lib.hid henc
        have HM := Lib.hid hmod
        have m3 := and63' u x.toNat hu hx8
        have m4 := and0 x.toNat hx8
        clear henc hmod
        go_wp2
        refine wp_loop_rounds 3 ?_
        rw [rounds_succ]
        go_wp2_with (first | (go_at_call 34; refine (letter_int _ (by omega) (by omega) _).mono ?_; rintro e w' ⟨rfl, rfl⟩) | (at_builtin; refine wpL_ob rfl rfl rfl (by assumption) (by first | rfl | simp) rfl (by first | omega | (simp; omega)) ?_; intro a2 cap2 w2 hob2))
        rw [rounds_succ]
        go_wp2_with (first | (go_at_call 34; refine (letter_int _ (by omega) (by omega) _).mono ?_; rintro e w' ⟨rfl, rfl⟩) | (at_builtin; refine wpL_ob rfl rfl rfl (by assumption) (by first | rfl | simp) rfl (by first | omega | (simp; omega)) ?_; intro a2 cap2 w2 hob2))
        rw [rounds_succ]
        go_wp2
        refine ⟨⟨0, 0, j + 1, a2, cap2, acc ++ [lt ((256 * u + x.toNat) / 64)] ++ [lt (x.toNat % 64)], by omega, .inl ⟨rfl, rfl, by have := HM.out; simp; omega⟩, slice_eq (by simp), by go_num, rfl, by go_num, hob2, ?_, by simp; omega⟩, by simp [intOf]; omega⟩
        rw [← HC.out]
        rw [show (256 * u + x.toNat) / 64 = u * 4 + x.toNat / 64 by omega]
        simp [encS]
    · obtain rfl : j = l.length := by omega
      rw [List.drop_length] at henc
      rcases hk with ⟨rfl, rfl, hmod⟩ | ⟨rfl, hu, hmod⟩ | ⟨rfl, hu, hmod⟩
      · have hr : ((acc.length : Nat) : Int) % 4 = 0 := by omega
        have hs := bs_string cap' hob.cells
        have HC := Lib.hid henc
        clear henc hmod
        go_wp2
        refine wp_loop_rounds 1 ?_
        rw [rounds_succ]
        go_wp2
        go_ret
        refine ⟨?_, hob.bel⟩
        have := HC.out
        simp [encS] at this
        rw [← this]
        rfl
      · have HC := Lib.hid henc
        have hr0 : (((acc.length : Nat) : Int) + 1) % 4 = 2 := by omega
        have hr1 : (((acc.length : Nat) : Int) + 2) % 4 = 3 := by omega
        have hr2 : (((acc.length : Nat) : Int) + 3) % 4 = 0 := by omega
        clear henc hmod
        go_wp2_with (first | (go_at_call 34; refine (letter_int _ (by omega) (by omega) _).mono ?_; rintro e w' ⟨rfl, rfl⟩) | (at_builtin; refine wpL_ob rfl rfl rfl (by assumption) (by first | rfl | simp) rfl (by first | omega | (simp; omega)) ?_; intro a2 cap2 w2 hob2))
        refine wp_loop_rounds 3 ?_
        rw [rounds_succ]
        go_wp2_with (at_builtin; refine wpL_ob61 rfl rfl rfl (by assumption) (by first | rfl | simp) rfl (by first | omega | (simp; omega)) ?_; intro a2 cap2 w2 hob2)
        rw [rounds_succ]
        go_wp2_with (at_builtin; refine wpL_ob61 rfl rfl rfl (by assumption) (by first | rfl | simp) rfl (by first | omega | (simp; omega)) ?_; intro a2 cap2 w2 hob2)
        have hs := bs_string' (n := acc.length + 1 + 1 + 1) cap2 hob2.cells (by simp)
        have hb2 := hob2.bel
        rw [rounds_succ]
        go_wp2
        go_ret
        refine ⟨?_, hb2⟩
        rw [← HC.out]
        simp [encS]
      · have HC := Lib.hid henc
        have hr0 : (((acc.length : Nat) : Int) + 1) % 4 = 3 := by omega
        have hr1 : (((acc.length : Nat) : Int) + 2) % 4 = 0 := by omega
        clear henc hmod
        go_wp2_with (first | (go_at_call 34; refine (letter_int _ (by omega) (by omega) _).mono ?_; rintro e w' ⟨rfl, rfl⟩) | (at_builtin; refine wpL_ob rfl rfl rfl (by assumption) (by first | rfl | simp) rfl (by first | omega | (simp; omega)) ?_; intro a2 cap2 w2 hob2))
        refine wp_loop_rounds 2 ?_
        rw [rounds_succ]
        go_wp2_with (at_builtin; refine wpL_ob61 rfl rfl rfl (by assumption) (by first | rfl | simp) rfl (by first | omega | (simp; omega)) ?_; intro a2 cap2 w2 hob2)
        have hs := bs_string' (n := acc.length + 1 + 1) cap2 hob2.cells (by simp)
        have hb2 := hob2.bel
        rw [rounds_succ]
        go_wp2
        go_ret
        refine ⟨?_, hb2⟩
        rw [← HC.out]
        simp [encS]
end Go.Proofs.YtdikgifgapbocaaDoor
