/- The document's Digits, wide. -/
import Derived.Test.YtjbojboiagbofaaDoorC13
set_option linter.unusedSimpArgs false
set_option linter.unusedVariables false
namespace Go.Proofs.YtjbojboiagbofaaDoor
open Go.RowKit Go.Shelf

theorem digs_len (u : Nat) : (Lib.decDigits u).length ≤ u + 1 := by
  induction u using Nat.strongRecOn with
  | ind u ih =>
    by_cases h : u < 10
    · rw [digs_small h]; simp
    · rw [digs_big h]
      have := ih (u / 10) (by omega)
      simp only [List.length_append, List.length_cons, List.length_nil]
      omega
theorem run_one (w : World) (x : Int) : (convert 36 9 (.slice (some ⟨w.heap.size, 0, none⟩) 1 1)).run Tryd.prog (w.alloc (.cells #[.int .u8 x] 5)) = .ok (.string ⟨#[UInt8.ofNat x.toNat]⟩) (w.alloc (.cells #[.int .u8 x] 5)) := by
  rw [run_convert_bytes_arg (w.alloc (.cells #[.int .u8 x] 5)) 36 5 Tryd.underlying36 Tryd.underlying5 w.heap.size 0 1 1 [x] rfl (fun i hi => ?_) 9 Tryd.underlying9]
  · rfl
  · obtain rfl : i = 0 := by omega
    rw [cell_of_row _ _ _ _ _ _ (heap_alloc_new w _)]
    rfl
theorem str_cons (c : UInt8) (l : List UInt8) : (⟨#[c]⟩ : ByteArray) ++ ⟨l.toArray⟩ = ⟨(c :: l).toArray⟩ := by
  apply ByteArray.ext
  apply Array.ext'
  rw [ByteArray.data_append, Array.toList_append]
  rfl
set_option maxHeartbeats 2000000 in
set_option maxRecDepth 100000 in
theorem rdigits_any (n : Nat) (hn : n < 10000000000) (w : World) :
    Calls Tryd.prog 30 #[.int .i64 n] w fun e w' => e = .returned (.string ⟨(Lib.decDigits n).toArray⟩) ∧ Below w.heap.size w w' := by
  have hone := run_one
  have hdl := digs_len n
  go_enter Tryd.func30, Tryd.ntmps30
  go_wp2
  go_loopw [0, 3] (fun v s wr => ∃ (k : Nat) (acc : List UInt8), v = .int .i64 k ∧ s = .string ⟨acc.toArray⟩ ∧ k ≤ n ∧ Hid (Lib.decDigits k ++ acc = Lib.decDigits n) ∧ acc.length ≤ n + 1 ∧ Below w.heap.size w wr) (fun v s wr => (intOf v).toNat)
  case atStart => exact ⟨n, [], rfl, rfl, Nat.le_refl _, Lib.hid (by simp), by simp, Below.refl _ _⟩
  case round =>
    obtain ⟨k, acc, rfl, rfl, hk, hd, hal, hb⟩ := hrel
    have hz := hb.size
    by_cases h9 : 9 < k
    · have hd' : Hid (Lib.decDigits (k / 10) ++ (UInt8.ofNat (48 + k % 10) :: acc) = Lib.decDigits n) := Lib.hid (by rw [← hd.out, digs_big (u := k) (by omega)]; simp)
      have hal' : (UInt8.ofNat (48 + k % 10) :: acc).length ≤ n + 1 := by
        have := congrArg List.length hd'.out
        rw [List.length_append] at this
        omega
      have e1 : (48 : UInt8) + UInt8.ofNat (k % 10) = UInt8.ofNat (48 + k % 10) := by
        apply UInt8.toNat_inj.1
        simp [UInt8.toNat_add, UInt8.toNat_ofNat]
      have E1 := Lib.hid e1
      clear e1
      go_wp2
      refine ⟨⟨k / 10, UInt8.ofNat (48 + k % 10) :: acc, by go_num, by rw [E1.out, str_cons], by omega, hd', hal', hb.alloc hz _⟩, by simp [intOf]; omega⟩
    · have e1 : (48 : UInt8) + UInt8.ofNat k = UInt8.ofNat (48 + k) := by
        apply UInt8.toNat_inj.1
        simp [UInt8.toNat_add, UInt8.toNat_ofNat]
      have E1 := Lib.hid e1
      have hd' : Hid ((UInt8.ofNat (48 + k) :: acc) = Lib.decDigits n) := Lib.hid (by rw [← hd.out, digs_small (u := k) (by omega)]; rfl)
      clear e1
      go_wp2
      go_ret
      have hr : (⟨#[48 + UInt8.ofNat k]⟩ : ByteArray) ++ ⟨acc.toArray⟩ = ⟨(Lib.decDigits n).toArray⟩ := by rw [E1.out, str_cons, hd'.out]
      exact ⟨congrArg (fun x => Ending.returned (Value.string x)) hr, hb.alloc hz _⟩
set_option maxHeartbeats 1000000 in
theorem wide_two (n : Nat) (hn : n < 100) (w : World) :
    Calls Tryd.prog 27 #[.int .i64 n, .int .i64 2] w fun e w' => e = .returned (.string ⟨(dg2 n).toArray⟩) ∧ Below w.heap.size w w' := by
  have c := rdigits_any n (by omega) w
  by_cases h : n < 10
  · rw [digs_small h] at c
    rw [← dgp_zero hn, show dgp 48 n = [48, dgt n] by unfold dgp; rw [if_pos h]]
    have hq : dgt n = UInt8.ofNat (48 + n) := by unfold dgt; rw [Nat.mod_eq_of_lt h]
    rw [hq]
    generalize UInt8.ofNat (48 + n) = q at c ⊢
    clear hq h
    go_enter Tryd.func27, Tryd.ntmps27
    go_wp2_with fail
    refine c.mono ?_; rintro e w1 ⟨rfl, b1⟩
    go_wp2_with fail
    refine wp_loop_rounds 2 ?_
    rw [rounds_succ]
    go_wp2
    rw [rounds_succ]
    go_wp2
    go_ret
    exact ⟨rfl, b1⟩
  · rw [digs_two (by omega) hn] at c
    have z : (⟨(dg2 n).toArray⟩ : ByteArray).size = 2 := rfl
    generalize (⟨(dg2 n).toArray⟩ : ByteArray) = q at c z ⊢
    go_enter Tryd.func27, Tryd.ntmps27
    go_wp2_with fail
    refine c.mono ?_; rintro e w1 ⟨rfl, b1⟩
    go_wp2_with fail
    refine wp_loop_rounds 1 ?_
    rw [rounds_succ]
    go_wp2
    go_ret
    exact ⟨rfl, b1⟩
set_option maxHeartbeats 1000000 in
theorem wide_year (y : Int) (k : Nat) (hy : y = 1999 + k) (hk : k ≤ 200) (w : World) :
    Calls Tryd.prog 27 #[.int .i64 y, .int .i64 4] w fun e w' => e = .returned (.string ⟨(dg4 (1999 + k)).toArray⟩) ∧ Below w.heap.size w w' := by
  have c := rdigits_any (1999 + k) (by omega) w
  rw [show ((1999 + k : Nat) : Int) = y by omega] at c
  rw [digs_four (by omega) (by omega)] at c
  have z : (⟨(dg4 (1999 + k)).toArray⟩ : ByteArray).size = 4 := rfl
  generalize (⟨(dg4 (1999 + k)).toArray⟩ : ByteArray) = q at c z ⊢
  clear hy hk
  go_enter Tryd.func27, Tryd.ntmps27
  go_wp2_with fail
  refine c.mono ?_; rintro e w1 ⟨rfl, b1⟩
  go_wp2_with fail
  refine wp_loop_rounds 1 ?_
  rw [rounds_succ]
  go_wp2
  go_ret
  exact ⟨rfl, b1⟩
end Go.Proofs.YtjbojboiagbofaaDoor
