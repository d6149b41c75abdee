/- The document's digits. -/
import Derived.Test.YtjbojboiagbofaaDoorC26
set_option linter.unusedSimpArgs false
set_option linter.unusedVariables false
namespace Go.Proofs.YtjbojboiagbofaaDoor
open Go.RowKit Go.Shelf

def dV (x : List UInt8) : Nat := (dg x 0).getD 0
def dB (x : List UInt8) : Bool := (dg x 0).isSome
set_option maxHeartbeats 2000000 in
theorem rdig_any (x : List UInt8) (hx : x.length ≤ 4) (w : World) :
    Calls Tryd.prog 35 #[.string ⟨x.toArray⟩] w fun e w' => e = .returned (.tuple #[.int .i64 (dV x), .bool (dB x)]) ∧ w' = w := by
  have hz : (⟨x.toArray⟩ : ByteArray).size = x.length := rfl
  have hl : (⟨x.toArray⟩ : ByteArray).data.toList = x := rfl
  unfold dV dB
  generalize hs : (⟨x.toArray⟩ : ByteArray) = s at *
  rw [← hl]
  clear hl
  have hz4 : s.size ≤ 4 := by omega
  clear hz hs hx
  go_enter Tryd.func35, Tryd.ntmps35
  go_wp2
  go_loopw [4, 5] (fun v iv wr => ∃ (i n : Nat), v = .int .i64 n ∧ iv = .int .i64 i ∧ i ≤ s.size ∧ Hid (n < pw i) ∧ Hid (dg (s.data.toList.drop i) n = dg s.data.toList 0) ∧ wr = w) (fun v iv wr => (s.size - intOf iv).toNat)
  case atStart => exact ⟨0, 0, rfl, rfl, Nat.zero_le _, Lib.hid (by decide), Lib.hid rfl, rfl⟩
  case round =>
    obtain ⟨i, n, rfl, rfl, hi, hn, hR, hwr⟩ := hrel
    rw [hwr]
    have hn4 : n < 10000000 := by
      have := hn.out
      have h5 := pw_mono (k := i) (j := 4) (by omega)
      have h4 : pw 4 = 10000 := by decide
      omega
    by_cases hlt : i < s.size
    · have hd := hR.out
      rw [drop_at s i hlt] at hd
      have i1 : (0 : Int) ≤ i := by omega
      have i2 : (i : Int) < s.size := by omega
      generalize hc : s[i]'hlt = c at hd
      have hcu := c.toNat_lt
      by_cases hdig : 48 ≤ c.toNat ∧ c.toNat ≤ 57
      · rw [dg_yes hdig] at hd
        have HD := Lib.hid hd
        have hn2 : Hid (n * 10 + (c.toNat - 48) < pw (i + 1)) := Lib.hid (by have := hn.out; show _ < pw i * 10; omega)
        have g1 : ¬ (c.toNat : Int) < 48 := by omega
        have g2 : ¬ (57 : Int) < c.toNat := by omega
        clear hd hR hn
        go_wp2
        refine ⟨⟨i + 1, n * 10 + (c.toNat - 48), congrArg (Value.int IntKind.i64) (by omega), by go_num, by omega, hn2, HD, trivial⟩, by simp [intOf]; omega⟩
      · rw [dg_no hdig] at hd
        have HD := Lib.hid hd
        clear hd hR hn
        by_cases g1 : (c.toNat : Int) < 48
        · go_wp2
          go_ret2
          rw [← HD.out]
          exact ⟨rfl, rfl⟩
        · have g2 : (57 : Int) < c.toNat := by omega
          go_wp2
          go_ret2
          rw [← HD.out]
          exact ⟨rfl, rfl⟩
    · obtain rfl : i = s.size := by omega
      have hd := hR.out
      rw [List.drop_eq_nil_of_le (by simp), dg] at hd
      have HD := Lib.hid hd
      clear hd hR hn
      go_wp2
      go_ret2
      rw [← HD.out]
      exact ⟨rfl, rfl⟩
end Go.Proofs.YtjbojboiagbofaaDoor
