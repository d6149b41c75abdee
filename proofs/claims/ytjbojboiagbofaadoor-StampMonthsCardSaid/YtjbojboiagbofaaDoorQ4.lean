/- A moment's text, read back. -/
import Derived.Test.YtjbojboiagbofaaDoorC35
set_option linter.unusedSimpArgs false
set_option linter.unusedVariables false
namespace Go.Proofs.YtjbojboiagbofaaDoor
open Go.RowKit Go.Shelf

theorem dgt_val (n : Nat) : (dgt n).toNat = 48 + n % 10 := by
  unfold dgt
  simp [UInt8.toNat_ofNat]
  omega
theorem dgt_D (n : Nat) : isD (dgt n) := by unfold isD; rw [dgt_val]; omega
theorem dgt_ne (n : Nat) (h : n % 10 ≠ 0) : dgt n ≠ 48 := by
  intro e
  have := congrArg UInt8.toNat e
  rw [dgt_val] at this
  have h48 : (48 : UInt8).toNat = 48 := rfl
  omega
theorem dV_dg2 (n : Nat) (h : n < 100) : dV (dg2 n) = n := by
  unfold dg2
  rw [dV2' _ _ (dgt_D _) (dgt_D _), dgt_val, dgt_val]
  omega
theorem dB_dg2 (n : Nat) : dB (dg2 n) = true := by
  unfold dg2
  rw [dB2]
  simp [dgt_D]
theorem dV_dg4 (n : Nat) (h : n < 10000) : dV (dg4 n) = n := by
  unfold dg4
  rw [dV4' _ _ _ _ (dgt_D _) (dgt_D _) (dgt_D _) (dgt_D _), dgt_val, dgt_val, dgt_val, dgt_val]
  omega
theorem dB_dg4 (n : Nat) : dB (dg4 n) = true := by
  unfold dg4
  rw [dB4]
  simp [dgt_D]
theorem mon_three (j : Nat) (hj : j < 12) : ∃ a b c, mon j = [a, b, c] ∧ monV [a, b, c] = j + 1 := by
  have : ∀ i : Fin 12, ((mon i.val).getD 0 0 :: (mon i.val).getD 1 0 :: (mon i.val).getD 2 0 :: []) = mon i.val ∧ monV (mon i.val) = i.val + 1 := by decide
  obtain ⟨h1, h2⟩ := this ⟨j, hj⟩
  exact ⟨_, _, _, h1.symm, by rw [h1]; exact h2⟩
/-- A date and time at a zone, as a text. -/
def textL (k j d H M S : Nat) (sg : UInt8) (zh zm : Nat) : List UInt8 := dgp 32 (d + 1) ++ ([45] ++ (mon j ++ ([45] ++ (dg4 (1999 + k) ++ ([32] ++ (dg2 H ++ ([58] ++ (dg2 M ++ ([58] ++ (dg2 S ++ ([32, sg] ++ (dg2 zh ++ dg2 zm))))))))))))
theorem internal_text (k j d s : Nat) : internalL k j d s = textL k j d (s % 86400 / 3600) (s % 3600 / 60) (s % 60) 43 0 0 := rfl
theorem day_two (d : Nat) (hd : d < 31) : ∃ p q, dgp 32 (d + 1) = [p, q] ∧ p ≠ 48 ∧ dB (if p = 32 then [q] else [p, q]) = true ∧ dV (if p = 32 then [q] else [p, q]) = d + 1 := by
  unfold dgp
  by_cases h : d + 1 < 10
  · rw [if_pos h]
    refine ⟨32, dgt (d + 1), rfl, by decide, ?_, ?_⟩
    · rw [if_pos rfl, dB1]; simp [dgt_D]
    · rw [if_pos rfl, dV1' _ (dgt_D _), dgt_val]; omega
  · rw [if_neg h]
    have hne : dgt ((d + 1) / 10) ≠ 32 := by
      intro e
      have := congrArg UInt8.toNat e
      rw [dgt_val] at this
      have h32 : (32 : UInt8).toNat = 32 := rfl
      omega
    refine ⟨dgt ((d + 1) / 10), dgt (d + 1), rfl, dgt_ne _ (by omega), ?_, ?_⟩
    · rw [if_neg hne]; exact dB_dg2 (d + 1)
    · rw [if_neg hne]; exact dV_dg2 (d + 1) (by omega)
set_option maxRecDepth 20000 in
theorem text_par (k j d H M S : Nat) (sg : UInt8) (zh zm : Nat) (hk : k ≤ 200) (hj : j < 12) (hd : d < 31) (hH : H < 100) (hM : M < 100) (hS : S < 100) (hsg : sg = 43 ∨ sg = 45) (hzh : zh ≤ 14) (hzm : zm ≤ 59) :
    parR (textL k j d H M S sg zh zm) = secZ ((1999 + k : Nat) : Int) ((j + 1 : Nat) : Int) ((d + 1 : Nat) : Int) H M S (if sg = 43 then 3600 * (zh : Int) + 60 * zm else -(3600 * (zh : Int) + 60 * zm)) := by
  obtain ⟨a, b, c, hm, hmv⟩ := mon_three j hj
  obtain ⟨p, q, hdp, hp48, hdB, hdV⟩ := day_two d hd
  have e1 : textL k j d H M S sg zh zm = [p, q, 45, a, b, c, 45, dgt ((1999 + k) / 1000), dgt ((1999 + k) / 100), dgt ((1999 + k) / 10), dgt (1999 + k), 32, dgt (H / 10), dgt H, 58, dgt (M / 10), dgt M, 58, dgt (S / 10), dgt S, 32, sg, dgt (zh / 10), dgt zh, dgt (zm / 10), dgt zm] := by
    unfold textL
    rw [hm, hdp]
    rfl
  rw [e1]
  have s1 : sl [p, q, 45, a, b, c, 45, dgt ((1999 + k) / 1000), dgt ((1999 + k) / 100), dgt ((1999 + k) / 10), dgt (1999 + k), 32, dgt (H / 10), dgt H, 58, dgt (M / 10), dgt M, 58, dgt (S / 10), dgt S, 32, sg, dgt (zh / 10), dgt zh, dgt (zm / 10), dgt zm] 7 11 = dg4 (1999 + k) := rfl
  have s2 : sl [p, q, 45, a, b, c, 45, dgt ((1999 + k) / 1000), dgt ((1999 + k) / 100), dgt ((1999 + k) / 10), dgt (1999 + k), 32, dgt (H / 10), dgt H, 58, dgt (M / 10), dgt M, 58, dgt (S / 10), dgt S, 32, sg, dgt (zh / 10), dgt zh, dgt (zm / 10), dgt zm] 3 6 = [a, b, c] := rfl
  have s3 : sl [p, q, 45, a, b, c, 45, dgt ((1999 + k) / 1000), dgt ((1999 + k) / 100), dgt ((1999 + k) / 10), dgt (1999 + k), 32, dgt (H / 10), dgt H, 58, dgt (M / 10), dgt M, 58, dgt (S / 10), dgt S, 32, sg, dgt (zh / 10), dgt zh, dgt (zm / 10), dgt zm] 12 14 = dg2 H := rfl
  have s4 : sl [p, q, 45, a, b, c, 45, dgt ((1999 + k) / 1000), dgt ((1999 + k) / 100), dgt ((1999 + k) / 10), dgt (1999 + k), 32, dgt (H / 10), dgt H, 58, dgt (M / 10), dgt M, 58, dgt (S / 10), dgt S, 32, sg, dgt (zh / 10), dgt zh, dgt (zm / 10), dgt zm] 15 17 = dg2 M := rfl
  have s5 : sl [p, q, 45, a, b, c, 45, dgt ((1999 + k) / 1000), dgt ((1999 + k) / 100), dgt ((1999 + k) / 10), dgt (1999 + k), 32, dgt (H / 10), dgt H, 58, dgt (M / 10), dgt M, 58, dgt (S / 10), dgt S, 32, sg, dgt (zh / 10), dgt zh, dgt (zm / 10), dgt zm] 18 20 = dg2 S := rfl
  have s6 : sl [p, q, 45, a, b, c, 45, dgt ((1999 + k) / 1000), dgt ((1999 + k) / 100), dgt ((1999 + k) / 10), dgt (1999 + k), 32, dgt (H / 10), dgt H, 58, dgt (M / 10), dgt M, 58, dgt (S / 10), dgt S, 32, sg, dgt (zh / 10), dgt zh, dgt (zm / 10), dgt zm] 22 24 = dg2 zh := rfl
  have s7 : sl [p, q, 45, a, b, c, 45, dgt ((1999 + k) / 1000), dgt ((1999 + k) / 100), dgt ((1999 + k) / 10), dgt (1999 + k), 32, dgt (H / 10), dgt H, 58, dgt (M / 10), dgt M, 58, dgt (S / 10), dgt S, 32, sg, dgt (zh / 10), dgt zh, dgt (zm / 10), dgt zm] 24 26 = dg2 zm := rfl
  have s8 : dayR [p, q, 45, a, b, c, 45, dgt ((1999 + k) / 1000), dgt ((1999 + k) / 100), dgt ((1999 + k) / 10), dgt (1999 + k), 32, dgt (H / 10), dgt H, 58, dgt (M / 10), dgt M, 58, dgt (S / 10), dgt S, 32, sg, dgt (zh / 10), dgt zh, dgt (zm / 10), dgt zm] = if p = 32 then [q] else [p, q] := rfl
  have s9 : at0 [p, q, 45, a, b, c, 45, dgt ((1999 + k) / 1000), dgt ((1999 + k) / 100), dgt ((1999 + k) / 10), dgt (1999 + k), 32, dgt (H / 10), dgt H, 58, dgt (M / 10), dgt M, 58, dgt (S / 10), dgt S, 32, sg, dgt (zh / 10), dgt zh, dgt (zm / 10), dgt zm] 21 = sg := rfl
  generalize hl : [p, q, 45, a, b, c, 45, dgt ((1999 + k) / 1000), dgt ((1999 + k) / 100), dgt ((1999 + k) / 10), dgt (1999 + k), 32, dgt (H / 10), dgt H, 58, dgt (M / 10), dgt M, 58, dgt (S / 10), dgt S, 32, sg, dgt (zh / 10), dgt zh, dgt (zm / 10), dgt zm] = L at *
  have hmk : marksR L := by
    rw [← hl]
    exact ⟨rfl, rfl, rfl, rfl, rfl, rfl, rfl, hsg⟩
  have hdg : digsR L := by
    unfold digsR
    rw [s1, s3, s4, s5, s6, s7, s8]
    refine ⟨hdB, dB_dg4 _, dB_dg2 _, dB_dg2 _, dB_dg2 _, dB_dg2 _, dB_dg2 _, ?_, ?_, ?_⟩
    · rw [← hl]; exact hp48
    · rw [dV_dg2 _ (by omega)]; exact hzh
    · rw [dV_dg2 _ (by omega)]; exact hzm
  rw [parR_yes ⟨hmk, hdg⟩, s1, s2, s3, s4, s5, s8, hdV, hmv, dV_dg4 _ (by omega), dV_dg2 _ hH, dV_dg2 _ hM, dV_dg2 _ hS]
  unfold zR
  rw [s6, s7, s9, dV_dg2 _ (by omega), dV_dg2 _ (by omega)]
/-- A moment's date is the moment's. -/
theorem sec_tm (k j d s : Nat) (hs : s < 4294967296) (hD : IsDate (s / 86400 + 365) k j d) : Sec 2136 ((1999 + k : Nat) : Int) ((j + 1 : Nat) : Int) ((d + 1 : Nat) : Int) ((s % 86400 / 3600 : Nat) : Int) ((s % 3600 / 60 : Nat) : Int) ((s % 60 : Nat) : Int) s := by
  have hk := hD.small (by omega)
  have hsum := hD.sum
  refine ⟨k, j, d, by omega, by omega, by omega, hD.mon, by omega, hD.day, ⟨by omega, by omega, by omega⟩, ?_⟩
  rw [← hsum]
  omega
theorem internal_back (k j d s : Nat) (hs : s < 4294967296) (hD : IsDate (s / 86400 + 365) k j d) : parR (internalL k j d s) = ((s : Int), 0) := by
  have hk := hD.small (by omega)
  have hdm := dim_le k j
  have hdd := hD.day
  rw [internal_text, text_par k j d _ _ _ 43 0 0 (by omega) hD.mon (by omega) (by omega) (by omega) (by omega) (.inl rfl) (by omega) (by omega)]
  rw [if_pos rfl, secZ_some (v := s) (sec_tm k j d s hs hD) (by omega)]
  simp
end Go.Proofs.YtjbojboiagbofaaDoor
