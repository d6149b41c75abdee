/- StampZones' walk. -/
import Derived.Test.YtjbojboiagbofaaDoorL5
set_option linter.unusedSimpArgs false
set_option linter.unusedVariables false
namespace Go.Proofs.YtjbojboiagbofaaDoor
open Go.RowKit Go.Shelf

theorem run_four (w : World) (a b c d : Int) : (convert 36 9 (.slice (some ⟨w.heap.size, 0, none⟩) 4 4)).run Tryd.prog (w.alloc (.cells #[.int .u8 a, .int .u8 b, .int .u8 c, .int .u8 d] 5)) = .ok (.string ⟨#[UInt8.ofNat a.toNat, UInt8.ofNat b.toNat, UInt8.ofNat c.toNat, UInt8.ofNat d.toNat]⟩) (w.alloc (.cells #[.int .u8 a, .int .u8 b, .int .u8 c, .int .u8 d] 5)) := by
  rw [run_convert_bytes_arg (w.alloc (.cells #[.int .u8 a, .int .u8 b, .int .u8 c, .int .u8 d] 5)) 36 5 Tryd.underlying36 Tryd.underlying5 w.heap.size 0 4 4 [a, b, c, d] rfl (fun i hi => ?_) 9 Tryd.underlying9]
  · rfl
  · rw [cell_of_row _ _ _ _ _ _ (heap_alloc_new w _)]
    match i, hi with
    | 0, _ | 1, _ | 2, _ | 3, _ => rfl
theorem text_split (k j d H M S : Nat) (sg : UInt8) (zh zm : Nat) : textL k j d H M S sg zh zm = (dgp 32 (d + 1) ++ ([45] ++ (mon j ++ ([45] ++ (dg4 (1999 + k) ++ ([32] ++ (dg2 H ++ ([58] ++ (dg2 M ++ ([58] ++ (dg2 S ++ [32]))))))))))) ++ ([sg] ++ (dg2 zh ++ dg2 zm)) := by
  unfold textL
  simp only [List.append_assoc, List.cons_append, List.nil_append]
theorem pre_len (k j d H M S : Nat) (hj : j < 12) : (dgp 32 (d + 1) ++ ([45] ++ (mon j ++ ([45] ++ (dg4 (1999 + k) ++ ([32] ++ (dg2 H ++ ([58] ++ (dg2 M ++ ([58] ++ (dg2 S ++ [32]))))))))))).length = 21 := by
  have h1 := dgp_len 32 (d + 1)
  have h2 := mon_len j hj
  have h3 : (dg4 (1999 + k)).length = 4 := rfl
  have h4 : ∀ n, (dg2 n).length = 2 := fun _ => rfl
  simp only [List.length_append, List.length_cons, List.length_nil, h1, h2, h3, h4]
def preL (k j d s : Nat) : List UInt8 := dgp 32 (d + 1) ++ ([45] ++ (mon j ++ ([45] ++ (dg4 (1999 + k) ++ ([32] ++ (dg2 (s % 86400 / 3600) ++ ([58] ++ (dg2 (s % 3600 / 60) ++ ([58] ++ (dg2 (s % 60) ++ [32]))))))))))
theorem zone_par (k j d s : Nat) (hs : s < 4294967296) (hD : IsDate (s / 86400 + 365) k j d) (sg : UInt8) (hsg : sg = 43 ∨ sg = 45) (zh zm : Nat) (hzh : zh ≤ 14) (hzm : zm ≤ 59) :
    parR (preL k j d s ++ ([sg] ++ (dg2 zh ++ dg2 zm))) = secZ ((1999 + k : Nat) : Int) ((j + 1 : Nat) : Int) ((d + 1 : Nat) : Int) ((s % 86400 / 3600 : Nat) : Int) ((s % 3600 / 60 : Nat) : Int) ((s % 60 : Nat) : Int) (if sg = 43 then 3600 * (zh : Int) + 60 * zm else -(3600 * (zh : Int) + 60 * zm)) := by
  have hk := hD.small (by omega)
  have hdm := dim_le k j
  have hdd := hD.day
  have := text_par k j d (s % 86400 / 3600) (s % 3600 / 60) (s % 60) sg zh zm (by omega) hD.mon (by omega) (by omega) (by omega) (by omega) hsg hzh hzm
  rw [text_split] at this
  exact this
theorem zone_plus (k j d s : Nat) (hs : s < 4294967296) (hD : IsDate (s / 86400 + 365) k j d) (zh zm : Nat) (hzh : zh ≤ 14) (hzm : zm ≤ 59) :
    (3600 * zh + 60 * zm ≤ s → parR (preL k j d s ++ ([43] ++ (dg2 zh ++ dg2 zm))) = ((s : Int) - (3600 * (zh : Int) + 60 * zm), 0)) ∧ (s < 3600 * zh + 60 * zm → parR (preL k j d s ++ ([43] ++ (dg2 zh ++ dg2 zm))) = (0, 80)) := by
  rw [zone_par k j d s hs hD 43 (.inl rfl) zh zm hzh hzm, if_pos rfl]
  have hS := sec_tm k j d s hs hD
  refine ⟨fun h => secZ_some hS (by omega), fun h => secZ_none ?_⟩
  rintro ⟨v, g1, g2⟩
  have := hS.fun g1
  omega
theorem zone_minus (k j d s : Nat) (hs : s < 4294967296) (hD : IsDate (s / 86400 + 365) k j d) (zh zm : Nat) (hzh : zh ≤ 14) (hzm : zm ≤ 59) :
    (s + (3600 * zh + 60 * zm) < 4294967296 → parR (preL k j d s ++ ([45] ++ (dg2 zh ++ dg2 zm))) = ((s : Int) + (3600 * (zh : Int) + 60 * zm), 0)) ∧ (4294967296 ≤ s + (3600 * zh + 60 * zm) → parR (preL k j d s ++ ([45] ++ (dg2 zh ++ dg2 zm))) = (0, 80)) := by
  rw [zone_par k j d s hs hD 45 (.inr rfl) zh zm hzh hzm, if_neg (by decide)]
  have hS := sec_tm k j d s hs hD
  refine ⟨fun h => (secZ_some hS (by omega)).trans (by rw [Int.sub_neg]), fun h => secZ_none ?_⟩
  rintro ⟨v, g1, g2⟩
  have := hS.fun g1
  omega
theorem internal_pre (k j d s : Nat) (hj : j < 12) : (⟨(internalL k j d s).toArray⟩ : ByteArray).extract 0 21 = ⟨(preL k j d s).toArray⟩ := by
  rw [internal_text, text_split, str_take, List.take_left' (pre_len k j d _ _ _ hj)]
  rfl
theorem dgt_eq (n : Nat) (h : n < 100) : UInt8.ofNat (48 + n / 10) = dgt (n / 10) := by unfold dgt; rw [Nat.mod_eq_of_lt (by omega)]
theorem add48 (n : Nat) : (48 : UInt8) + UInt8.ofNat n = UInt8.ofNat (48 + n) := by
  apply UInt8.toNat_inj.1
  simp [UInt8.toNat_add, UInt8.toNat_ofNat]
theorem zone_cat (pl : List UInt8) (sg : UInt8) (zh zm : Nat) (hzh : zh ≤ 14) (hzm : zm ≤ 59) : (⟨pl.toArray⟩ : ByteArray) ++ ⟨#[sg]⟩ ++ ⟨#[48 + UInt8.ofNat (zh / 10), 48 + UInt8.ofNat (zh % 10), 48 + UInt8.ofNat (zm / 10), 48 + UInt8.ofNat (zm % 10)]⟩ = ⟨(pl ++ ([sg] ++ (dg2 zh ++ dg2 zm))).toArray⟩ := by
  rw [add48, add48, add48, add48]
  have h1 : dg2 zh ++ dg2 zm = [UInt8.ofNat (48 + zh / 10), UInt8.ofNat (48 + zh % 10), UInt8.ofNat (48 + zm / 10), UInt8.ofNat (48 + zm % 10)] := by
    unfold dg2 dgt
    rw [Nat.mod_eq_of_lt (show zh / 10 < 10 by omega), Nat.mod_eq_of_lt (show zm / 10 < 10 by omega)]
    rfl
  rw [h1, ← str_app, ← str_app, ByteArray.append_assoc]
set_option maxHeartbeats 4000000 in
set_option maxRecDepth 100000 in
theorem zones_try (s zh zm : Nat) (hs : s < 4294967296) (hzh : zh ≤ 14) (hzm : zm ≤ 59) (w : World) (hT : Tabs w) (hw0 : 0 < w.heap.size) : Calls Tryd.prog 7 #[.int .i64 s, .int .i64 zh, .int .i64 zm] w fun e w' => e = .returned (.bool true) ∧ Below w.heap.size w w' := by
  obtain ⟨k, j, d, hD⟩ := date_ex (s / 86400 + 365)
  have cI := fun w hT => internal_any s k j d hs hD w hT
  have z2 : (⟨(internalL k j d s).toArray⟩ : ByteArray).size = 26 := internalL_len k j d s hD.mon
  have x21 := internal_pre k j d s hD.mon
  have zP : (⟨(preL k j d s).toArray⟩ : ByteArray).size = 21 := pre_len k j d _ _ _ hD.mon
  have HP := Lib.hid (zone_plus k j d s hs hD zh zm hzh hzm)
  have HM := Lib.hid (zone_minus k j d s hs hD zh zm hzh hzm)
  have hfour := run_four
  generalize hpl : preL k j d s = pl at *
  generalize (⟨(internalL k j d s).toArray⟩ : ByteArray) = si at *
  clear hD hpl
  have hl1 : (pl ++ ([43] ++ (dg2 zh ++ dg2 zm))).length ≤ 100 := by
    have h4 : ∀ n, (dg2 n).length = 2 := fun _ => rfl
    have h5 : pl.length = 21 := zP
    simp only [List.length_append, List.length_cons, List.length_nil, h4, h5]
    omega
  have hl2 : (pl ++ ([45] ++ (dg2 zh ++ dg2 zm))).length ≤ 100 := by
    have h4 : ∀ n, (dg2 n).length = 2 := fun _ => rfl
    have h5 : pl.length = 21 := zP
    simp only [List.length_append, List.length_cons, List.length_nil, h4, h5]
    omega
  have cP : ∀ p, parR (pl ++ ([43] ++ (dg2 zh ++ dg2 zm))) = p → ∀ w, Tabs w → 0 < w.heap.size → Calls Tryd.prog 18 #[.string ((⟨pl.toArray⟩ : ByteArray) ++ ⟨#[43]⟩ ++ ⟨#[48 + UInt8.ofNat (zh / 10), 48 + UInt8.ofNat (zh % 10), 48 + UInt8.ofNat (zm / 10), 48 + UInt8.ofNat (zm % 10)]⟩)] w fun e w' => e = .returned (.tuple #[.int .i64 p.1, .int .i64 p.2]) ∧ Below w.heap.size w w' := fun p hp w hT hw => by
    rw [zone_cat pl 43 zh zm hzh hzm]
    exact par_at _ p hp hl1 w hT hw
  have cM : ∀ p, parR (pl ++ ([45] ++ (dg2 zh ++ dg2 zm))) = p → ∀ w, Tabs w → 0 < w.heap.size → Calls Tryd.prog 18 #[.string ((⟨pl.toArray⟩ : ByteArray) ++ ⟨#[45]⟩ ++ ⟨#[48 + UInt8.ofNat (zh / 10), 48 + UInt8.ofNat (zh % 10), 48 + UInt8.ofNat (zm / 10), 48 + UInt8.ofNat (zm % 10)]⟩)] w fun e w' => e = .returned (.tuple #[.int .i64 p.1, .int .i64 p.2]) ∧ Below w.heap.size w w' := fun p hp w hT hw => by
    rw [zone_cat pl 45 zh zm hzh hzm]
    exact par_at _ p hp hl2 w hT hw
  clear hl1 hl2
  generalize (⟨pl.toArray⟩ : ByteArray) = Ps at *
  have d1 : decide ((s : Int) < 0) = false := decide_eq_false (by omega)
  have d2 : decide ((4294967296 : Int) ≤ s) = false := decide_eq_false (by omega)
  have d3 : decide ((zh : Int) < 0) = false := decide_eq_false (by omega)
  have d4 : decide ((14 : Int) < zh) = false := decide_eq_false (by omega)
  have d5 : decide ((zm : Int) < 0) = false := decide_eq_false (by omega)
  have d6 : decide ((59 : Int) < zm) = false := decide_eq_false (by omega)
  have HS := Lib.hid hs
  clear hs
  have h1 : 3600 * zh + 60 * zm ≤ s ∨ s < 3600 * zh + 60 * zm := by omega
  have h2 : s + (3600 * zh + 60 * zm) < 4294967296 ∨ 4294967296 ≤ s + (3600 * zh + 60 * zm) := by omega
  rcases h1 with h1 | h1
  · rcases h2 with h2 | h2
    · have c1 := cP _ (HP.out.1 h1)
      have c2 := cM _ (HM.out.1 h2)
      clear h1 h2
      clear cP cM HP HM
      go_enter Tryd.func7, Tryd.ntmps7
      go_wp2_with fail
      refine (shown_any _ hT hw0).mono ?_; rintro e w0 ⟨rfl, b0⟩
      have T0 := hT.below b0
      go_wp2_with fail
      refine (cI _ T0).mono ?_; rintro e w1 ⟨rfl, b1⟩
      have B1 := below_al (b0.trans (b1.mono b0.size)) (b0.trans (b1.mono b0.size)).size (.cells #[.int .u8 (48 + (zh : Int) / 10), .int .u8 (48 + (zh : Int) % 10), .int .u8 (48 + (zm : Int) / 10), .int .u8 (48 + (zm : Int) % 10)] 5)
      have Bx := b0.trans (b1.mono b0.size)
      clear b0 b1 T0
      go_wp2_with fail
      refine (c1 _ (hT.below B1) (Nat.lt_of_lt_of_le hw0 B1.size)).mono ?_; rintro e w2 ⟨rfl, b2⟩
      have B2 := B1.trans (b2.mono B1.size)
      clear b2 Bx
      go_wp2_with fail
      refine (c2 _ (hT.below B2) (Nat.lt_of_lt_of_le hw0 B2.size)).mono ?_; rintro e w3 ⟨rfl, b3⟩
      have B3 := B2.trans (b3.mono B2.size)
      clear b3 B2 B1 d1 d2 d3 d4 d5 d6 c1 c2
      have e1 : wrap64 ((s : Int) + (3600 * (zh : Int) + 60 * zm)) = (s : Int) + (3600 * (zh : Int) + 60 * zm) := by
        have hs := HS.out
        unfold wrap64; omega
      have e2 : wrap64 ((s : Int) - (3600 * (zh : Int) + 60 * zm)) = (s : Int) - (3600 * (zh : Int) + 60 * zm) := by
        have hs := HS.out
        unfold wrap64; omega
      have e3 : IntKind.i64.wrap ((s : Int) + (3600 * (zh : Int) + 60 * zm)) = (s : Int) + (3600 * (zh : Int) + 60 * zm) := by
        have hs := HS.out
        exact wrapI (by omega) (by omega)
      have e4 : IntKind.i64.wrap ((s : Int) - (3600 * (zh : Int) + 60 * zm)) = (s : Int) - (3600 * (zh : Int) + 60 * zm) := by
        have hs := HS.out
        exact wrapI (by omega) (by omega)
      clear HS hzh hzm
      clear hfour
      generalize (3600 * (zh : Int) + 60 * zm) = off at *
      generalize (s : Int) = ss at *
      go_wp2
      go_ret
      exact ⟨rfl, B3⟩
    · have c1 := cP _ (HP.out.1 h1)
      have c2 := cM _ (HM.out.2 h2)
      have dd2 : decide ((4294967296 : Int) ≤ (s : Int) + (3600 * (zh : Int) + 60 * zm)) = true := decide_eq_true (by omega)
      clear h1 h2
      clear cP cM HP HM
      go_enter Tryd.func7, Tryd.ntmps7
      go_wp2_with fail
      refine (shown_any _ hT hw0).mono ?_; rintro e w0 ⟨rfl, b0⟩
      have T0 := hT.below b0
      go_wp2_with fail
      refine (cI _ T0).mono ?_; rintro e w1 ⟨rfl, b1⟩
      have B1 := below_al (b0.trans (b1.mono b0.size)) (b0.trans (b1.mono b0.size)).size (.cells #[.int .u8 (48 + (zh : Int) / 10), .int .u8 (48 + (zh : Int) % 10), .int .u8 (48 + (zm : Int) / 10), .int .u8 (48 + (zm : Int) % 10)] 5)
      have Bx := b0.trans (b1.mono b0.size)
      clear b0 b1 T0
      go_wp2_with fail
      refine (c1 _ (hT.below B1) (Nat.lt_of_lt_of_le hw0 B1.size)).mono ?_; rintro e w2 ⟨rfl, b2⟩
      have B2 := B1.trans (b2.mono B1.size)
      clear b2 Bx
      go_wp2_with fail
      refine (c2 _ (hT.below B2) (Nat.lt_of_lt_of_le hw0 B2.size)).mono ?_; rintro e w3 ⟨rfl, b3⟩
      have B3 := B2.trans (b3.mono B2.size)
      clear b3 B2 B1 d1 d2 d3 d4 d5 d6 c1 c2
      have e1 : wrap64 ((s : Int) + (3600 * (zh : Int) + 60 * zm)) = (s : Int) + (3600 * (zh : Int) + 60 * zm) := by
        have hs := HS.out
        unfold wrap64; omega
      have e2 : wrap64 ((s : Int) - (3600 * (zh : Int) + 60 * zm)) = (s : Int) - (3600 * (zh : Int) + 60 * zm) := by
        have hs := HS.out
        unfold wrap64; omega
      have e3 : IntKind.i64.wrap ((s : Int) + (3600 * (zh : Int) + 60 * zm)) = (s : Int) + (3600 * (zh : Int) + 60 * zm) := by
        have hs := HS.out
        exact wrapI (by omega) (by omega)
      have e4 : IntKind.i64.wrap ((s : Int) - (3600 * (zh : Int) + 60 * zm)) = (s : Int) - (3600 * (zh : Int) + 60 * zm) := by
        have hs := HS.out
        exact wrapI (by omega) (by omega)
      clear HS hzh hzm
      clear hfour
      generalize (3600 * (zh : Int) + 60 * zm) = off at *
      generalize (s : Int) = ss at *
      go_wp2
      go_ret
      exact ⟨rfl, B3⟩
  · rcases h2 with h2 | h2
    · have c1 := cP _ (HP.out.2 h1)
      have c2 := cM _ (HM.out.1 h2)
      have dd1 : decide ((s : Int) < 3600 * (zh : Int) + 60 * zm) = true := decide_eq_true (by omega)
      clear h1 h2
      clear cP cM HP HM
      go_enter Tryd.func7, Tryd.ntmps7
      go_wp2_with fail
      refine (shown_any _ hT hw0).mono ?_; rintro e w0 ⟨rfl, b0⟩
      have T0 := hT.below b0
      go_wp2_with fail
      refine (cI _ T0).mono ?_; rintro e w1 ⟨rfl, b1⟩
      have B1 := below_al (b0.trans (b1.mono b0.size)) (b0.trans (b1.mono b0.size)).size (.cells #[.int .u8 (48 + (zh : Int) / 10), .int .u8 (48 + (zh : Int) % 10), .int .u8 (48 + (zm : Int) / 10), .int .u8 (48 + (zm : Int) % 10)] 5)
      have Bx := b0.trans (b1.mono b0.size)
      clear b0 b1 T0
      go_wp2_with fail
      refine (c1 _ (hT.below B1) (Nat.lt_of_lt_of_le hw0 B1.size)).mono ?_; rintro e w2 ⟨rfl, b2⟩
      have B2 := B1.trans (b2.mono B1.size)
      clear b2 Bx
      go_wp2_with fail
      refine (c2 _ (hT.below B2) (Nat.lt_of_lt_of_le hw0 B2.size)).mono ?_; rintro e w3 ⟨rfl, b3⟩
      have B3 := B2.trans (b3.mono B2.size)
      clear b3 B2 B1 d1 d2 d3 d4 d5 d6 c1 c2
      have e1 : wrap64 ((s : Int) + (3600 * (zh : Int) + 60 * zm)) = (s : Int) + (3600 * (zh : Int) + 60 * zm) := by
        have hs := HS.out
        unfold wrap64; omega
      have e2 : wrap64 ((s : Int) - (3600 * (zh : Int) + 60 * zm)) = (s : Int) - (3600 * (zh : Int) + 60 * zm) := by
        have hs := HS.out
        unfold wrap64; omega
      have e3 : IntKind.i64.wrap ((s : Int) + (3600 * (zh : Int) + 60 * zm)) = (s : Int) + (3600 * (zh : Int) + 60 * zm) := by
        have hs := HS.out
        exact wrapI (by omega) (by omega)
      have e4 : IntKind.i64.wrap ((s : Int) - (3600 * (zh : Int) + 60 * zm)) = (s : Int) - (3600 * (zh : Int) + 60 * zm) := by
        have hs := HS.out
        exact wrapI (by omega) (by omega)
      clear HS hzh hzm
      clear hfour
      generalize (3600 * (zh : Int) + 60 * zm) = off at *
      generalize (s : Int) = ss at *
      go_wp2
      go_ret
      exact ⟨rfl, B3⟩
    · have c1 := cP _ (HP.out.2 h1)
      have c2 := cM _ (HM.out.2 h2)
      have dd1 : decide ((s : Int) < 3600 * (zh : Int) + 60 * zm) = true := decide_eq_true (by omega)
      have dd2 : decide ((4294967296 : Int) ≤ (s : Int) + (3600 * (zh : Int) + 60 * zm)) = true := decide_eq_true (by omega)
      clear h1 h2
      clear cP cM HP HM
      go_enter Tryd.func7, Tryd.ntmps7
      go_wp2_with fail
      refine (shown_any _ hT hw0).mono ?_; rintro e w0 ⟨rfl, b0⟩
      have T0 := hT.below b0
      go_wp2_with fail
      refine (cI _ T0).mono ?_; rintro e w1 ⟨rfl, b1⟩
      have B1 := below_al (b0.trans (b1.mono b0.size)) (b0.trans (b1.mono b0.size)).size (.cells #[.int .u8 (48 + (zh : Int) / 10), .int .u8 (48 + (zh : Int) % 10), .int .u8 (48 + (zm : Int) / 10), .int .u8 (48 + (zm : Int) % 10)] 5)
      have Bx := b0.trans (b1.mono b0.size)
      clear b0 b1 T0
      go_wp2_with fail
      refine (c1 _ (hT.below B1) (Nat.lt_of_lt_of_le hw0 B1.size)).mono ?_; rintro e w2 ⟨rfl, b2⟩
      have B2 := B1.trans (b2.mono B1.size)
      clear b2 Bx
      go_wp2_with fail
      refine (c2 _ (hT.below B2) (Nat.lt_of_lt_of_le hw0 B2.size)).mono ?_; rintro e w3 ⟨rfl, b3⟩
      have B3 := B2.trans (b3.mono B2.size)
      clear b3 B2 B1 d1 d2 d3 d4 d5 d6 c1 c2
      have e1 : wrap64 ((s : Int) + (3600 * (zh : Int) + 60 * zm)) = (s : Int) + (3600 * (zh : Int) + 60 * zm) := by
        have hs := HS.out
        unfold wrap64; omega
      have e2 : wrap64 ((s : Int) - (3600 * (zh : Int) + 60 * zm)) = (s : Int) - (3600 * (zh : Int) + 60 * zm) := by
        have hs := HS.out
        unfold wrap64; omega
      have e3 : IntKind.i64.wrap ((s : Int) + (3600 * (zh : Int) + 60 * zm)) = (s : Int) + (3600 * (zh : Int) + 60 * zm) := by
        have hs := HS.out
        exact wrapI (by omega) (by omega)
      have e4 : IntKind.i64.wrap ((s : Int) - (3600 * (zh : Int) + 60 * zm)) = (s : Int) - (3600 * (zh : Int) + 60 * zm) := by
        have hs := HS.out
        exact wrapI (by omega) (by omega)
      clear HS hzh hzm
      clear hfour
      generalize (3600 * (zh : Int) + 60 * zm) = off at *
      generalize (s : Int) = ss at *
      go_wp2
      go_ret
      exact ⟨rfl, B3⟩
set_option maxHeartbeats 4000000 in
set_option maxRecDepth 100000 in
theorem zones_none (s zh zm : Int) (hn : s < 0 ∨ (¬ s < 0 ∧ 4294967296 ≤ s) ∨ (¬ s < 0 ∧ ¬ 4294967296 ≤ s ∧ zh < 0) ∨ (¬ s < 0 ∧ ¬ 4294967296 ≤ s ∧ ¬ zh < 0 ∧ 14 < zh) ∨ (¬ s < 0 ∧ ¬ 4294967296 ≤ s ∧ ¬ zh < 0 ∧ ¬ 14 < zh ∧ zm < 0) ∨ (¬ s < 0 ∧ ¬ 4294967296 ≤ s ∧ ¬ zh < 0 ∧ ¬ 14 < zh ∧ ¬ zm < 0 ∧ 59 < zm)) (w : World) (hT : Tabs w) (hw0 : 0 < w.heap.size) : Calls Tryd.prog 7 #[.int .i64 s, .int .i64 zh, .int .i64 zm] w fun e w' => e = .returned (.bool true) ∧ Below w.heap.size w w' := by
  rcases hn with h1 | ⟨h1, h2⟩ | ⟨h1, h2, h3⟩ | ⟨h1, h2, h3, h4⟩ | ⟨h1, h2, h3, h4, h5⟩ | ⟨h1, h2, h3, h4, h5, h6⟩
  all_goals
    go_enter Tryd.func7, Tryd.ntmps7
    go_wp2_with fail
    refine (shown_any _ hT hw0).mono ?_; rintro e w0 ⟨rfl, b0⟩
    go_wp2
    go_ret
    exact ⟨rfl, b0⟩
theorem zones_any (s zh zm : Int) (w : World) (b0 : -9223372036854775808 ≤ s ∧ s ≤ 9223372036854775807) (b1 : -9223372036854775808 ≤ zh ∧ zh ≤ 9223372036854775807) (b2 : -9223372036854775808 ≤ zm ∧ zm ≤ 9223372036854775807) (hT : Tabs w) (hw0 : 0 < w.heap.size) : Calls Tryd.prog 7 #[.int .i64 s, .int .i64 zh, .int .i64 zm] w fun e w' => e = .returned (.bool true) ∧ Below w.heap.size w w' := by
  by_cases hn : s < 0 ∨ (¬ s < 0 ∧ 4294967296 ≤ s) ∨ (¬ s < 0 ∧ ¬ 4294967296 ≤ s ∧ zh < 0) ∨ (¬ s < 0 ∧ ¬ 4294967296 ≤ s ∧ ¬ zh < 0 ∧ 14 < zh) ∨ (¬ s < 0 ∧ ¬ 4294967296 ≤ s ∧ ¬ zh < 0 ∧ ¬ 14 < zh ∧ zm < 0) ∨ (¬ s < 0 ∧ ¬ 4294967296 ≤ s ∧ ¬ zh < 0 ∧ ¬ 14 < zh ∧ ¬ zm < 0 ∧ 59 < zm)
  · exact zones_none s zh zm hn w hT hw0
  · obtain ⟨x, rfl⟩ : ∃ x : Nat, s = x := ⟨s.toNat, by omega⟩
    obtain ⟨y, rfl⟩ : ∃ y : Nat, zh = y := ⟨zh.toNat, by omega⟩
    obtain ⟨z, rfl⟩ : ∃ z : Nat, zm = z := ⟨zm.toNat, by omega⟩
    exact zones_try x y z (by omega) (by omega) (by omega) w hT hw0
end Go.Proofs.YtjbojboiagbofaaDoor
