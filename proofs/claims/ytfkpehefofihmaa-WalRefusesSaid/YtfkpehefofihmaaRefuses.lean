/- WalRefuses, walked. -/
import Derived.Test.YtfkpehefofihmaaW18
set_option linter.unusedSimpArgs false
set_option linter.unusedVariables false
set_option maxRecDepth 8000
namespace Go.Proofs.Ytfkpehefofihmaa
open Go.RowKit

/-- Slices of puts that came in, in a slice. -/
structure GroupsIn (w : World) (a : Option Addr) (len : Nat) (lv : Nat → Value) (rs : Nat → List (Int × Nat)) : Prop where
  small : len ≤ 9223372036854775807
  each : ∀ i, i < len → ∃ g o, a = some ⟨g, o, none⟩ ∧ g < w.heap.size ∧ w.cell? ⟨g, o + i, none⟩ = some (lv i) ∧ RawsAt w (lv i) (rs i)

section
variable {o : Oper} {a : Act} {w : World}
theorem run_index66 {x y : Operand} {g off j n cap : Nat} (hj : j < n) (ho : o.op = .indexAddr 66 x y) (hx : a.eval x = .slice (some ⟨g, off, none⟩) n cap) (hy : a.eval y = .int .i64 j) : ∀ w, (execOp a.eval o).run Try.prog w = .ok (.value (.pointer (some ⟨g, off + j, none⟩))) w := by
  intro w
  unfold execOp
  simp only [ho, hx, hy]
  go_simp
theorem isAgg32 (w : World) : (isAgg 32).run Try.prog w = .ok false w := by kernel_rfl
end

set_option maxHeartbeats 4000000 in
theorem refuses_0 (w : World) (ad : Option Addr) (len cap : Nat) (lv : Nat → Value) (rs : Nat → List (Int × Nat)) (hin : GroupsIn w ad len lv rs) (hsz : len ≤ 40) :
    Calls Try.prog 7 #[.slice ad len cap] w fun e w' => e = .returned (.bool true) ∧ Only [] w w' := by
  have SH := Lib.hid (shown_any w)
  have hsm := hin.small
  have HIN := Lib.hid hin
  clear hin
  go_enter Try.func7, Try.ntmps7
  go_wp2_with fail
  refine SH.out.mono ?_
  rintro e w1 ⟨rfl, o1⟩
  have G := Lib.hid (ground_any ((Has.start w).later o1) 0 (by omega) (by omega))
  clear SH o1
  go_wp2_with fail
  refine G.out.mono ?_
  rintro e w2 ⟨b, F, wb, rfl, h⟩
  have H := Lib.hid h.swap
  clear G h
  generalize updF (fun _ => none) 0 (headA 0 40 0 0) = f at *
  go_wp2
  go_loopw [6] (fun i wr => ∃ k : Nat, k ≤ len ∧ i = .int .i64 k ∧ Has w wr (DRes b F (quiet 100 2 f) :: WRes wb b 0 40 0 :: [])) (fun i _ => len - (intOf i).toNat)
  case atStart => exact ⟨0, by omega, rfl, H.out⟩
  case round =>
    obtain ⟨k, hk, rfl, hh⟩ := hrel
    by_cases hlt : k < len
    · obtain ⟨g, off, rfl, hg, hc, hraw⟩ := HIN.out.each k (by omega)
      have hl : ∃ a' n' c', lv k = .slice a' n' c' := by obtain ⟨a', c', e, _⟩ := hraw; exact ⟨a', _, c', e⟩
      have od : Only [] w wr.drew := hh.only.drew
      have hc1 : wr.drew.cell? ⟨g, off + k, none⟩ = some (lv k) := (World.cell?_of_block (od.block g hg (by simp))).trans hc
      have hd1 : DAt wr.drew b F (quiet 100 2 f) := hh.drew.dat
      have hr1 := hraw.only od
      have GR := Lib.hid (group_any hr1 0 100 (by omega) (by omega))
      have HH := Lib.hid hh
      have HRAW := Lib.hid hraw
      obtain ⟨a', n', c', hlv⟩ := hl
      rw [hlv] at hc1 GR
      have HLV := Lib.hid hlv
      have HC := Lib.hid hc
      clear hh hraw hlv hc od hr1
      go_wp2_with fail
      refine wp_region_flowR Lat [0, 0, 0, 1, 0, 1, 2] (by kernel_rfl) (by kernel_rfl) Lat.refl Lat.trans ?_
      refine fr0 rfl (fun _ => rfl) ?_
      simp only [Act.put, List.setIfInBounds_toArray, List.set_cons_succ, List.set_cons_zero]
      refine fr0 rfl (fun _ => rfl) ?_
      simp only [Act.put, List.setIfInBounds_toArray, List.set_cons_succ, List.set_cons_zero]
      refine fr0 rfl (run_index66 (n := len) (by omega) rfl rfl rfl) ?_
      simp only [Act.put, List.setIfInBounds_toArray, List.set_cons_succ, List.set_cons_zero]
      refine fr1 (u := .slice a' n' c') rfl (fun x hx => run_load1 rfl rfl (hx.cell hc1) isAgg32) ?_
      simp only [Act.put, List.setIfInBounds_toArray, List.set_cons_succ, List.set_cons_zero]
      refine fr0 rfl (fun _ => rfl) ?_
      simp only [Act.put, List.setIfInBounds_toArray, List.set_cons_succ, List.set_cons_zero]
      refine fr1c (u := .int .i64 100) rfl (fun x hx => does_len (hd1.lat hx) rfl rfl) ?_
      simp only [Act.put, List.setIfInBounds_toArray, List.set_cons_succ, List.set_cons_zero]
      refine fr2c rfl (run_enter3 Try.call14 rfl rfl rfl rfl) GR.out ?_
      rintro e w3 ⟨r, rfl, hrr, o3⟩
      refine ⟨_, rfl, o3.lat, ?_⟩
      simp only [Act.put, List.setIfInBounds_toArray, List.set_cons_succ, List.set_cons_zero]
      refine frnil ?_
      show Exit.then _ _ _ _ _
      have h3 : Has w w3 (DRes b F (quiet 100 2 f) :: WRes wb b 0 40 0 :: []) := HH.out.drew.later o3
      have H3 := Lib.hid h3
      by_cases hgo : GroupOk 0 40 100 (rs k)
      · have hrt : r = true := hrr.2 hgo
        subst hrt
        clear hrr h3 GR hc1 hd1 o3 hgo
        go_wp2
        go_roundw
        case rel => exact ⟨k + 1, by omega, by go_num, H3.out⟩
        case measure => simp [intOf]; omega
      · have hrt : r = false := by
          cases r with
          | false => rfl
          | true => exact absurd (hrr.1 rfl) hgo
        subst hrt
        have hc3 : w3.cell? ⟨g, off + k, none⟩ = some (.slice a' n' c') := by
          rw [← HLV.out]
          exact (World.cell?_of_block (h3.only.block g hg (by simp))).trans HC.out
        have hr3 := HRAW.out.only h3.only
        rw [HLV.out] at hr3
        have CO := Lib.hid (has_commit_no h3 hr3 (by omega) (by omega) (by omega) (by omega) hgo)
        have ST := Lib.hid (steps_any h3.dat)
        have GS := Lib.hid (groups_any (h3.walAt (wb := wb) (b := b) (a := 0) (s := 40) (g := 0) (by simp)))
        clear hrr h3 GR hc1 hd1 o3 hgo hr3
        go_wp2_with (first | (go_at_call 27; refine ST.out.mono ?_; rintro e w' ⟨rfl, rfl⟩) | (go_at_call 21; refine GS.out.mono ?_; rintro e w' ⟨rfl, rfl⟩))
        refine CO.out.mono ?_
        rintro e w4 ⟨rfl, h4⟩
        have H4 := Lib.hid h4
        have ST4 := Lib.hid (steps_any h4.dat)
        have GS4 := Lib.hid (groups_any (h4.walAt (wb := wb) (b := b) (a := 0) (s := 40) (g := 0) (by simp)))
        clear h4 CO ST GS
        go_wp2_with (first | (go_at_call 27; refine ST4.out.mono ?_; rintro e w' ⟨rfl, rfl⟩) | (go_at_call 21; refine GS4.out.mono ?_; rintro e w' ⟨rfl, rfl⟩))
        go_roundw
        case rel => exact ⟨k + 1, by omega, by go_num, H4.out⟩
        case measure => simp [intOf]; omega
    · have hkl : k = len := by omega
      subst hkl
      have O := Lib.hid hh.only
      clear hh
      go_wp2
      go_ret
      exact ⟨rfl, O.out⟩

set_option maxHeartbeats 4000000 in
theorem refuses_1 (w : World) (ad : Option Addr) (len cap : Nat) (lv : Nat → Value) (rs : Nat → List (Int × Nat)) (hin : GroupsIn w ad len lv rs) (hsz : 40 < len) :
    Calls Try.prog 7 #[.slice ad len cap] w fun e w' => e = .returned (.bool true) ∧ Only [] w w' := by
  have SH := Lib.hid (shown_any w)
  have hsm := hin.small
  have HIN := Lib.hid hin
  clear hin
  go_enter Try.func7, Try.ntmps7
  go_wp2_with fail
  refine SH.out.mono ?_
  rintro e w1 ⟨rfl, o1⟩
  have G := Lib.hid (ground_any ((Has.start w).later o1) 0 (by omega) (by omega))
  clear SH o1
  go_wp2_with fail
  refine G.out.mono ?_
  rintro e w2 ⟨b, F, wb, rfl, h⟩
  have H := Lib.hid h.swap
  clear G h
  generalize updF (fun _ => none) 0 (headA 0 40 0 0) = f at *
  go_wp2
  go_loopw [6] (fun i wr => ∃ k : Nat, k ≤ 40 ∧ i = .int .i64 k ∧ Has w wr (DRes b F (quiet 100 2 f) :: WRes wb b 0 40 0 :: [])) (fun i _ => 40 - (intOf i).toNat)
  case atStart => exact ⟨0, by omega, rfl, H.out⟩
  case round =>
    obtain ⟨k, hk, rfl, hh⟩ := hrel
    by_cases hlt : k < 40
    · obtain ⟨g, off, rfl, hg, hc, hraw⟩ := HIN.out.each k (by omega)
      have hl : ∃ a' n' c', lv k = .slice a' n' c' := by obtain ⟨a', c', e, _⟩ := hraw; exact ⟨a', _, c', e⟩
      have od : Only [] w wr.drew := hh.only.drew
      have hc1 : wr.drew.cell? ⟨g, off + k, none⟩ = some (lv k) := (World.cell?_of_block (od.block g hg (by simp))).trans hc
      have hd1 : DAt wr.drew b F (quiet 100 2 f) := hh.drew.dat
      have hr1 := hraw.only od
      have GR := Lib.hid (group_any hr1 0 100 (by omega) (by omega))
      have HH := Lib.hid hh
      have HRAW := Lib.hid hraw
      obtain ⟨a', n', c', hlv⟩ := hl
      rw [hlv] at hc1 GR
      have HLV := Lib.hid hlv
      have HC := Lib.hid hc
      clear hh hraw hlv hc od hr1
      go_wp2_with fail
      refine wp_region_flowR Lat [0, 0, 0, 1, 0, 1, 2] (by kernel_rfl) (by kernel_rfl) Lat.refl Lat.trans ?_
      refine fr0 rfl (fun _ => rfl) ?_
      simp only [Act.put, List.setIfInBounds_toArray, List.set_cons_succ, List.set_cons_zero]
      refine fr0 rfl (fun _ => rfl) ?_
      simp only [Act.put, List.setIfInBounds_toArray, List.set_cons_succ, List.set_cons_zero]
      refine fr0 rfl (run_index66 (n := len) (by omega) rfl rfl rfl) ?_
      simp only [Act.put, List.setIfInBounds_toArray, List.set_cons_succ, List.set_cons_zero]
      refine fr1 (u := .slice a' n' c') rfl (fun x hx => run_load1 rfl rfl (hx.cell hc1) isAgg32) ?_
      simp only [Act.put, List.setIfInBounds_toArray, List.set_cons_succ, List.set_cons_zero]
      refine fr0 rfl (fun _ => rfl) ?_
      simp only [Act.put, List.setIfInBounds_toArray, List.set_cons_succ, List.set_cons_zero]
      refine fr1c (u := .int .i64 100) rfl (fun x hx => does_len (hd1.lat hx) rfl rfl) ?_
      simp only [Act.put, List.setIfInBounds_toArray, List.set_cons_succ, List.set_cons_zero]
      refine fr2c rfl (run_enter3 Try.call14 rfl rfl rfl rfl) GR.out ?_
      rintro e w3 ⟨r, rfl, hrr, o3⟩
      refine ⟨_, rfl, o3.lat, ?_⟩
      simp only [Act.put, List.setIfInBounds_toArray, List.set_cons_succ, List.set_cons_zero]
      refine frnil ?_
      show Exit.then _ _ _ _ _
      have h3 : Has w w3 (DRes b F (quiet 100 2 f) :: WRes wb b 0 40 0 :: []) := HH.out.drew.later o3
      have H3 := Lib.hid h3
      by_cases hgo : GroupOk 0 40 100 (rs k)
      · have hrt : r = true := hrr.2 hgo
        subst hrt
        clear hrr h3 GR hc1 hd1 o3 hgo
        go_wp2
        go_roundw
        case rel => exact ⟨k + 1, by omega, by go_num, H3.out⟩
        case measure => simp [intOf]; omega
      · have hrt : r = false := by
          cases r with
          | false => rfl
          | true => exact absurd (hrr.1 rfl) hgo
        subst hrt
        have hc3 : w3.cell? ⟨g, off + k, none⟩ = some (.slice a' n' c') := by
          rw [← HLV.out]
          exact (World.cell?_of_block (h3.only.block g hg (by simp))).trans HC.out
        have hr3 := HRAW.out.only h3.only
        rw [HLV.out] at hr3
        have CO := Lib.hid (has_commit_no h3 hr3 (by omega) (by omega) (by omega) (by omega) hgo)
        have ST := Lib.hid (steps_any h3.dat)
        have GS := Lib.hid (groups_any (h3.walAt (wb := wb) (b := b) (a := 0) (s := 40) (g := 0) (by simp)))
        clear hrr h3 GR hc1 hd1 o3 hgo hr3
        go_wp2_with (first | (go_at_call 27; refine ST.out.mono ?_; rintro e w' ⟨rfl, rfl⟩) | (go_at_call 21; refine GS.out.mono ?_; rintro e w' ⟨rfl, rfl⟩))
        refine CO.out.mono ?_
        rintro e w4 ⟨rfl, h4⟩
        have H4 := Lib.hid h4
        have ST4 := Lib.hid (steps_any h4.dat)
        have GS4 := Lib.hid (groups_any (h4.walAt (wb := wb) (b := b) (a := 0) (s := 40) (g := 0) (by simp)))
        clear h4 CO ST GS
        go_wp2_with (first | (go_at_call 27; refine ST4.out.mono ?_; rintro e w' ⟨rfl, rfl⟩) | (go_at_call 21; refine GS4.out.mono ?_; rintro e w' ⟨rfl, rfl⟩))
        go_roundw
        case rel => exact ⟨k + 1, by omega, by go_num, H4.out⟩
        case measure => simp [intOf]; omega
    · have hkl : k = 40 := by omega
      have hk40 : k = 40 := hkl
      subst hk40
      have O := Lib.hid hh.only
      clear hh
      go_wp2
      go_ret
      exact ⟨rfl, O.out⟩

theorem refuses_all (w : World) (ad : Option Addr) (len cap : Nat) (lv : Nat → Value) (rs : Nat → List (Int × Nat)) (hin : GroupsIn w ad len lv rs) :
    Calls Try.prog 7 #[.slice ad len cap] w fun e w' => e = .returned (.bool true) ∧ Only [] w w' := by
  rcases Nat.lt_or_ge 40 len with h | h
  · exact refuses_1 w ad len cap lv rs hin h
  · exact refuses_0 w ad len cap lv rs hin h

end Go.Proofs.Ytfkpehefofihmaa
