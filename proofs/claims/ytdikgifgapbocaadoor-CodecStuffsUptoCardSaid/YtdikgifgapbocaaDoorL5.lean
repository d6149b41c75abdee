/- CodecStuffs' walk. -/
import Derived.Test.YtdikgifgapbocaaDoorC22
import Derived.Deep.RegionHeld3
set_option linter.unusedSimpArgs false
set_option linter.unusedVariables false
namespace Go.Proofs.YtdikgifgapbocaaDoor
open Go.RowKit Go.Shelf

set_option maxHeartbeats 4000000 in
set_option maxRecDepth 1000000 in
theorem stuffs_any (a : Option Addr) (cap : Nat) (l : List UInt8) (s : ByteArray) (w : World) (hc : l.length ≤ cap) (hm : cap ≤ maxLen) (hl : l.length ≤ 1048576) (hs : s.size ≤ 1048576) (hB : Bs w a l) (hM : Max w) :
    Calls Tryd.prog 5 #[.slice a l.length cap, .string s] w fun e w' => e = .returned (.bool true) ∧ Below w.heap.size w w' := by
  have hu1 := fun w => unstuff_any s w
  have hu2 := fun w => runstuff_any s (by omega) w
  generalize (⟨(uns s.data.toList).toArray⟩ : ByteArray) = u at hu1 hu2
  generalize (s.data.toList == [46]) = en at hu1 hu2
  go_enter Tryd.func5, Tryd.ntmps5
  go_wp2_with fail
  refine (shown_any w hM).mono ?_; rintro e w1 ⟨rfl, b1⟩
  have hB1 := hB.below b1
  have z1 := b1.size
  go_wp2_with (at_builtin; refine wpL_obs rfl rfl rfl (OB.made' b1) rfl rfl rfl (hB1.below ((Below.refl _ _).alloc (Nat.le_refl _) _)) (by simp; omega) ?_; rw [List.nil_append, Nat.zero_add]; intro a2 c2 w2 o2)
  refine (stuff_any a2 c2 l w2 (by omega) o2.cells (hM.below o2.bel)).mono ?_; rintro e w3 ⟨g, c3, rfl, r3, q3, q4⟩
  go_wp2_with fail
  refine (hu1 w3).mono ?_; rintro e w4 ⟨rfl, hw⟩; rw [hw]
  go_wp2_with fail
  refine (hu2 w3).mono ?_; rintro e w5 ⟨rfl, hw'⟩; rw [hw']
  have b3 := r3.bel
  have b4 : Below w3.heap.size w3 w3.drew := (Below.refl _ _).drew
  have bw3 := below_trans (below_trans o2.bel b3) b4
  have hBw := hB.below bw3
  have hO := (o2.cells.below b3).below b4
  have hR := r3.bs.below b4
  have HE := rstuff_any a cap l w3.drew hc hm (by omega) hBw
  unfold RStuff at HE
  generalize hst : stuff l = S at *
  have s0 := bs_string' (n := S.length) c3 hR rfl
  go_wp2_with fail
  have s1 := bs_string' (n := l.length) c2 hO rfl
  have s2 := bs_string' (n := l.length) cap hBw rfl
  clear hst hw hw' hB1 z1 hs hM hB hl b1 b3 b4 q4 q3 o2 r3 s0
  have s0 := bs_string' (n := S.length) c3 hR rfl
  go_region_held3 (fun w' => (convert 22 9 (.slice (some ⟨g, 0, none⟩) S.length c3)).run Tryd.prog w' = .ok (.string ⟨S.toArray⟩) w' ∧ (convert 22 9 (.slice a2 l.length c2)).run Tryd.prog w' = .ok (.string ⟨l.toArray⟩) w' ∧ (convert 22 9 (.slice a l.length cap)).run Tryd.prog w' = .ok (.string ⟨l.toArray⟩) w')
    (first | exact ⟨s0, s1, s2⟩ | exact ⟨t0, t1, t2⟩)
    (first | (go_at_call 18; refine HE.mono ?_; rintro e w6 ⟨ar, cr, rfl, hr, q5, q6, b6⟩; have t0 := bs_string' c3 (hR.below b6) rfl; have t1 := bs_string' c2 (hO.below b6) rfl; have t2 := bs_string' cap (hBw.below b6) rfl; have t3 := bs_string' cr hr rfl))
  all_goals
    go_wp2
    go_ret
    exact ⟨rfl, below_trans bw3 (by assumption)⟩
