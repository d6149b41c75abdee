/- CodecWrites' walk. -/
import Derived.Test.YtdikgifgapbocaaDoorC18
import Derived.Test.YtdikgifgapbocaaDoorL1
set_option linter.unusedSimpArgs false
set_option linter.unusedVariables false
namespace Go.Proofs.YtdikgifgapbocaaDoor
open Go.RowKit Go.Shelf

set_option maxHeartbeats 4000000 in
set_option maxRecDepth 1000000 in
theorem writes_any (a : Option Addr) (cap : Nat) (l : List UInt8) (s : ByteArray) (w : World) (hc : l.length ≤ cap) (hm : cap ≤ maxLen) (hl : l.length ≤ 1048576) (hs : s.size ≤ 1048576) (hB : Bs w a l) (hM : Max w) :
    Calls Tryd.prog 3 #[.slice a l.length cap, .string s] w fun e w' => e = .returned (.bool true) ∧ Below w.heap.size w w' := by
  have hel := enc_len l
  go_enter Tryd.func3, Tryd.ntmps3
  go_wp2_with fail
  refine (shown_any w hM).mono ?_; rintro e w1 ⟨rfl, b1⟩
  have hB1 := hB.below b1
  have z1 := b1.size
  go_wp2_with (at_builtin; refine wpL_obs rfl rfl rfl (OB.made' b1) rfl rfl rfl (hB1.below ((Below.refl _ _).alloc (Nat.le_refl _) _)) (by simp; omega) ?_; rw [List.nil_append, Nat.zero_add]; intro a2 c2 w2 o2)
  have h1 := o2.cap
  refine (encode_any a2 c2 l w2 h1.1 h1.2 (by omega) o2.cells).mono ?_; rintro e w3 ⟨rfl, b3⟩
  go_wp2_with fail
  refine (decode_any s w3 (by omega)).mono ?_
  rintro e w4 (⟨l4, a4, c4, h4, rfl, o4⟩ | ⟨h4, rfl, b4⟩)
  · go_wp2_with fail
    refine (rdecode_any s w4 (by omega)).mono ?_
    rintro e w5 (⟨l5, a5, c5, h5, rfl, o5⟩ | ⟨h5, _, _⟩)
    case inr => exact absurd h4 (h5 l4)
    have hll : l5 = l4 := enc_inj (h5.trans h4.symm)
    subst hll
    clear h4 h5
    have b5 := o5.bel
    have b4 := o4.bel
    have bw5 := below_trans (below_trans (below_trans o2.bel b3) b4) b5
    have hBw := hB.below bw5
    have hO := ((o2.cells.below b3).below b4).below b5
    have hC := o4.cells.below b5
    have hD := o5.cells
    have HE := rencode_any a cap l w5 hc hm (by omega) hBw
    go_wp2_with fail
    refine HE.mono ?_; rintro e w6 ⟨rfl, b6⟩
    have s1 := bs_string cap (hBw.below b6)
    have s2 := bs_string c2 (hO.below b6)
    have s3 := bs_string c4 (hC.below b6)
    have s4 := bs_string c5 (hD.below b6)
    go_wp2
    go_ret
    exact ⟨rfl, below_trans bw5 b6⟩
  · go_wp2_with fail
    refine (rdecode_any s w4 (by omega)).mono ?_
    rintro e w5 (⟨l5, a5, c5, h5, rfl, o5⟩ | ⟨h5, rfl, b5⟩)
    case inl => exact absurd h5 (h4 l5)
    clear h4 h5
    have bw5 := below_trans (below_trans (below_trans o2.bel b3) b4) b5
    have hBw := hB.below bw5
    have hO := ((o2.cells.below b3).below b4).below b5
    have HE := rencode_any a cap l w5 hc hm (by omega) hBw
    go_wp2_with fail
    refine HE.mono ?_; rintro e w6 ⟨rfl, b6⟩
    have s1 := bs_string cap (hBw.below b6)
    have s2 := bs_string c2 (hO.below b6)
    have s3 := bs_string' (w := w6) (a := none) (l := []) (n := 0) 0 (fun j c hj => by simp at hj) rfl
    go_wp2
    go_ret
    exact ⟨rfl, below_trans bw5 b6⟩
end Go.Proofs.YtdikgifgapbocaaDoor
