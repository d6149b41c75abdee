/- CodecBack's walk. -/
import Derived.Test.YtdikgifgapbocaaDoorC17
set_option linter.unusedSimpArgs false
set_option linter.unusedVariables false
namespace Go.Proofs.YtdikgifgapbocaaDoor
open Go.RowKit Go.Shelf

theorem below_trans {w a b : World} (h : Below w.heap.size w a) (k : Below a.heap.size a b) : Below w.heap.size w b := h.trans (k.mono h.size)
theorem enc_ge (l : List UInt8) : l.length ≤ (enc l).length := by
  induction l using enc.induct with
  | case1 => simp [enc]
  | case2 a => simp [enc]
  | case3 a b => simp [enc]
  | case4 a b c t ih => simp [enc]; omega
set_option maxHeartbeats 4000000 in
set_option maxRecDepth 1000000 in
theorem back_any (a : Option Addr) (cap : Nat) (l : List UInt8) (s : ByteArray) (w : World) (hc : l.length ≤ cap) (hm : cap ≤ maxLen) (hl : l.length ≤ 1048576) (hs : s.size ≤ 1048576) (hB : Bs w a l) (hM : Max w) :
    Calls Tryd.prog 4 #[.slice a l.length cap, .string s] w fun e w' => e = .returned (.bool true) ∧ Below w.heap.size w w' := by
  have hel := enc_len l
  go_enter Tryd.func4, Tryd.ntmps4
  go_wp2_with fail
  refine (shown_any w hM).mono ?_; rintro e w1 ⟨rfl, b1⟩
  go_wp2_with fail
  refine (encode_any a cap l w1 hc hm (by omega) (hB.below b1)).mono ?_; rintro e w2 ⟨rfl, b2⟩
  go_wp2_with fail
  refine (decode_any ⟨(enc l).toArray⟩ w2 (by rw [arr_size]; omega)).mono ?_
  rintro e w3 (⟨l', a3, c3, h1, rfl, o3⟩ | ⟨h1, _, _⟩)
  case inr => exact absurd (arr_list _).symm (h1 l)
  have hll : l' = l := enc_inj (by rw [h1, arr_list])
  subst hll
  clear h1
  have b3 := o3.bel
  have bw3 := below_trans (below_trans b1 b2) b3
  have hs3 := bs_string c3 o3.cells
  have hB3 := hB.below bw3
  go_wp2_with fail
  refine (decode_any s w3 (by omega)).mono ?_
  rintro e w4 (⟨l4, a4, c4, h4, rfl, o4⟩ | ⟨h4, rfl, b4⟩)
  · have hs4 := bs_string c3 (o3.cells.below o4.bel)
    have hs5 := bs_string cap (hB3.below o4.bel)
    have h4l : l4.length ≤ 8388608 := by
      obtain ⟨k, _, he⟩ := enc_lets l4
      have h5 : (enc l4).length = s.size := by rw [h4]; exact (Lib.size_eq s).symm
      have h6 := enc_ge l4
      omega
    have hq : (enc l4 == s.toList) = true := by rw [h4, Lib.toList_data]; simp
    have hq2 : (l' == l') = true := by simp
    have hb4 := o4.bel
    have HE := encode_any a4 c4 l4 w4 o4.cap.1 o4.cap.2 (by omega) o4.cells
    have H4 := Lib.hid h4
    clear h4 hs3
    go_wp2_with (go_at_call 11; refine HE.mono ?_; rintro e w5 ⟨rfl, b5⟩)
    go_ret
    exact ⟨rfl, below_trans (below_trans bw3 hb4) b5⟩
  · have hs4 := bs_string c3 (o3.cells.below b4)
    have hs5 := bs_string cap (hB3.below b4)
    have H4 := Lib.hid h4
    clear h4 hs3
    go_wp2
    go_ret
    exact ⟨rfl, below_trans bw3 b4⟩
end Go.Proofs.YtdikgifgapbocaaDoor
