/- HeaderReads' walk. -/
import Derived.Test.YtjblfemkecmlmaaDoorL5
import Derived.Test.YtjblfemkecmlmaaDoorC19
set_option linter.unusedSimpArgs false
set_option linter.unusedVariables false
namespace Go.Proofs.YtjblfemkecmlmaaDoor
open Go.RowKit Go.Shelf

set_option maxHeartbeats 4000000 in
set_option maxRecDepth 100000 in
theorem reads_law (a : Option Addr) (n cap : Nat) (bd : List UInt8) (hbd : bd.length = n) (hcap : n ≤ cap) (hn : n ≤ 1048576) (w : World) (hB : Bs w a bd) (hM : Max w) :
    Calls Tryd.prog 3 #[.slice a n cap] w fun e w' => e = .returned (.bool true) ∧ Below w.heap.size w w' := by
  have c0 := shown_any w hM
  have k1 := fun (g c2 : Nat) (w : World) (hM : Max w) (h : BP w g 0 bd) (hc : n ≤ c2) (hc2 : c2 ≤ 9223372036854775807) => parse_any bd g 0 n c2 hbd (Nat.le_trans hn (by decide)) hc hc2 w hM h
  have k2 := fun (w : World) (h : Bs w a bd) => dparse_any a bd n cap hbd hn hcap w h
  unfold FPost at k1 k2
  generalize hd (bd.length + 1) bd 0 [] = res at *
  have hG64 : (fin res.1).length ≤ 64 := by unfold fin; rw [List.length_map, List.length_take]; omega
  generalize fin res.1 = G at *
  generalize res.2 = at_ at *
  go_enter Tryd.func3, Tryd.ntmps3
  go_wp2_with fail
  refine c0.mono ?_; rintro e w1 ⟨rfl, b1⟩
  have M1 := hM.below b1
  have B1 := hB.below b1
  have B1' := B1.below ((Below.refl w1.heap.size w1).alloc (Nat.le_refl _) (.cells #[] 5))
  clear c0 hB hM
  go_wp2_with (at_builtin; refine Hid.out ?_)
  refine Lib.hid ?_
  refine wpL_appempty (w0 := w1) (l2 := bd) rfl rfl rfl (heap_alloc_new w1 _) (Nat.le_refl _) (below_new _ _) rfl hbd B1' (Nat.le_trans hn (by decide)) ?_
  intro b3 cap3 w3 hp3 hge hc3 hc4 hb3
  have hc5 : cap3 ≤ 9223372036854775807 := Nat.le_trans hc4 (by decide)
  clear hc4
  have B3 := B1.below hb3
  have M3 := M1.below hb3
  have HB3 := Lib.hid (b1.trans (hb3.mono b1.size))
  clear B1' hb3
  go_wp2_with fail
  refine (k1 b3 cap3 w3 M3 hp3 hc3 hc5).mono ?_; rintro e w4 ⟨⟨v1, rfl, F1⟩, b4⟩
  have B4 := B3.below b4
  have P4 := hp3.below b4
  have HB4 := Lib.hid (HB3.out.trans (b4.mono HB3.out.size))
  clear k1 B3 hp3 b4 M3 M1
  go_wp2_with fail
  refine (k2 w4 B4).mono ?_; rintro e w5 ⟨⟨v2, rfl, F2⟩, b5⟩
  have B5 := B4.below b5
  have P5 := P4.below b5
  have F1' := F1.below b5
  have HB5 := Lib.hid (HB4.out.trans (b5.mono HB4.out.size))
  have cv1 := bs_string' (n := n) cap3 P5.bs hbd
  have cv2 := bs_string' (n := n) cap B5 hbd
  clear k2 B4 P4 F1 b5 B5 P5 B1
  obtain ⟨a1, cp1, rfl, j1, h1⟩ := F1'
  obtain ⟨a2, cp2, rfl, j2, h2⟩ := F2
  have I1 := (FsAt.at ⟨a1, cp1, rfl, j1, h1⟩).1
  have I2 := (FsAt.at ⟨a2, cp2, rfl, j2, h2⟩).1
  generalize (⟨bd.toArray⟩ : ByteArray) = bv at *
  clear h1 h2 j1 j2 hc3 hc5 hbd
  go_wp2_with fail
  go_loopw [9] (fun v9 wl => ∃ j : Nat, v9 = .int .i64 j ∧ j ≤ G.length ∧ Hid (Below w5.heap.size w5 wl)) (fun v9 wl => G.length - (intOf v9).toNat)
  case atStart => exact ⟨0, rfl, Nat.zero_le _, Lib.hid (Below.refl _ _)⟩
  case round =>
    obtain ⟨j, rfl, hj, HL⟩ := hrel
    by_cases hjl : j < G.length
    · have hf : G[j]? = some G[j] := List.getElem?_eq_getElem hjl
      generalize G[j] = f at *
      obtain ⟨g1, o1, rfl, hg1, r0, r1⟩ := (I1.below HL.out) j f hf
      obtain ⟨g2, o2, rfl, hg2, s0, s1⟩ := (I2.below HL.out) j f hf
      generalize (⟨f.1.toArray⟩ : ByteArray) = nmv at *
      generalize (⟨f.2.toArray⟩ : ByteArray) = vv at *
      have hj' : (j : Int) < G.length := by omega
      clear hf I1 I2 cv1 cv2
      go_wp2_with fail
      go_quiet (fail)
      go_wp2
      exact ⟨⟨j + 1, by go_num, by omega, Lib.hid (below_dN HL.out _)⟩, by simp [intOf]; omega⟩
    · have hj' : ¬ (j : Int) < G.length := by omega
      clear cv1 cv2
      go_wp2_with fail
      go_ret
      exact ⟨rfl, HB5.out.trans (HL.out.mono HB5.out.size)⟩
end Go.Proofs.YtjblfemkecmlmaaDoor
