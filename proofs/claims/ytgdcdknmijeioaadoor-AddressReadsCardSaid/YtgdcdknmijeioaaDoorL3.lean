/- AddressReads' walk. -/
import Derived.Test.YtgdcdknmijeioaaDoorR4
import Derived.Test.YtgdcdknmijeioaaDoorL5
set_option linter.unusedSimpArgs false
set_option linter.unusedVariables false
namespace Go.Proofs.YtgdcdknmijeioaaDoor
open Go.RowKit Go.Shelf

theorem patV_form (u : List UInt8) : ∃ (n a d : List UInt8) (k : Int), patV u = .tuple #[adV n a d, .int .i64 k] := by
  unfold patV
  split
  · exact ⟨_, _, _, _, rfl⟩
  · split
    · exact parV_form _
    · exact ⟨_, _, _, _, rfl⟩
theorem priV_form (a d : List UInt8) : ∃ (x : ByteArray) (k : Int), priV a d = .tuple #[.string x, .int .i64 k] := by
  unfold priV
  split
  · exact ⟨_, _, rfl⟩
  · exact ⟨_, _, rfl⟩
set_option maxHeartbeats 4000000 in
theorem reads_law (s n a d : ByteArray) (w : World) (hs : s.size ≤ 9223372036854775807) (ha : a.size ≤ 9223372036854775807) (hd : d.size ≤ 9223372036854775807) (hM : Max w) :
    Calls Tryd.prog 3 #[.string s, .agg #[.string n, .string a, .string d]] w fun e w' => e = .returned (.bool true) ∧ Below w.heap.size w w' := by
  have c0 := fun w hM => shown_any w hM
  have c1 := fun w hM => parse_any s hs w hM
  have c2 := fun w => rparse_any s hs w
  have c3 := fun w hM => path_any s hs w hM
  have c4 := fun w => rpath_any s hs w
  have c5 := fun w hM => print_any n a d ha hd w hM
  have c6 := fun w => rprint_any n a d ha hd w
  obtain ⟨n1, a1, d1, k1, p1⟩ := parV_form s.data.toList
  obtain ⟨n2, a2, d2, k2, p2⟩ := patV_form s.data.toList
  obtain ⟨x3, k3, p3⟩ := priV_form a.data.toList d.data.toList
  rw [p1] at c1 c2
  rw [p2] at c3 c4
  rw [p3] at c5 c6
  clear p1 p2 p3
  unfold adV at c1 c2 c3 c4
  generalize (⟨n1.toArray⟩ : ByteArray) = n1 at *
  generalize (⟨a1.toArray⟩ : ByteArray) = a1 at *
  generalize (⟨d1.toArray⟩ : ByteArray) = d1 at *
  generalize (⟨n2.toArray⟩ : ByteArray) = n2 at *
  generalize (⟨a2.toArray⟩ : ByteArray) = a2 at *
  generalize (⟨d2.toArray⟩ : ByteArray) = d2 at *
  have hb0 : Below w.heap.size w (w.alloc (.cells #[.string n, .string a, .string d] 23)) := (Below.refl _ _).alloc (Nat.le_refl _) _
  have H0 := heap_alloc_new w (.cells #[.string n, .string a, .string d] 23)
  have M0 := hM.below hb0
  clear hM
  go_enter Tryd.func3, Tryd.ntmps3
  go_wp2_with fail
  generalize w.alloc (.cells #[.string n, .string a, .string d] 23) = w0 at *
  refine (c0 _ M0).mono ?_; rintro e w1 ⟨rfl, b1⟩
  have B1 := hb0.trans (b1.mono hb0.size)
  have H1 := Own2.step H0 b1
  have M1 := M0.below b1
  clear b1 hb0 H0 M0 c0
  go_wp2_with fail
  refine (c1 _ M1).mono ?_; rintro e w2 ⟨rfl, b2⟩
  have b2' := b2.alloc b2.size (.cells #[.string n1, .string a1, .string d1] 23)
  have B2 := B1.trans (b2'.mono B1.size)
  have H2 := Own2.step H1 b2'
  have M2 := M1.below b2'
  have A2 := heap_alloc_new w2 (.cells #[.string n1, .string a1, .string d1] 23)
  clear b2 b2' B1 H1 M1 c1
  go_wp2_with fail
  generalize w2.alloc (.cells #[.string n1, .string a1, .string d1] 23) = v2 at *
  generalize w2.heap.size = g1 at *
  refine (c2 _).mono ?_; rintro e w3 ⟨rfl, b3⟩
  have b3' := b3.alloc b3.size (.cells #[.string n1, .string a1, .string d1] 23)
  have B3 := B2.trans (b3'.mono B2.size)
  have H3 := Own2.step H2 b3'
  have A3 := Own2.step A2 b3'
  have M3 := M2.below b3'
  have E3 := heap_alloc_new w3 (.cells #[.string n1, .string a1, .string d1] 23)
  clear b3 b3' B2 H2 M2 A2 c2
  go_wp2_with fail
  generalize w3.alloc (.cells #[.string n1, .string a1, .string d1] 23) = v3 at *
  generalize w3.heap.size = g2 at *
  refine (c3 _ M3).mono ?_; rintro e w4 ⟨rfl, b4⟩
  have b4' := b4.alloc b4.size (.cells #[.string n2, .string a2, .string d2] 23)
  have B4 := B3.trans (b4'.mono B3.size)
  have H4 := Own2.step H3 b4'
  have A4 := Own2.step A3 b4'
  have E4 := Own2.step E3 b4'
  have M4 := M3.below b4'
  have F4 := heap_alloc_new w4 (.cells #[.string n2, .string a2, .string d2] 23)
  clear b4 b4' B3 H3 M3 A3 E3 c3
  go_wp2_with fail
  generalize w4.alloc (.cells #[.string n2, .string a2, .string d2] 23) = v4 at *
  generalize w4.heap.size = g3 at *
  refine (c4 _).mono ?_; rintro e w5 ⟨rfl, b5⟩
  have b5' := b5.alloc b5.size (.cells #[.string n2, .string a2, .string d2] 23)
  have B5 := B4.trans (b5'.mono B4.size)
  have H5 := Own2.step H4 b5'
  have A5 := Own2.step A4 b5'
  have E5 := Own2.step E4 b5'
  have F5 := Own2.step F4 b5'
  have M5 := M4.below b5'
  have G5 := heap_alloc_new w5 (.cells #[.string n2, .string a2, .string d2] 23)
  clear b5 b5' B4 H4 M4 A4 E4 F4 c4
  have r0 := cellA H5 0 (.string n) rfl
  have r1 := cellA H5 1 (.string a) rfl
  have r2 := cellA H5 2 (.string d) rfl
  go_wp2_with fail
  generalize w5.alloc (.cells #[.string n2, .string a2, .string d2] 23) = v5 at *
  generalize w5.heap.size = g4 at *
  refine (c5 _ M5).mono ?_; rintro e w6 ⟨rfl, b6⟩
  have B6 := B5.trans (b6.mono B5.size)
  have H6 := Own2.step H5 b6
  have A6 := Own2.step A5 b6
  have E6 := Own2.step E5 b6
  have F6 := Own2.step F5 b6
  have G6 := Own2.step G5 b6
  clear r0 r1 r2 b6 B5 H5 M5 A5 E5 F5 G5 c5
  have r0 := cellA H6 0 (.string n) rfl
  have r1 := cellA H6 1 (.string a) rfl
  have r2 := cellA H6 2 (.string d) rfl
  go_wp2_with fail
  refine (c6 _).mono ?_; rintro e w7 ⟨rfl, b7⟩
  have B7 := B6.trans (b7.mono B6.size)
  have A7 := Own2.step A6 b7
  have E7 := Own2.step E6 b7
  have F7 := Own2.step F6 b7
  have G7 := Own2.step G6 b7
  clear r0 r1 r2 b7 B6 H6 A6 E6 F6 G6 c6
  have s0 := cellA A7 0 (.string n1) rfl
  have s1 := cellA A7 1 (.string a1) rfl
  have s2 := cellA A7 2 (.string d1) rfl
  have t0 := cellA E7 0 (.string n1) rfl
  have t1 := cellA E7 1 (.string a1) rfl
  have t2 := cellA E7 2 (.string d1) rfl
  have u0 := cellA F7 0 (.string n2) rfl
  have u1 := cellA F7 1 (.string a2) rfl
  have u2 := cellA F7 2 (.string d2) rfl
  have v0 := cellA G7 0 (.string n2) rfl
  have v1 := cellA G7 1 (.string a2) rfl
  have v2' := cellA G7 2 (.string d2) rfl
  clear A7 E7 F7 G7
  go_wp2_with fail
  go_ret
  exact ⟨rfl, B7⟩
theorem reads_law' (s n a d : ByteArray) (w : World) (hs : s.size ≤ 9223372036854775807) (ha : a.size ≤ 9223372036854775807) (hd : d.size ≤ 9223372036854775807) (hM : Max w) :
    Calls Tryd.prog 3 #[.string s, .agg #[.string n, .string a, .string d]] w fun e w' => e = .returned (.bool true) ∧ Below w.heap.size w w' := reads_law s n a d w hs ha hd hM
end Go.Proofs.YtgdcdknmijeioaaDoor
