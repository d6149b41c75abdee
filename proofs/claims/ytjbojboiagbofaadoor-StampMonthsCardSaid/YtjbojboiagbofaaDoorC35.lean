/- shown: the document's examples. -/
import Derived.Test.YtjbojboiagbofaaDoorC34
set_option linter.unusedSimpArgs false
set_option linter.unusedVariables false
namespace Go.Proofs.YtjbojboiagbofaaDoor
open Go.RowKit Go.Shelf

theorem of0 (w : World) (hD : Days w) : Calls Tryd.prog 10 #[.int .i64 0] w fun e w' => e = .returned (.tuple #[.agg #[.int .i64 2000, .int .i64 1, .int .i64 1, .int .i64 0, .int .i64 0, .int .i64 0, .int .i64 6], .int .i64 0]) ∧ Below w.heap.size w w' :=
  of_any 0 1 0 0 (by omega) ⟨by decide, by omega, by decide⟩ w hD
theorem of59 (w : World) (hD : Days w) : Calls Tryd.prog 10 #[.int .i64 5097600] w fun e w' => e = .returned (.tuple #[.agg #[.int .i64 2000, .int .i64 2, .int .i64 29, .int .i64 0, .int .i64 0, .int .i64 0, .int .i64 2], .int .i64 0]) ∧ Below w.heap.size w w' :=
  of_any 5097600 1 1 28 (by omega) ⟨by decide, by omega, by decide⟩ w hD
theorem of_neg (w : World) : Calls Tryd.prog 10 #[.int .i64 (-1)] w fun e w' => e = .returned (.tuple #[.agg #[.int .i64 0, .int .i64 0, .int .i64 0, .int .i64 0, .int .i64 0, .int .i64 0, .int .i64 0], .int .i64 80]) ∧ Below w.heap.size w w' :=
  of_none (-1) (by omega) w
theorem parA : parR [32, 49, 45, 74, 97, 110, 45, 50, 48, 48, 48, 32, 48, 49, 58, 48, 48, 58, 48, 48, 32, 43, 48, 49, 48, 48] = (0, 0) := by
  rw [parR_yes ⟨⟨rfl, by decide, by decide, by decide, by decide, by decide, by decide, by decide⟩, by decide, by decide, by decide, by decide, by decide, by decide, by decide, by decide, by decide, by decide⟩]
  refine (secZ_some (v := 3600) ⟨1, 0, 0, ?_⟩ ?_).trans ?_
  · refine ⟨by decide, by omega, by decide, by omega, by decide, by decide, ⟨by decide, by decide, by decide⟩, by decide⟩
  · decide
  · decide
theorem parB : parR [51, 48, 45, 70, 101, 98, 45, 50, 48, 48, 48, 32, 48, 48, 58, 48, 48, 58, 48, 48, 32, 43, 48, 48, 48, 48] = (0, 80) := by
  rw [parR_yes ⟨⟨rfl, by decide, by decide, by decide, by decide, by decide, by decide, by decide⟩, by decide, by decide, by decide, by decide, by decide, by decide, by decide, by decide, by decide, by decide⟩]
  refine secZ_none ?_
  rintro ⟨v, ⟨k, j, e, h1, h2, h3, h4, h5, h6, _⟩, _⟩
  have q1 : dV (sl [51, 48, 45, 70, 101, 98, 45, 50, 48, 48, 48, 32, 48, 48, 58, 48, 48, 58, 48, 48, 32, 43, 48, 48, 48, 48] 7 11) = 2000 := by decide
  have q2 : monV (sl [51, 48, 45, 70, 101, 98, 45, 50, 48, 48, 48, 32, 48, 48, 58, 48, 48, 58, 48, 48, 32, 43, 48, 48, 48, 48] 3 6) = 2 := by decide
  have q3 : dV (dayR [51, 48, 45, 70, 101, 98, 45, 50, 48, 48, 48, 32, 48, 48, 58, 48, 48, 58, 48, 48, 32, 43, 48, 48, 48, 48]) = 30 := by decide
  rw [q1] at h1
  rw [q2] at h3
  rw [q3] at h5
  obtain rfl : k = 1 := by omega
  obtain rfl : j = 1 := by omega
  obtain rfl : e = 29 := by omega
  exact absurd h6 (by decide)
theorem parC : parR [48, 49, 45, 74, 97, 110, 45, 50, 48, 48, 48, 32, 48, 48, 58, 48, 48, 58, 48, 48, 32, 43, 48, 48, 48, 48] = (0, 80) := parR_no (fun q => absurd q.2.2.2.2.2.2.2.2.1 (by decide))
theorem hl0 : headerL 1 0 0 0 = [83, 97, 116, 44, 32, 48, 49, 32, 74, 97, 110, 32, 50, 48, 48, 48, 32, 48, 48, 58, 48, 48, 58, 48, 48, 32, 43, 48, 48, 48, 48] := by decide
theorem il0 : internalL 1 0 0 0 = [32, 49, 45, 74, 97, 110, 45, 50, 48, 48, 48, 32, 48, 48, 58, 48, 48, 58, 48, 48, 32, 43, 48, 48, 48, 48] := by decide
theorem par_at (l : List UInt8) (p : Int × Int) (h : parR l = p) (hl : l.length ≤ 100) (w : World) (hT : Tabs w) (hw0 : 0 < w.heap.size) :
    Calls Tryd.prog 18 #[.string ⟨l.toArray⟩] w fun e w' => e = .returned (.tuple #[.int .i64 p.1, .int .i64 p.2]) ∧ Below w.heap.size w w' := by
  have := parse_all l (by omega) w hT hw0
  rwa [h] at this
theorem head0 (w : World) (hT : Tabs w) : Calls Tryd.prog 12 #[.int .i64 0] w fun e w' => e = .returned (.string ⟨#[83, 97, 116, 44, 32, 48, 49, 32, 74, 97, 110, 32, 50, 48, 48, 48, 32, 48, 48, 58, 48, 48, 58, 48, 48, 32, 43, 48, 48, 48, 48]⟩) ∧ Below w.heap.size w w' := by
  have := header_any 0 1 0 0 (by omega) ⟨by decide, by omega, by decide⟩ w hT
  rwa [hl0] at this
theorem int0 (w : World) (hT : Tabs w) : Calls Tryd.prog 14 #[.int .i64 0] w fun e w' => e = .returned (.string ⟨#[32, 49, 45, 74, 97, 110, 45, 50, 48, 48, 48, 32, 48, 48, 58, 48, 48, 58, 48, 48, 32, 43, 48, 48, 48, 48]⟩) ∧ Below w.heap.size w w' := by
  have := internal_any 0 1 0 0 (by omega) ⟨by decide, by omega, by decide⟩ w hT
  rwa [il0] at this
theorem below_al {B : Nat} {w w' : World} (h : Below B w w') (hB : B ≤ w'.heap.size) (o : Obj) : Below B w (w'.alloc o) := h.alloc hB o
set_option maxHeartbeats 4000000 in
set_option maxRecDepth 100000 in
theorem shown_any (w : World) (hT : Tabs w) (hw0 : 0 < w.heap.size) : Calls Tryd.prog 9 #[] w fun e w' => e = .returned (.bool true) ∧ Below w.heap.size w w' := by
  go_enter Tryd.func9, Tryd.ntmps9
  go_wp2_with fail
  refine (of0 _ hT.days).mono ?_; rintro e w1 ⟨rfl, b1⟩
  have B1 := below_al b1 b1.size (.cells #[.int .i64 2000, .int .i64 1, .int .i64 1, .int .i64 0, .int .i64 0, .int .i64 0, .int .i64 6] 24)
  have H1 : (w1.alloc (.cells #[.int .i64 2000, .int .i64 1, .int .i64 1, .int .i64 0, .int .i64 0, .int .i64 0, .int .i64 6] 24)).heap[w1.heap.size]? = some (.cells #[.int .i64 2000, .int .i64 1, .int .i64 1, .int .i64 0, .int .i64 0, .int .i64 0, .int .i64 6] 24) := heap_alloc_new w1 _
  have Z1 : w1.heap.size < (w1.alloc (.cells #[.int .i64 2000, .int .i64 1, .int .i64 1, .int .i64 0, .int .i64 0, .int .i64 0, .int .i64 6] 24)).heap.size := by simp
  have Y1 := b1.size
  clear b1
  go_wp2_with fail
  refine (of59 _ (hT.below B1).days).mono ?_; rintro e w2 ⟨rfl, b2⟩
  have B2 := below_al (B1.trans (b2.mono B1.size)) (B1.trans (b2.mono B1.size)).size (.cells #[.int .i64 2000, .int .i64 2, .int .i64 29, .int .i64 0, .int .i64 0, .int .i64 0, .int .i64 2] 24)
  have H2 : (w2.alloc (.cells #[.int .i64 2000, .int .i64 2, .int .i64 29, .int .i64 0, .int .i64 0, .int .i64 0, .int .i64 2] 24)).heap[w1.heap.size]? = some (.cells #[.int .i64 2000, .int .i64 1, .int .i64 1, .int .i64 0, .int .i64 0, .int .i64 0, .int .i64 6] 24) := (heap_alloc_old w2 _ (Nat.lt_of_lt_of_le Z1 b2.size)).trans ((b2.block _ Z1).trans H1)
  have K2 : (w2.alloc (.cells #[.int .i64 2000, .int .i64 2, .int .i64 29, .int .i64 0, .int .i64 0, .int .i64 0, .int .i64 2] 24)).heap[w2.heap.size]? = some (.cells #[.int .i64 2000, .int .i64 2, .int .i64 29, .int .i64 0, .int .i64 0, .int .i64 0, .int .i64 2] 24) := heap_alloc_new w2 _
  have Z2 : w1.heap.size < (w2.alloc (.cells #[.int .i64 2000, .int .i64 2, .int .i64 29, .int .i64 0, .int .i64 0, .int .i64 0, .int .i64 2] 24)).heap.size := by have := b2.size; simp at *; omega
  have X2 : w2.heap.size < (w2.alloc (.cells #[.int .i64 2000, .int .i64 2, .int .i64 29, .int .i64 0, .int .i64 0, .int .i64 0, .int .i64 2] 24)).heap.size := by simp
  clear b2 H1 Z1 B1
  go_wp2_with fail
  refine (of_neg _).mono ?_; rintro e w3 ⟨rfl, b3⟩
  have B3 := below_al (B2.trans (b3.mono B2.size)) (B2.trans (b3.mono B2.size)).size (.cells #[.int .i64 0, .int .i64 0, .int .i64 0, .int .i64 0, .int .i64 0, .int .i64 0, .int .i64 0] 24)
  have H3 : (w3.alloc (.cells #[.int .i64 0, .int .i64 0, .int .i64 0, .int .i64 0, .int .i64 0, .int .i64 0, .int .i64 0] 24)).heap[w1.heap.size]? = some (.cells #[.int .i64 2000, .int .i64 1, .int .i64 1, .int .i64 0, .int .i64 0, .int .i64 0, .int .i64 6] 24) := (heap_alloc_old w3 _ (Nat.lt_of_lt_of_le Z2 b3.size)).trans ((b3.block _ Z2).trans H2)
  have K3 : (w3.alloc (.cells #[.int .i64 0, .int .i64 0, .int .i64 0, .int .i64 0, .int .i64 0, .int .i64 0, .int .i64 0] 24)).heap[w2.heap.size]? = some (.cells #[.int .i64 2000, .int .i64 2, .int .i64 29, .int .i64 0, .int .i64 0, .int .i64 0, .int .i64 2] 24) := (heap_alloc_old w3 _ (Nat.lt_of_lt_of_le X2 b3.size)).trans ((b3.block _ X2).trans K2)
  have Z3 : w1.heap.size < (w3.alloc (.cells #[.int .i64 0, .int .i64 0, .int .i64 0, .int .i64 0, .int .i64 0, .int .i64 0, .int .i64 0] 24)).heap.size := by have := b3.size; simp at *; omega
  have X3 : w2.heap.size < (w3.alloc (.cells #[.int .i64 0, .int .i64 0, .int .i64 0, .int .i64 0, .int .i64 0, .int .i64 0, .int .i64 0] 24)).heap.size := by have := b3.size; simp at *; omega
  clear b3 H2 K2 Z2 X2 B2
  have hw3 := Nat.lt_of_lt_of_le hw0 B3.size
  go_wp2_with fail
  refine (par_at [32, 49, 45, 74, 97, 110, 45, 50, 48, 48, 48, 32, 48, 49, 58, 48, 48, 58, 48, 48, 32, 43, 48, 49, 48, 48] _ parA (by decide) _ (hT.below B3) hw3).mono ?_; rintro e w4 ⟨rfl, b4⟩
  have B4 := B3.trans (b4.mono B3.size)
  have H4 := (b4.block _ Z3).trans H3
  have K4 := (b4.block _ X3).trans K3
  have Z4 := Nat.lt_of_lt_of_le Z3 b4.size
  have X4 := Nat.lt_of_lt_of_le X3 b4.size
  clear b4 H3 K3 Z3 X3 B3
  go_wp2_with fail
  refine (par_at [51, 48, 45, 70, 101, 98, 45, 50, 48, 48, 48, 32, 48, 48, 58, 48, 48, 58, 48, 48, 32, 43, 48, 48, 48, 48] _ parB (by decide) _ (hT.below B4) (Nat.lt_of_lt_of_le hw0 B4.size)).mono ?_; rintro e w5 ⟨rfl, b5⟩
  have B5 := B4.trans (b5.mono B4.size)
  have H5 := (b5.block _ Z4).trans H4
  have K5 := (b5.block _ X4).trans K4
  have Z5 := Nat.lt_of_lt_of_le Z4 b5.size
  have X5 := Nat.lt_of_lt_of_le X4 b5.size
  clear b5 H4 K4 Z4 X4 B4
  go_wp2_with fail
  refine (par_at [48, 49, 45, 74, 97, 110, 45, 50, 48, 48, 48, 32, 48, 48, 58, 48, 48, 58, 48, 48, 32, 43, 48, 48, 48, 48] _ parC (by decide) _ (hT.below B5) (Nat.lt_of_lt_of_le hw0 B5.size)).mono ?_; rintro e w6 ⟨rfl, b6⟩
  have B6 := B5.trans (b6.mono B5.size)
  have H6 := (b6.block _ Z5).trans H5
  have K6 := (b6.block _ X5).trans K5
  have Z6 := Nat.lt_of_lt_of_le Z5 b6.size
  have X6 := Nat.lt_of_lt_of_le X5 b6.size
  clear b6 H5 K5 Z5 X5 B5
  have r0 := cellsT H6 0 _ rfl
  have r1 := cellsT H6 1 _ rfl
  have r2 := cellsT H6 2 _ rfl
  have r3 := cellsT H6 3 _ rfl
  have r4 := cellsT H6 4 _ rfl
  have r5 := cellsT H6 5 _ rfl
  have r6 := cellsT H6 6 _ rfl
  have s0 := cellsT K6 0 _ rfl
  have s1 := cellsT K6 1 _ rfl
  have s2 := cellsT K6 2 _ rfl
  have s3 := cellsT K6 3 _ rfl
  have s4 := cellsT K6 4 _ rfl
  have s5 := cellsT K6 5 _ rfl
  have s6 := cellsT K6 6 _ rfl
  go_wp2_with fail
  refine (head0 _ (hT.below B6)).mono ?_; rintro e w7 ⟨rfl, b7⟩
  have B7 := B6.trans (b7.mono B6.size)
  go_wp2_with fail
  refine (int0 _ (hT.below B7)).mono ?_; rintro e w8 ⟨rfl, b8⟩
  have B8 := B7.trans (b8.mono B7.size)
  go_wp2
  go_ret
  exact ⟨rfl, B8⟩
end Go.Proofs.YtjbojboiagbofaaDoor
