/- StampTells' walk. -/
import Derived.Test.YtjbojboiagbofaaDoorC35
set_option linter.unusedSimpArgs false
set_option linter.unusedVariables false
namespace Go.Proofs.YtjbojboiagbofaaDoor
open Go.RowKit Go.Shelf

set_option maxHeartbeats 4000000 in
set_option maxRecDepth 100000 in
theorem tells_none (n : Int) (hn : ¬ (0 ≤ n ∧ n < 4294967296)) (w : World) (hT : Tabs w) (hw0 : 0 < w.heap.size) : Calls Tryd.prog 3 #[.int .i64 n] w fun e w' => e = .returned (.bool true) ∧ Below w.heap.size w w' := by
  have cA := fun w => of_none n hn w
  have cB := fun w => rof_none n hn w
  have cH := fun w => header_none n hn w
  have cRH := fun w => rheader_none n hn w
  have cI := fun w => internal_none n hn w
  have cRI := fun w => rinternal_none n hn w
  unfold noT at cA cB
  clear hn
  go_enter Tryd.func3, Tryd.ntmps3
  go_wp2_with fail
  refine (shown_any _ hT hw0).mono ?_; rintro e w0 ⟨rfl, b0⟩
  have T0 := hT.below b0
  go_wp2_with fail
  refine (cA _).mono ?_; rintro e w1 ⟨rfl, b1⟩
  have B1 := below_al (b0.trans (b1.mono b0.size)) (b0.trans (b1.mono b0.size)).size (.cells #[.int .i64 0, .int .i64 0, .int .i64 0, .int .i64 0, .int .i64 0, .int .i64 0, .int .i64 0] 24)
  have H1 : (w1.alloc (.cells #[.int .i64 0, .int .i64 0, .int .i64 0, .int .i64 0, .int .i64 0, .int .i64 0, .int .i64 0] 24)).heap[w1.heap.size]? = some (.cells #[.int .i64 0, .int .i64 0, .int .i64 0, .int .i64 0, .int .i64 0, .int .i64 0, .int .i64 0] 24) := heap_alloc_new w1 _
  have Z1 : w1.heap.size < (w1.alloc (.cells #[.int .i64 0, .int .i64 0, .int .i64 0, .int .i64 0, .int .i64 0, .int .i64 0, .int .i64 0] 24)).heap.size := by simp
  clear b0 b1 T0
  go_wp2_with fail
  refine (cB _).mono ?_; rintro e w2 ⟨rfl, b2⟩
  have B2 := below_al (B1.trans (b2.mono B1.size)) (B1.trans (b2.mono B1.size)).size (.cells #[.int .i64 0, .int .i64 0, .int .i64 0, .int .i64 0, .int .i64 0, .int .i64 0, .int .i64 0] 24)
  have H2 : (w2.alloc (.cells #[.int .i64 0, .int .i64 0, .int .i64 0, .int .i64 0, .int .i64 0, .int .i64 0, .int .i64 0] 24)).heap[w1.heap.size]? = some (.cells #[.int .i64 0, .int .i64 0, .int .i64 0, .int .i64 0, .int .i64 0, .int .i64 0, .int .i64 0] 24) := (heap_alloc_old w2 _ (Nat.lt_of_lt_of_le Z1 b2.size)).trans ((b2.block _ Z1).trans H1)
  have K2 : (w2.alloc (.cells #[.int .i64 0, .int .i64 0, .int .i64 0, .int .i64 0, .int .i64 0, .int .i64 0, .int .i64 0] 24)).heap[w2.heap.size]? = some (.cells #[.int .i64 0, .int .i64 0, .int .i64 0, .int .i64 0, .int .i64 0, .int .i64 0, .int .i64 0] 24) := heap_alloc_new w2 _
  have T2 := hT.below B2
  clear b2 H1 Z1 B1
  have r0 := cellsT H2 0 _ rfl
  have r1 := cellsT H2 1 _ rfl
  have r2 := cellsT H2 2 _ rfl
  have r3 := cellsT H2 3 _ rfl
  have r4 := cellsT H2 4 _ rfl
  have r5 := cellsT H2 5 _ rfl
  have r6 := cellsT H2 6 _ rfl
  have s0 := cellsT K2 0 _ rfl
  have s1 := cellsT K2 1 _ rfl
  have s2 := cellsT K2 2 _ rfl
  have s3 := cellsT K2 3 _ rfl
  have s4 := cellsT K2 4 _ rfl
  have s5 := cellsT K2 5 _ rfl
  have s6 := cellsT K2 6 _ rfl
  go_wp2_with fail
  refine (cH _).mono ?_; rintro e w3 ⟨rfl, b3⟩
  have B3 := B2.trans (b3.mono B2.size)
  have T3 := hT.below B3
  clear b3 B2 H2 K2 r0 r1 r2 r3 r4 r5 r6 s0 s1 s2 s3 s4 s5 s6
  go_wp2_with fail
  refine (cRH _).mono ?_; rintro e w4 ⟨rfl, b4⟩
  have B4 := B3.trans (b4.mono B3.size)
  have T4 := hT.below B4
  clear b4 B3
  go_wp2_with fail
  refine (cI _).mono ?_; rintro e w5 ⟨rfl, b5⟩
  have B5 := B4.trans (b5.mono B4.size)
  have T5 := hT.below B5
  clear b5 B4
  go_wp2_with fail
  refine (cRI _).mono ?_; rintro e w6 ⟨rfl, b6⟩
  have B6 := B5.trans (b6.mono B5.size)
  clear b6 B5
  go_wp2
  go_ret
  exact ⟨rfl, B6⟩
set_option maxHeartbeats 4000000 in
set_option maxRecDepth 100000 in
theorem tells_some (s : Nat) (hs : s < 4294967296) (w : World) (hT : Tabs w) (hw0 : 0 < w.heap.size) : Calls Tryd.prog 3 #[.int .i64 s] w fun e w' => e = .returned (.bool true) ∧ Below w.heap.size w w' := by
  obtain ⟨k, j, d, hD⟩ := date_ex (s / 86400 + 365)
  have cA := fun w hT => of_any s k j d hs hD w hT
  have cB := fun w => rof_any s k j d hs hD w
  have cH := fun w hT => header_any s k j d hs hD w hT
  have cRH := fun w => rheader_any s k j d hs hD w
  have cI := fun w hT => internal_any s k j d hs hD w hT
  have cRI := fun w => rinternal_any s k j d hs hD w
  obtain ⟨y, m, dd, h, mi, se, wd, T⟩ := tm_ex k j d s hs hD
  rw [T.eq] at cA cB
  clear T hD
  generalize (⟨(headerL k j d s).toArray⟩ : ByteArray) = sh at *
  generalize (⟨(internalL k j d s).toArray⟩ : ByteArray) = si at *
  go_enter Tryd.func3, Tryd.ntmps3
  go_wp2_with fail
  refine (shown_any _ hT hw0).mono ?_; rintro e w0 ⟨rfl, b0⟩
  have T0 := hT.below b0
  go_wp2_with fail
  refine (cA _ T0.days).mono ?_; rintro e w1 ⟨rfl, b1⟩
  have B1 := below_al (b0.trans (b1.mono b0.size)) (b0.trans (b1.mono b0.size)).size (.cells #[.int .i64 y, .int .i64 m, .int .i64 dd, .int .i64 h, .int .i64 mi, .int .i64 se, .int .i64 wd] 24)
  have H1 : (w1.alloc (.cells #[.int .i64 y, .int .i64 m, .int .i64 dd, .int .i64 h, .int .i64 mi, .int .i64 se, .int .i64 wd] 24)).heap[w1.heap.size]? = some (.cells #[.int .i64 y, .int .i64 m, .int .i64 dd, .int .i64 h, .int .i64 mi, .int .i64 se, .int .i64 wd] 24) := heap_alloc_new w1 _
  have Z1 : w1.heap.size < (w1.alloc (.cells #[.int .i64 y, .int .i64 m, .int .i64 dd, .int .i64 h, .int .i64 mi, .int .i64 se, .int .i64 wd] 24)).heap.size := by simp
  clear b0 b1 T0
  go_wp2_with fail
  refine (cB _).mono ?_; rintro e w2 ⟨rfl, b2⟩
  have B2 := below_al (B1.trans (b2.mono B1.size)) (B1.trans (b2.mono B1.size)).size (.cells #[.int .i64 y, .int .i64 m, .int .i64 dd, .int .i64 h, .int .i64 mi, .int .i64 se, .int .i64 wd] 24)
  have H2 : (w2.alloc (.cells #[.int .i64 y, .int .i64 m, .int .i64 dd, .int .i64 h, .int .i64 mi, .int .i64 se, .int .i64 wd] 24)).heap[w1.heap.size]? = some (.cells #[.int .i64 y, .int .i64 m, .int .i64 dd, .int .i64 h, .int .i64 mi, .int .i64 se, .int .i64 wd] 24) := (heap_alloc_old w2 _ (Nat.lt_of_lt_of_le Z1 b2.size)).trans ((b2.block _ Z1).trans H1)
  have K2 : (w2.alloc (.cells #[.int .i64 y, .int .i64 m, .int .i64 dd, .int .i64 h, .int .i64 mi, .int .i64 se, .int .i64 wd] 24)).heap[w2.heap.size]? = some (.cells #[.int .i64 y, .int .i64 m, .int .i64 dd, .int .i64 h, .int .i64 mi, .int .i64 se, .int .i64 wd] 24) := heap_alloc_new w2 _
  have T2 := hT.below B2
  clear b2 H1 Z1 B1
  have r0 := cellsT H2 0 _ rfl
  have r1 := cellsT H2 1 _ rfl
  have r2 := cellsT H2 2 _ rfl
  have r3 := cellsT H2 3 _ rfl
  have r4 := cellsT H2 4 _ rfl
  have r5 := cellsT H2 5 _ rfl
  have r6 := cellsT H2 6 _ rfl
  have s0 := cellsT K2 0 _ rfl
  have s1 := cellsT K2 1 _ rfl
  have s2 := cellsT K2 2 _ rfl
  have s3 := cellsT K2 3 _ rfl
  have s4 := cellsT K2 4 _ rfl
  have s5 := cellsT K2 5 _ rfl
  have s6 := cellsT K2 6 _ rfl
  go_wp2_with fail
  refine (cH _ T2).mono ?_; rintro e w3 ⟨rfl, b3⟩
  have B3 := B2.trans (b3.mono B2.size)
  have T3 := hT.below B3
  clear b3 B2 H2 K2 r0 r1 r2 r3 r4 r5 r6 s0 s1 s2 s3 s4 s5 s6
  go_wp2_with fail
  refine (cRH _).mono ?_; rintro e w4 ⟨rfl, b4⟩
  have B4 := B3.trans (b4.mono B3.size)
  have T4 := hT.below B4
  clear b4 B3
  go_wp2_with fail
  refine (cI _ T4).mono ?_; rintro e w5 ⟨rfl, b5⟩
  have B5 := B4.trans (b5.mono B4.size)
  have T5 := hT.below B5
  clear b5 B4
  go_wp2_with fail
  refine (cRI _).mono ?_; rintro e w6 ⟨rfl, b6⟩
  have B6 := B5.trans (b6.mono B5.size)
  clear b6 B5
  go_wp2
  go_ret
  exact ⟨rfl, B6⟩
theorem tells_any (n : Int) (w : World) (bn : -9223372036854775808 ≤ n ∧ n ≤ 9223372036854775807) (hT : Tabs w) (hw0 : 0 < w.heap.size) : Calls Tryd.prog 3 #[.int .i64 n] w fun e w' => e = .returned (.bool true) ∧ Below w.heap.size w w' := by
  by_cases hn : 0 ≤ n ∧ n < 4294967296
  · obtain ⟨s, rfl⟩ : ∃ s : Nat, n = s := ⟨n.toNat, by omega⟩
    exact tells_some s (by omega) w hT hw0
  · exact tells_none n hn w hT hw0
end Go.Proofs.YtjbojboiagbofaaDoor
