/- StampReads' walk. -/
import Derived.Test.YtjbojboiagbofaaDoorC35
set_option linter.unusedSimpArgs false
set_option linter.unusedVariables false
namespace Go.Proofs.YtjbojboiagbofaaDoor
open Go.RowKit Go.Shelf

set_option maxHeartbeats 4000000 in
set_option maxRecDepth 100000 in
theorem reads_any (y m d h mi se wd : Int) (l : List UInt8) (hl : l.length ≤ 9223372036854775807) (w : World) (hT : Tabs w) (hw0 : 0 < w.heap.size) :
    Calls Tryd.prog 4 #[.agg #[.int .i64 y, .int .i64 m, .int .i64 d, .int .i64 h, .int .i64 mi, .int .i64 se, .int .i64 wd], .string ⟨l.toArray⟩] w fun e w' => e = .returned (.bool true) ∧ Below w.heap.size w w' := by
  have c1 := fun w hD => second_any y m d h mi se wd w hD
  have c2 := fun w => rsecond_any y m d h mi se wd w
  have c3 := fun w hT hw => parse_all l hl w hT hw
  have c4 := fun w => rparse_all l w
  generalize secV y m d h mi se = P at *
  generalize parR l = R at *
  obtain ⟨p1, p2⟩ := P
  obtain ⟨r1, r2⟩ := R
  have B0 : Below w.heap.size w (w.alloc (.cells #[.int .i64 y, .int .i64 m, .int .i64 d, .int .i64 h, .int .i64 mi, .int .i64 se, .int .i64 wd] 24)) := (Below.refl _ _).alloc (Nat.le_refl _) _
  have H0 : (w.alloc (.cells #[.int .i64 y, .int .i64 m, .int .i64 d, .int .i64 h, .int .i64 mi, .int .i64 se, .int .i64 wd] 24)).heap[w.heap.size]? = some (.cells #[.int .i64 y, .int .i64 m, .int .i64 d, .int .i64 h, .int .i64 mi, .int .i64 se, .int .i64 wd] 24) := heap_alloc_new w _
  have Z0 : w.heap.size < (w.alloc (.cells #[.int .i64 y, .int .i64 m, .int .i64 d, .int .i64 h, .int .i64 mi, .int .i64 se, .int .i64 wd] 24)).heap.size := by simp
  clear hl
  go_enter Tryd.func4, Tryd.ntmps4
  go_wp2_with fail
  refine (shown_any _ (hT.below B0) (Nat.lt_trans hw0 Z0)).mono ?_; rintro e w1 ⟨rfl, b1⟩
  have B1 := B0.trans (b1.mono B0.size)
  have H1 := (b1.block _ Z0).trans H0
  have Z1 := Nat.lt_of_lt_of_le Z0 b1.size
  clear b1 B0 H0 Z0
  have q0 := cellsT H1 0 _ rfl
  have q1 := cellsT H1 1 _ rfl
  have q2 := cellsT H1 2 _ rfl
  have q3 := cellsT H1 3 _ rfl
  have q4 := cellsT H1 4 _ rfl
  have q5 := cellsT H1 5 _ rfl
  have q6 := cellsT H1 6 _ rfl
  go_wp2_with fail
  refine (c1 _ (hT.below B1).days).mono ?_; rintro e w2 ⟨rfl, b2⟩
  have B2 := B1.trans (b2.mono B1.size)
  have H2 := (b2.block _ Z1).trans H1
  clear b2 B1 H1 Z1 q0 q1 q2 q3 q4 q5 q6
  have q0 := cellsT H2 0 _ rfl
  have q1 := cellsT H2 1 _ rfl
  have q2 := cellsT H2 2 _ rfl
  have q3 := cellsT H2 3 _ rfl
  have q4 := cellsT H2 4 _ rfl
  have q5 := cellsT H2 5 _ rfl
  have q6 := cellsT H2 6 _ rfl
  go_wp2_with fail
  refine (c2 _).mono ?_; rintro e w3 ⟨rfl, b3⟩
  have B3 := B2.trans (b3.mono B2.size)
  clear b3 B2 H2 q0 q1 q2 q3 q4 q5 q6
  go_wp2_with fail
  refine (c3 _ (hT.below B3) (Nat.lt_of_lt_of_le hw0 B3.size)).mono ?_; rintro e w4 ⟨rfl, b4⟩
  have B4 := B3.trans (b4.mono B3.size)
  clear b4 B3
  go_wp2_with fail
  refine (c4 _).mono ?_; rintro e w5 ⟨rfl, b5⟩
  have B5 := B4.trans (b5.mono B4.size)
  clear b5 B4
  go_wp2
  go_ret
  exact ⟨rfl, B5⟩
theorem reads_all (y m d h mi se wd : Int) (l : List UInt8) (w : World) (hl : l.length ≤ 9223372036854775807) (hT : Tabs w) (hw0 : 0 < w.heap.size) :
    Calls Tryd.prog 4 #[.agg #[.int .i64 y, .int .i64 m, .int .i64 d, .int .i64 h, .int .i64 mi, .int .i64 se, .int .i64 wd], .string ⟨l.toArray⟩] w fun e w' => e = .returned (.bool true) ∧ Below w.heap.size w w' := reads_any y m d h mi se wd l hl w hT hw0
end Go.Proofs.YtjbojboiagbofaaDoor
