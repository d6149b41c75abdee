/- shown. -/
import Derived.Test.YtjblfemkecmlmaaDoorC12
set_option linter.unusedSimpArgs false
set_option linter.unusedVariables false
namespace Go.Proofs.YtjblfemkecmlmaaDoor
open Go.RowKit Go.Shelf

theorem bp_const (w : World) (l : List UInt8) (f : Nat × Nat) : BP (w.alloc (.cells (Lib.byteCells l).toArray 5 f)) w.heap.size 0 l :=
  ⟨by simp, fun j c hj => by
    rw [cell_of_row _ _ _ _ _ _ (heap_alloc_new w _), Nat.zero_add]
    simp [Lib.byteCells, hj]⟩
theorem below_new (w : World) (o : Obj) : Below w.heap.size w (w.alloc o) := (Below.refl _ _).alloc (Nat.le_refl _) _
theorem fs_one (w : World) (n v : List UInt8) : FsAt (w.alloc (.cells #[.string ⟨n.toArray⟩, .string ⟨v.toArray⟩] 28)) (.slice (some ⟨w.heap.size, 0, none⟩) 1 1) [(n, v)] := by
  refine ⟨_, 1, rfl, Nat.le_refl _, .inr ⟨_, 0, rfl, by simp, fun j u hj => ?_⟩⟩
  rw [cell_of_row _ _ _ _ _ _ (heap_alloc_new w _), Nat.zero_add]
  match j, hj with
  | 0, hj => simpa [fC, sV] using hj
  | 1, hj => simpa [fC, sV] using hj
  | j + 2, hj => simp [fC] at hj
def t1 : List UInt8 := [65, 58, 32, 98, 13, 10, 32, 99, 13, 10, 13, 10, 120]
def t2 : List UInt8 := [65, 58, 32, 98, 13, 10, 120]
def t3 : List UInt8 := [32, 97, 58, 32, 98]
theorem p1 : hd (t1.length + 1) t1 0 [] = ([([65], [32, 98, 32, 99])], 12) := by decide +kernel
theorem p2 : hd (t2.length + 1) t2 0 [] = ([([65], [32, 98])], 6) := by decide +kernel
theorem p3 : hd (t3.length + 1) t3 0 [] = ([], 0) := by decide +kernel
theorem f1 : fin [([65], [32, 98, 32, 99])] = [([65], [98, 32, 99])] := by decide +kernel
theorem f2 : fin [([65], [32, 98])] = [([65], [98])] := by decide +kernel
def k1 : Fld := ([99, 111, 110, 116, 101, 110, 116, 45, 84, 89, 80, 69], [77, 117, 108, 116, 105, 112, 97, 114, 116, 47, 109, 105, 120, 101, 100, 59, 32, 98, 111, 117, 110, 100, 97, 114, 121, 61, 34, 97, 32, 98, 34])
def k2 : Fld := ([67, 111, 110, 116, 101, 110, 116, 45, 84, 121, 112, 101], [116, 101, 120, 116])
theorem q1 : kindR [k1] = ([77, 85, 76, 84, 73, 80, 65, 82, 84], [77, 73, 88, 69, 68], [97, 32, 98]) := by decide +kernel
theorem q2 : kindR [k2] = ([84, 69, 88, 84], [80, 76, 65, 73, 78], []) := by decide +kernel
set_option maxHeartbeats 4000000 in
set_option maxRecDepth 100000 in
theorem shown_any (w : World) (hM : Max w) : Calls Tryd.prog 7 #[] w fun e w' => e = .returned (.bool true) ∧ Below w.heap.size w w' := by
  have e1 : (#[.int .u8 65, .int .u8 58, .int .u8 32, .int .u8 98, .int .u8 13, .int .u8 10, .int .u8 32, .int .u8 99, .int .u8 13, .int .u8 10, .int .u8 13, .int .u8 10, .int .u8 120] : Array Value) = (Lib.byteCells t1).toArray := rfl
  have h1 := fun w => Lib.run_convert_bytes_const (P := Tryd.prog) w 22 5 #[.int .u8 65, .int .u8 58, .int .u8 32, .int .u8 98, .int .u8 13, .int .u8 10, .int .u8 32, .int .u8 99, .int .u8 13, .int .u8 10, .int .u8 13, .int .u8 10, .int .u8 120] 13 13 Tryd.underlying22 Tryd.underlying5
  rw [show (#[.int .u8 65, .int .u8 58, .int .u8 32, .int .u8 98, .int .u8 13, .int .u8 10, .int .u8 32, .int .u8 99, .int .u8 13, .int .u8 10, .int .u8 13, .int .u8 10, .int .u8 120] : Array Value).size = 13 from rfl] at h1
  have c1 := fun (w : World) (hM : Max w) => parse_any t1 w.heap.size 0 13 13 rfl (by decide) (Nat.le_refl _) (by decide) (w.alloc (.cells (Lib.byteCells t1).toArray 5 (13, 14))) (hM.below (below_new _ _)) (bp_const w t1 _)
  rw [p1, ← e1] at c1
  clear e1
  have e2 : (#[.int .u8 65, .int .u8 58, .int .u8 32, .int .u8 98, .int .u8 13, .int .u8 10, .int .u8 120] : Array Value) = (Lib.byteCells t2).toArray := rfl
  have h2 := fun w => Lib.run_convert_bytes_const (P := Tryd.prog) w 22 5 #[.int .u8 65, .int .u8 58, .int .u8 32, .int .u8 98, .int .u8 13, .int .u8 10, .int .u8 120] 7 7 Tryd.underlying22 Tryd.underlying5
  rw [show (#[.int .u8 65, .int .u8 58, .int .u8 32, .int .u8 98, .int .u8 13, .int .u8 10, .int .u8 120] : Array Value).size = 7 from rfl] at h2
  have c2 := fun (w : World) (hM : Max w) => parse_any t2 w.heap.size 0 7 7 rfl (by decide) (Nat.le_refl _) (by decide) (w.alloc (.cells (Lib.byteCells t2).toArray 5 (7, 8))) (hM.below (below_new _ _)) (bp_const w t2 _)
  rw [p2, ← e2] at c2
  clear e2
  have e3 : (#[.int .u8 32, .int .u8 97, .int .u8 58, .int .u8 32, .int .u8 98] : Array Value) = (Lib.byteCells t3).toArray := rfl
  have h3 := fun w => Lib.run_convert_bytes_const (P := Tryd.prog) w 22 5 #[.int .u8 32, .int .u8 97, .int .u8 58, .int .u8 32, .int .u8 98] 5 5 Tryd.underlying22 Tryd.underlying5
  rw [show (#[.int .u8 32, .int .u8 97, .int .u8 58, .int .u8 32, .int .u8 98] : Array Value).size = 5 from rfl] at h3
  have c3 := fun (w : World) (hM : Max w) => parse_any t3 w.heap.size 0 5 5 rfl (by decide) (Nat.le_refl _) (by decide) (w.alloc (.cells (Lib.byteCells t3).toArray 5 (5, 6))) (hM.below (below_new _ _)) (bp_const w t3 _)
  rw [p3, ← e3] at c3
  clear e3
  have d1 := fun (w : World) => kind_any _ [k1] (by intro f hf; simp at hf; subst hf; decide) (by decide) (w.alloc (.cells #[.string ⟨#[99, 111, 110, 116, 101, 110, 116, 45, 84, 89, 80, 69]⟩, .string ⟨#[77, 117, 108, 116, 105, 112, 97, 114, 116, 47, 109, 105, 120, 101, 100, 59, 32, 98, 111, 117, 110, 100, 97, 114, 121, 61, 34, 97, 32, 98, 34]⟩] 28)) (fs_one w [99, 111, 110, 116, 101, 110, 116, 45, 84, 89, 80, 69] [77, 117, 108, 116, 105, 112, 97, 114, 116, 47, 109, 105, 120, 101, 100, 59, 32, 98, 111, 117, 110, 100, 97, 114, 121, 61, 34, 97, 32, 98, 34])
  rw [q1] at d1
  unfold KPost kV at d1
  have d2 := fun (w : World) => kind_any _ [k2] (by intro f hf; simp at hf; subst hf; decide) (by decide) (w.alloc (.cells #[.string ⟨#[67, 111, 110, 116, 101, 110, 116, 45, 84, 121, 112, 101]⟩, .string ⟨#[116, 101, 120, 116]⟩] 28)) (fs_one w [67, 111, 110, 116, 101, 110, 116, 45, 84, 121, 112, 101] [116, 101, 120, 116])
  rw [q2] at d2
  unfold KPost kV at d2
  unfold FPost at c1 c2 c3
  go_enter Tryd.func7, Tryd.ntmps7
  go_wp2_with fail
  refine (c1 _ hM).mono ?_; rintro e w1 ⟨⟨v1, rfl, F1⟩, b1⟩
  have B1 : Below w.heap.size w w1 := (below_new w _).trans (b1.mono (by simp))
  have M1 := hM.below B1
  rw [f1] at F1
  clear c1 b1 h1
  go_wp2_with fail
  refine (c2 _ M1).mono ?_; rintro e w2 ⟨⟨v2, rfl, F2⟩, b2⟩
  have b2' : Below w1.heap.size w1 w2 := (below_new w1 _).trans (b2.mono (by simp))
  have B2 := B1.trans (b2'.mono B1.size)
  have M2 := M1.below b2'
  have G1 := F1.below b2'
  clear c2 b2 b2' h2 F1 M1 B1
  go_wp2_with fail
  refine (c3 _ M2).mono ?_; rintro e w3 ⟨⟨v3, rfl, F3⟩, b3⟩
  have b3' : Below w2.heap.size w2 w3 := (below_new w2 _).trans (b3.mono (by simp))
  have B3 := B2.trans (b3'.mono B2.size)
  have G2 := G1.below b3'
  have E2 := F2.below b3'
  clear c3 b3 b3' h3 F2 G1 M2 B2
  go_wp2_with fail
  refine (d1 _).mono ?_; rintro e w4 ⟨rfl, b4⟩
  have b4' : Below w3.heap.size w3 w4 := (below_new w3 _).trans (b4.mono (by simp))
  have B4 := B3.trans (b4'.mono B3.size)
  have G3 := G2.below b4'
  have E3 := E2.below b4'
  have D3 := F3.below b4'
  clear d1 b4 b4' F3 E2 G2 B3
  go_wp2_with fail
  refine (d2 _).mono ?_; rintro e w5 ⟨rfl, b5⟩
  have b5' : Below w4.heap.size w4 w5 := (below_new w4 _).trans (b5.mono (by simp))
  have B5 := Lib.hid (B4.trans (b5'.mono B4.size))
  obtain ⟨a1, cp1, rfl, _, hc⟩ := G3.below b5'
  obtain ⟨a2, cp2, rfl, _, _⟩ := E3.below b5'
  obtain ⟨a3, cp3, rfl, _, _⟩ := D3.below b5'
  rcases hc with hc | ⟨g, off, rfl, hg, hcell⟩
  · cases hc
  have r0 : w5.cell? ⟨g, off, none⟩ = some (.string ⟨#[65]⟩) := hcell 0 _ rfl
  have r1 : w5.cell? ⟨g, off + 1, none⟩ = some (.string ⟨#[98, 32, 99]⟩) := hcell 1 _ rfl
  clear d2 b5 b5' G3 E3 D3 B4 hcell hM
  go_wp2_with fail
  go_ret
  exact ⟨rfl, B5.out⟩
end Go.Proofs.YtjblfemkecmlmaaDoor
