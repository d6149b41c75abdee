/- encodeGroup: four letters of one to three bytes. -/
import Derived.Test.YtdikgifgapbocaaDoorC2
import Derived.Laws.CopyOwn
import Derived.Laws.BitsLemmas
set_option linter.unusedSimpArgs false
set_option linter.unusedVariables false
namespace Go.Proofs.YtdikgifgapbocaaDoor
open Go.RowKit Go.Shelf

theorem wraps_i64 (n : Int) (h0 : 0 ≤ n) (h1 : n < 2 ^ 62) : IntKind.i64.wrap n = n := by rw [IntKind.wrap_i64]; omega
theorem i64_mask (i : Nat) (hi : i ≤ 62) (x : Int) (h0 : 0 ≤ x) (h1 : x < 2 ^ 62) : bits .and .i64 x (2 ^ i - 1) = x % 2 ^ i := bits_mask .i64 62 (by decide) wraps_i64 i hi x h0 h1
theorem i64_and63 (x : Int) (h0 : 0 ≤ x) (h1 : x < 4611686018427387904) : bits .and .i64 x 63 = x % 64 := i64_mask 6 (by decide) x h0 h1
theorem i64_join (i : Nat) (x y : Int) (hx0 : 0 ≤ x) (hx : x % 2 ^ i = 0) (hx1 : x < 2 ^ 62) (h0 : 0 ≤ y) (h1 : y < 2 ^ i) (h2 : y < 2 ^ 62) : bits .or .i64 x y = x + y := bits_join .i64 62 (by decide) wraps_i64 i x y hx0 hx hx1 h0 h1 h2
theorem group_num (x y z : Nat) (hx : x < 256) (hy : y < 256) (hz : z < 256) : bits .or .i64 (bits .or .i64 ((x : Int) * 65536) ((y : Int) * 256)) (z : Int) = ((x * 65536 + y * 256 + z : Nat) : Int) := by
  rw [i64_join 16 ((x : Int) * 65536) ((y : Int) * 256) (by omega) (by omega) (by omega) (by omega) (by omega) (by omega)]
  rw [i64_join 8 _ (z : Int) (by omega) (by omega) (by omega) (by omega) (by omega) (by omega)]
  omega
theorem group_num2 (x y : Nat) (hx : x < 256) (hy : y < 256) : bits .or .i64 (bits .or .i64 ((x : Int) * 65536) ((y : Int) * 256)) 0 = ((x * 65536 + y * 256 + 0 : Nat) : Int) := group_num x y 0 hx hy (by decide)
theorem group_num1 (x : Nat) (hx : x < 256) : bits .or .i64 (bits .or .i64 ((x : Int) * 65536) 0) 0 = ((x * 65536 + 0 * 256 + 0 : Nat) : Int) := by
  have := group_num x 0 0 hx (by decide) (by decide)
  rwa [show ((0 : Nat) : Int) * 256 = 0 from rfl, show ((0 : Nat) : Int) = 0 from rfl] at this
theorem at0 (x y z : Nat) (hx : x < 256) (hy : y < 256) (hz : z < 256) : bits .and .i64 (((x * 65536 + y * 256 + z : Nat) : Int) / 262144) 63 = ((x / 4 : Nat) : Int) := by
  rw [i64_and63 _ (by omega) (by omega)]; omega
theorem at1 (x y z : Nat) (hx : x < 256) (hy : y < 256) (hz : z < 256) : bits .and .i64 (((x * 65536 + y * 256 + z : Nat) : Int) / 4096) 63 = ((x % 4 * 16 + y / 16 : Nat) : Int) := by
  rw [i64_and63 _ (by omega) (by omega)]; omega
theorem at2 (x y z : Nat) (hx : x < 256) (hy : y < 256) (hz : z < 256) : bits .and .i64 (((x * 65536 + y * 256 + z : Nat) : Int) / 64) 63 = ((y % 16 * 4 + z / 64 : Nat) : Int) := by
  rw [i64_and63 _ (by omega) (by omega)]; omega
theorem at3 (x y z : Nat) (hx : x < 256) (hy : y < 256) (hz : z < 256) : bits .and .i64 (((x * 65536 + y * 256 + z : Nat) : Int)) 63 = ((z % 64 : Nat) : Int) := by
  rw [i64_and63 _ (by omega) (by omega)]; omega
theorem set4 {w : World} {B : Nat} {z0 z1 z2 z3 : Value} {t : TypeId} {fz : Nat × Nat} (q : w.heap[B]? = some (.cells #[z0, z1, z2, z3] t fz)) (a0 a1 a2 a3 : Value) (o : Obj) :
    (((((w.setCell ⟨B, 0, none⟩ a0).setCell ⟨B, 1, none⟩ a1).setCell ⟨B, 2, none⟩ a2).setCell ⟨B, 3, none⟩ a3).alloc o).heap[B]? = some (.cells #[a0, a1, a2, a3] t fz) := by
  have hlt : B < w.heap.size := (Array.getElem?_eq_some_iff.1 q).1
  rw [Below.heap_alloc _ _ _ (by simpa using hlt)]
  simp [World.setCell, Array.getElem?_modify, q]
theorem cell4 {w : World} {B : Nat} {a0 a1 a2 a3 : Value} {t : TypeId} {fz : Nat × Nat} (q : w.heap[B]? = some (.cells #[a0, a1, a2, a3] t fz)) : w.cell? ⟨B, 0, none⟩ = some a0 ∧ w.cell? ⟨B, 1, none⟩ = some a1 ∧ w.cell? ⟨B, 2, none⟩ = some a2 ∧ w.cell? ⟨B, 3, none⟩ = some a3 := by
  refine ⟨?_, ?_, ?_, ?_⟩ <;> rw [Lib.cell_of_heap q] <;> rfl

set_option maxHeartbeats 4000000 in
set_option maxRecDepth 100000 in
theorem group1 (b off cap : Nat) (x : UInt8) (w : World) (hb : b < w.heap.size) (h0 : w.cell? ⟨b, off, none⟩ = some (.int .u8 x.toNat)) :
    Calls Tryd.prog 28 #[.slice (some ⟨b, off, none⟩) 1 cap] w fun e w' => e = .returned (.agg #[.int .u8 (lt (x.toNat / 4)).toNat, .int .u8 (lt (x.toNat % 4 * 16)).toNat, .int .u8 61, .int .u8 61]) ∧ Below w.heap.size w w' := by
  have hx := x.toNat_lt
  go_enter Tryd.func28, Tryd.ntmps28
  go_wp2_with (with_reducible refine wpList_copy_splice rfl (.tmp 7) (.tmp 8) 22 22 rfl 5 Tryd.underlying22 (by kernel_rfl) _ _ _ _ _ _ rfl rfl (w.heap.size + 1) 0 [.int .u8 0, .int .u8 0, .int .u8 0] 62 ?g1 [Value.int .u8 x.toNat] ?g0 ?g2 ?g3 ?g4 (w.heap.size + 1) (w.alloc (.cells #[.int .u8 0, .int .u8 0, .int .u8 0, .int .u8 0] 43)) ?g5 ?g6 ?_)
  case g0 => rfl
  case g1 => have := heap_alloc_new (w.alloc (.cells #[.int .u8 0, .int .u8 0, .int .u8 0, .int .u8 0] 43)) (.cells #[.int .u8 0, .int .u8 0, .int .u8 0] 62); simpa using this
  case g3 => simp
  case g4 => simp [Value.oneCell']
  case g6 => omega
  case g5 => exact (Below.refl _ _).alloc (by simp) _
  case g2 =>
    intro j v hj
    match j, hj with
    | 0, hj => simp at hj; subst hj; exact h0
  intro w1 hw1 hb1
  have q : w1.heap[w.heap.size + 1]? = some (.cells #[.int .u8 x.toNat, .int .u8 0, .int .u8 0] 62 (0, 0)) := hw1.out
  have e0 : w1.cell? ⟨w.heap.size + 1, 0, none⟩ = some (.int .u8 x.toNat) := by rw [Lib.cell_of_heap q]; rfl
  have e1 : w1.cell? ⟨w.heap.size + 1, 1, none⟩ = some (.int .u8 0) := by rw [Lib.cell_of_heap q]; rfl
  have e2 : w1.cell? ⟨w.heap.size + 1, 2, none⟩ = some (.int .u8 0) := by rw [Lib.cell_of_heap q]; rfl
  have q0 : w1.heap[w.heap.size]? = some (.cells #[.int .u8 0, .int .u8 0, .int .u8 0, .int .u8 0] 43 (0, 0)) := by
    rw [hb1.block _ (by omega)]; exact heap_alloc_new w _
  have hsz := hb1.size
  have hsz0 : (w.alloc (.cells #[.int .u8 0, .int .u8 0, .int .u8 0, .int .u8 0] 43)).heap.size = w.heap.size + 1 := by simp
  rw [hsz0] at hsz
  clear hsz0
  have hlt1 : w.heap.size < w1.heap.size := by omega
  have r0 : ∀ o, (w1.alloc o).cell? ⟨w.heap.size, 0, none⟩ = some (.int .u8 0) := fun o => by rw [World.cell?_alloc_past _ _ _ hlt1, Lib.cell_of_heap q0]; rfl
  have r1 : ∀ o, (w1.alloc o).cell? ⟨w.heap.size, 1, none⟩ = some (.int .u8 0) := fun o => by rw [World.cell?_alloc_past _ _ _ hlt1, Lib.cell_of_heap q0]; rfl
  have r2 : ∀ o, (w1.alloc o).cell? ⟨w.heap.size, 2, none⟩ = some (.int .u8 0) := fun o => by rw [World.cell?_alloc_past _ _ _ hlt1, Lib.cell_of_heap q0]; rfl
  have r3 : ∀ o, (w1.alloc o).cell? ⟨w.heap.size, 3, none⟩ = some (.int .u8 0) := fun o => by rw [World.cell?_alloc_past _ _ _ hlt1, Lib.cell_of_heap q0]; rfl
  have f0 : ∀ j o, (w1.alloc o).frozen? ⟨w.heap.size, j, none⟩ = false := fun j o => by rw [World.frozen?_of_block (w := w1) (Below.heap_alloc w1 o _ hlt1)]; exact Lib.frozen_of_heap q0 j
  have s0 : w1.cell? ⟨w.heap.size, 0, none⟩ = some (.int .u8 0) := by rw [Lib.cell_of_heap q0]; rfl
  have s1 : w1.cell? ⟨w.heap.size, 1, none⟩ = some (.int .u8 0) := by rw [Lib.cell_of_heap q0]; rfl
  have s2 : w1.cell? ⟨w.heap.size, 2, none⟩ = some (.int .u8 0) := by rw [Lib.cell_of_heap q0]; rfl
  have s3 : w1.cell? ⟨w.heap.size, 3, none⟩ = some (.int .u8 0) := by rw [Lib.cell_of_heap q0]; rfl
  have f1 : ∀ j, w1.frozen? ⟨w.heap.size, j, none⟩ = false := fun j => Lib.frozen_of_heap q0 j
  have hbw : Below w.heap.size w w1 := ((Below.refl _ _).alloc (Nat.le_refl _) _).trans (hb1.mono (by omega))
  have HQ := Lib.hid q0
  clear q q0 hw1 hb1
  have g0 := f0 0
  have g1 := f0 1
  have g2 := f0 2
  have g3 := f0 3
  clear f0
  have g4 := f1 0
  have g5 := f1 1
  have g6 := f1 2
  have g7 := f1 3
  clear f1
  have hN := group_num1 x.toNat hx
  have m0 := at0 x.toNat 0 0 hx (by decide) (by decide)
  have m1 := at1 x.toNat 0 0 hx (by decide) (by decide)
  have m2 := at2 x.toNat 0 0 hx (by decide) (by decide)
  have m3 := at3 x.toNat 0 0 hx (by decide) (by decide)
  generalize hn : x.toNat * 65536 + 0 * 256 + 0 = N at hN m0 m1 m2 m3
  have HN := Lib.hid hn
  clear hn
  generalize hp0 : x.toNat / 4 = p0 at m0 ⊢
  generalize hp1 : x.toNat % 4 * 16 + 0 / 16 = p1 at m1 ⊢
  have l0 : p0 < 64 := by omega
  have HP0 := Lib.hid hp0
  clear hp0
  have l1 : p1 < 64 := by omega
  have HP1 := Lib.hid hp1
  clear hp1
  go_wp2
  (try rw [hN])
  refine wp_loop_rounds 3 ?_
  rw [rounds_succ]
  go_wp2
  rw [rounds_succ]
  go_wp2
  rw [rounds_succ]
  go_wp2
  have k0 := HP0.out
  subst k0
  have k1 := HP1.out
  subst k1
  have c0 := fun a0 a1 a2 a3 o => (cell4 (set4 HQ.out a0 a1 a2 a3 o)).1
  have c1 := fun a0 a1 a2 a3 o => (cell4 (set4 HQ.out a0 a1 a2 a3 o)).2.1
  have c2 := fun a0 a1 a2 a3 o => (cell4 (set4 HQ.out a0 a1 a2 a3 o)).2.2.1
  have c3 := fun a0 a1 a2 a3 o => (cell4 (set4 HQ.out a0 a1 a2 a3 o)).2.2.2
  refine bodyPost_ret (v := .agg #[.int .u8 (lt (x.toNat / 4)).toNat, .int .u8 (lt (x.toNat % 4 * 16)).toNat, .int .u8 61, .int .u8 61]) ?_ rfl ⟨rfl, ?_⟩
  · simp [results, Tryd.results28, go_sem, c0, c1, c2, c3, alph_at _ l0, alph_at _ l1, alph_at (x.toNat % 4 * 16) (by omega)]
  · repeat (first | exact hbw | refine Below.alloc ?_ (by simp; omega) _ | refine Below.setCell ?_ (by simp) _ | apply Below.drew)

set_option maxHeartbeats 4000000 in
set_option maxRecDepth 100000 in
theorem group2 (b off cap : Nat) (x y : UInt8) (w : World) (hb : b < w.heap.size) (h0 : w.cell? ⟨b, off, none⟩ = some (.int .u8 x.toNat)) (h1 : w.cell? ⟨b, off + 1, none⟩ = some (.int .u8 y.toNat)) :
    Calls Tryd.prog 28 #[.slice (some ⟨b, off, none⟩) 2 cap] w fun e w' => e = .returned (.agg #[.int .u8 (lt (x.toNat / 4)).toNat, .int .u8 (lt (x.toNat % 4 * 16 + y.toNat / 16)).toNat, .int .u8 (lt (y.toNat % 16 * 4)).toNat, .int .u8 61]) ∧ Below w.heap.size w w' := by
  have hx := x.toNat_lt
  have hy := y.toNat_lt
  go_enter Tryd.func28, Tryd.ntmps28
  go_wp2_with (with_reducible refine wpList_copy_splice rfl (.tmp 7) (.tmp 8) 22 22 rfl 5 Tryd.underlying22 (by kernel_rfl) _ _ _ _ _ _ rfl rfl (w.heap.size + 1) 0 [.int .u8 0, .int .u8 0, .int .u8 0] 62 ?g1 [Value.int .u8 x.toNat, Value.int .u8 y.toNat] ?g0 ?g2 ?g3 ?g4 (w.heap.size + 1) (w.alloc (.cells #[.int .u8 0, .int .u8 0, .int .u8 0, .int .u8 0] 43)) ?g5 ?g6 ?_)
  case g0 => rfl
  case g1 => have := heap_alloc_new (w.alloc (.cells #[.int .u8 0, .int .u8 0, .int .u8 0, .int .u8 0] 43)) (.cells #[.int .u8 0, .int .u8 0, .int .u8 0] 62); simpa using this
  case g3 => simp
  case g4 => simp [Value.oneCell']
  case g6 => omega
  case g5 => exact (Below.refl _ _).alloc (by simp) _
  case g2 =>
    intro j v hj
    match j, hj with
    | 0, hj => simp at hj; subst hj; exact h0
    | 1, hj => simp at hj; subst hj; exact h1
  intro w1 hw1 hb1
  have q : w1.heap[w.heap.size + 1]? = some (.cells #[.int .u8 x.toNat, .int .u8 y.toNat, .int .u8 0] 62 (0, 0)) := hw1.out
  have e0 : w1.cell? ⟨w.heap.size + 1, 0, none⟩ = some (.int .u8 x.toNat) := by rw [Lib.cell_of_heap q]; rfl
  have e1 : w1.cell? ⟨w.heap.size + 1, 1, none⟩ = some (.int .u8 y.toNat) := by rw [Lib.cell_of_heap q]; rfl
  have e2 : w1.cell? ⟨w.heap.size + 1, 2, none⟩ = some (.int .u8 0) := by rw [Lib.cell_of_heap q]; rfl
  have q0 : w1.heap[w.heap.size]? = some (.cells #[.int .u8 0, .int .u8 0, .int .u8 0, .int .u8 0] 43 (0, 0)) := by
    rw [hb1.block _ (by omega)]; exact heap_alloc_new w _
  have hsz := hb1.size
  have hsz0 : (w.alloc (.cells #[.int .u8 0, .int .u8 0, .int .u8 0, .int .u8 0] 43)).heap.size = w.heap.size + 1 := by simp
  rw [hsz0] at hsz
  clear hsz0
  have hlt1 : w.heap.size < w1.heap.size := by omega
  have r0 : ∀ o, (w1.alloc o).cell? ⟨w.heap.size, 0, none⟩ = some (.int .u8 0) := fun o => by rw [World.cell?_alloc_past _ _ _ hlt1, Lib.cell_of_heap q0]; rfl
  have r1 : ∀ o, (w1.alloc o).cell? ⟨w.heap.size, 1, none⟩ = some (.int .u8 0) := fun o => by rw [World.cell?_alloc_past _ _ _ hlt1, Lib.cell_of_heap q0]; rfl
  have r2 : ∀ o, (w1.alloc o).cell? ⟨w.heap.size, 2, none⟩ = some (.int .u8 0) := fun o => by rw [World.cell?_alloc_past _ _ _ hlt1, Lib.cell_of_heap q0]; rfl
  have r3 : ∀ o, (w1.alloc o).cell? ⟨w.heap.size, 3, none⟩ = some (.int .u8 0) := fun o => by rw [World.cell?_alloc_past _ _ _ hlt1, Lib.cell_of_heap q0]; rfl
  have f0 : ∀ j o, (w1.alloc o).frozen? ⟨w.heap.size, j, none⟩ = false := fun j o => by rw [World.frozen?_of_block (w := w1) (Below.heap_alloc w1 o _ hlt1)]; exact Lib.frozen_of_heap q0 j
  have s0 : w1.cell? ⟨w.heap.size, 0, none⟩ = some (.int .u8 0) := by rw [Lib.cell_of_heap q0]; rfl
  have s1 : w1.cell? ⟨w.heap.size, 1, none⟩ = some (.int .u8 0) := by rw [Lib.cell_of_heap q0]; rfl
  have s2 : w1.cell? ⟨w.heap.size, 2, none⟩ = some (.int .u8 0) := by rw [Lib.cell_of_heap q0]; rfl
  have s3 : w1.cell? ⟨w.heap.size, 3, none⟩ = some (.int .u8 0) := by rw [Lib.cell_of_heap q0]; rfl
  have f1 : ∀ j, w1.frozen? ⟨w.heap.size, j, none⟩ = false := fun j => Lib.frozen_of_heap q0 j
  have hbw : Below w.heap.size w w1 := ((Below.refl _ _).alloc (Nat.le_refl _) _).trans (hb1.mono (by omega))
  have HQ := Lib.hid q0
  clear q q0 hw1 hb1
  have g0 := f0 0
  have g1 := f0 1
  have g2 := f0 2
  have g3 := f0 3
  clear f0
  have g4 := f1 0
  have g5 := f1 1
  have g6 := f1 2
  have g7 := f1 3
  clear f1
  have hN := group_num2 x.toNat y.toNat hx hy
  have m0 := at0 x.toNat y.toNat 0 hx hy (by decide)
  have m1 := at1 x.toNat y.toNat 0 hx hy (by decide)
  have m2 := at2 x.toNat y.toNat 0 hx hy (by decide)
  have m3 := at3 x.toNat y.toNat 0 hx hy (by decide)
  generalize hn : x.toNat * 65536 + y.toNat * 256 + 0 = N at hN m0 m1 m2 m3
  have HN := Lib.hid hn
  clear hn
  generalize hp0 : x.toNat / 4 = p0 at m0 ⊢
  generalize hp1 : x.toNat % 4 * 16 + y.toNat / 16 = p1 at m1 ⊢
  generalize hp2 : y.toNat % 16 * 4 + 0 / 64 = p2 at m2 ⊢
  have l0 : p0 < 64 := by omega
  have HP0 := Lib.hid hp0
  clear hp0
  have l1 : p1 < 64 := by omega
  have HP1 := Lib.hid hp1
  clear hp1
  have l2 : p2 < 64 := by omega
  have HP2 := Lib.hid hp2
  clear hp2
  go_wp2
  (try rw [hN])
  refine wp_loop_rounds 4 ?_
  rw [rounds_succ]
  go_wp2
  rw [rounds_succ]
  go_wp2
  rw [rounds_succ]
  go_wp2
  rw [rounds_succ]
  go_wp2
  have k0 := HP0.out
  subst k0
  have k1 := HP1.out
  subst k1
  have k2 := HP2.out
  subst k2
  have c0 := fun a0 a1 a2 a3 o => (cell4 (set4 HQ.out a0 a1 a2 a3 o)).1
  have c1 := fun a0 a1 a2 a3 o => (cell4 (set4 HQ.out a0 a1 a2 a3 o)).2.1
  have c2 := fun a0 a1 a2 a3 o => (cell4 (set4 HQ.out a0 a1 a2 a3 o)).2.2.1
  have c3 := fun a0 a1 a2 a3 o => (cell4 (set4 HQ.out a0 a1 a2 a3 o)).2.2.2
  refine bodyPost_ret (v := .agg #[.int .u8 (lt (x.toNat / 4)).toNat, .int .u8 (lt (x.toNat % 4 * 16 + y.toNat / 16)).toNat, .int .u8 (lt (y.toNat % 16 * 4)).toNat, .int .u8 61]) ?_ rfl ⟨rfl, ?_⟩
  · simp [results, Tryd.results28, go_sem, c0, c1, c2, c3, alph_at _ l0, alph_at _ l1, alph_at _ l2, alph_at (y.toNat % 16 * 4) (by omega)]
  · repeat (first | exact hbw | refine Below.alloc ?_ (by simp; omega) _ | refine Below.setCell ?_ (by simp) _ | apply Below.drew)

set_option maxHeartbeats 4000000 in
set_option maxRecDepth 100000 in
theorem group3 (b off cap : Nat) (x y z : UInt8) (w : World) (hb : b < w.heap.size) (h0 : w.cell? ⟨b, off, none⟩ = some (.int .u8 x.toNat)) (h1 : w.cell? ⟨b, off + 1, none⟩ = some (.int .u8 y.toNat)) (h2 : w.cell? ⟨b, off + 2, none⟩ = some (.int .u8 z.toNat)) :
    Calls Tryd.prog 28 #[.slice (some ⟨b, off, none⟩) 3 cap] w fun e w' => e = .returned (.agg #[.int .u8 (lt (x.toNat / 4)).toNat, .int .u8 (lt (x.toNat % 4 * 16 + y.toNat / 16)).toNat, .int .u8 (lt (y.toNat % 16 * 4 + z.toNat / 64)).toNat, .int .u8 (lt (z.toNat % 64)).toNat]) ∧ Below w.heap.size w w' := by
  have hx := x.toNat_lt
  have hy := y.toNat_lt
  have hz := z.toNat_lt
  go_enter Tryd.func28, Tryd.ntmps28
  go_wp2_with (with_reducible refine wpList_copy_splice rfl (.tmp 7) (.tmp 8) 22 22 rfl 5 Tryd.underlying22 (by kernel_rfl) _ _ _ _ _ _ rfl rfl (w.heap.size + 1) 0 [.int .u8 0, .int .u8 0, .int .u8 0] 62 ?g1 [Value.int .u8 x.toNat, Value.int .u8 y.toNat, Value.int .u8 z.toNat] ?g0 ?g2 ?g3 ?g4 (w.heap.size + 1) (w.alloc (.cells #[.int .u8 0, .int .u8 0, .int .u8 0, .int .u8 0] 43)) ?g5 ?g6 ?_)
  case g0 => rfl
  case g1 => have := heap_alloc_new (w.alloc (.cells #[.int .u8 0, .int .u8 0, .int .u8 0, .int .u8 0] 43)) (.cells #[.int .u8 0, .int .u8 0, .int .u8 0] 62); simpa using this
  case g3 => simp
  case g4 => simp [Value.oneCell']
  case g6 => omega
  case g5 => exact (Below.refl _ _).alloc (by simp) _
  case g2 =>
    intro j v hj
    match j, hj with
    | 0, hj => simp at hj; subst hj; exact h0
    | 1, hj => simp at hj; subst hj; exact h1
    | 2, hj => simp at hj; subst hj; exact h2
  intro w1 hw1 hb1
  have q : w1.heap[w.heap.size + 1]? = some (.cells #[.int .u8 x.toNat, .int .u8 y.toNat, .int .u8 z.toNat] 62 (0, 0)) := hw1.out
  have e0 : w1.cell? ⟨w.heap.size + 1, 0, none⟩ = some (.int .u8 x.toNat) := by rw [Lib.cell_of_heap q]; rfl
  have e1 : w1.cell? ⟨w.heap.size + 1, 1, none⟩ = some (.int .u8 y.toNat) := by rw [Lib.cell_of_heap q]; rfl
  have e2 : w1.cell? ⟨w.heap.size + 1, 2, none⟩ = some (.int .u8 z.toNat) := by rw [Lib.cell_of_heap q]; rfl
  have q0 : w1.heap[w.heap.size]? = some (.cells #[.int .u8 0, .int .u8 0, .int .u8 0, .int .u8 0] 43 (0, 0)) := by
    rw [hb1.block _ (by omega)]; exact heap_alloc_new w _
  have hsz := hb1.size
  have hsz0 : (w.alloc (.cells #[.int .u8 0, .int .u8 0, .int .u8 0, .int .u8 0] 43)).heap.size = w.heap.size + 1 := by simp
  rw [hsz0] at hsz
  clear hsz0
  have hlt1 : w.heap.size < w1.heap.size := by omega
  have r0 : ∀ o, (w1.alloc o).cell? ⟨w.heap.size, 0, none⟩ = some (.int .u8 0) := fun o => by rw [World.cell?_alloc_past _ _ _ hlt1, Lib.cell_of_heap q0]; rfl
  have r1 : ∀ o, (w1.alloc o).cell? ⟨w.heap.size, 1, none⟩ = some (.int .u8 0) := fun o => by rw [World.cell?_alloc_past _ _ _ hlt1, Lib.cell_of_heap q0]; rfl
  have r2 : ∀ o, (w1.alloc o).cell? ⟨w.heap.size, 2, none⟩ = some (.int .u8 0) := fun o => by rw [World.cell?_alloc_past _ _ _ hlt1, Lib.cell_of_heap q0]; rfl
  have r3 : ∀ o, (w1.alloc o).cell? ⟨w.heap.size, 3, none⟩ = some (.int .u8 0) := fun o => by rw [World.cell?_alloc_past _ _ _ hlt1, Lib.cell_of_heap q0]; rfl
  have f0 : ∀ j o, (w1.alloc o).frozen? ⟨w.heap.size, j, none⟩ = false := fun j o => by rw [World.frozen?_of_block (w := w1) (Below.heap_alloc w1 o _ hlt1)]; exact Lib.frozen_of_heap q0 j
  have s0 : w1.cell? ⟨w.heap.size, 0, none⟩ = some (.int .u8 0) := by rw [Lib.cell_of_heap q0]; rfl
  have s1 : w1.cell? ⟨w.heap.size, 1, none⟩ = some (.int .u8 0) := by rw [Lib.cell_of_heap q0]; rfl
  have s2 : w1.cell? ⟨w.heap.size, 2, none⟩ = some (.int .u8 0) := by rw [Lib.cell_of_heap q0]; rfl
  have s3 : w1.cell? ⟨w.heap.size, 3, none⟩ = some (.int .u8 0) := by rw [Lib.cell_of_heap q0]; rfl
  have f1 : ∀ j, w1.frozen? ⟨w.heap.size, j, none⟩ = false := fun j => Lib.frozen_of_heap q0 j
  have hbw : Below w.heap.size w w1 := ((Below.refl _ _).alloc (Nat.le_refl _) _).trans (hb1.mono (by omega))
  have HQ := Lib.hid q0
  clear q q0 hw1 hb1
  have g0 := f0 0
  have g1 := f0 1
  have g2 := f0 2
  have g3 := f0 3
  clear f0
  have g4 := f1 0
  have g5 := f1 1
  have g6 := f1 2
  have g7 := f1 3
  clear f1
  have hN := group_num x.toNat y.toNat z.toNat hx hy hz
  have m0 := at0 x.toNat y.toNat z.toNat hx hy hz
  have m1 := at1 x.toNat y.toNat z.toNat hx hy hz
  have m2 := at2 x.toNat y.toNat z.toNat hx hy hz
  have m3 := at3 x.toNat y.toNat z.toNat hx hy hz
  generalize hn : x.toNat * 65536 + y.toNat * 256 + z.toNat = N at hN m0 m1 m2 m3
  have HN := Lib.hid hn
  clear hn
  generalize hp0 : x.toNat / 4 = p0 at m0 ⊢
  generalize hp1 : x.toNat % 4 * 16 + y.toNat / 16 = p1 at m1 ⊢
  generalize hp2 : y.toNat % 16 * 4 + z.toNat / 64 = p2 at m2 ⊢
  generalize hp3 : z.toNat % 64 = p3 at m3 ⊢
  have l0 : p0 < 64 := by omega
  have HP0 := Lib.hid hp0
  clear hp0
  have l1 : p1 < 64 := by omega
  have HP1 := Lib.hid hp1
  clear hp1
  have l2 : p2 < 64 := by omega
  have HP2 := Lib.hid hp2
  clear hp2
  have l3 : p3 < 64 := by omega
  have HP3 := Lib.hid hp3
  clear hp3
  go_wp2
  (try rw [hN])
  refine wp_loop_rounds 5 ?_
  rw [rounds_succ]
  go_wp2
  rw [rounds_succ]
  go_wp2
  rw [rounds_succ]
  go_wp2
  rw [rounds_succ]
  go_wp2
  rw [rounds_succ]
  go_wp2
  have k0 := HP0.out
  subst k0
  have k1 := HP1.out
  subst k1
  have k2 := HP2.out
  subst k2
  have k3 := HP3.out
  subst k3
  have c0 := fun a0 a1 a2 a3 o => (cell4 (set4 HQ.out a0 a1 a2 a3 o)).1
  have c1 := fun a0 a1 a2 a3 o => (cell4 (set4 HQ.out a0 a1 a2 a3 o)).2.1
  have c2 := fun a0 a1 a2 a3 o => (cell4 (set4 HQ.out a0 a1 a2 a3 o)).2.2.1
  have c3 := fun a0 a1 a2 a3 o => (cell4 (set4 HQ.out a0 a1 a2 a3 o)).2.2.2
  refine bodyPost_ret (v := .agg #[.int .u8 (lt (x.toNat / 4)).toNat, .int .u8 (lt (x.toNat % 4 * 16 + y.toNat / 16)).toNat, .int .u8 (lt (y.toNat % 16 * 4 + z.toNat / 64)).toNat, .int .u8 (lt (z.toNat % 64)).toNat]) ?_ rfl ⟨rfl, ?_⟩
  · simp [results, Tryd.results28, go_sem, c0, c1, c2, c3, alph_at _ l0, alph_at _ l1, alph_at _ l2, alph_at _ l3]
  · repeat (first | exact hbw | refine Below.alloc ?_ (by simp; omega) _ | refine Below.setCell ?_ (by simp) _ | apply Below.drew)
end Go.Proofs.YtdikgifgapbocaaDoor
