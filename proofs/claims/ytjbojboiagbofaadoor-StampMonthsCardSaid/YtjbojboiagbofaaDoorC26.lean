/- Parse. -/
import Derived.Test.YtjbojboiagbofaaDoorC25
set_option linter.unusedSimpArgs false
set_option linter.unusedVariables false
namespace Go.Proofs.YtjbojboiagbofaaDoor
open Go.RowKit Go.Shelf

/-- What Parse answers, by what its parts read. -/
def ParseIs (l : List UInt8) (n e : Int) : Prop := ∃ y m d h mi se l1 b1, DT l false y m d h mi se l1 b1 ∧
  ((∃ v, Sec 2136 y m d h mi se v ∧ (zoneV l1 b1).2.1 = [] ∧ (zoneV l1 b1).2.2 = false ∧ 0 ≤ v - (zoneV l1 b1).1 ∧ v - (zoneV l1 b1).1 ≤ 4294967295 ∧ n = v - (zoneV l1 b1).1 ∧ e = 0) ∨
   ((¬ ∃ v, Sec 2136 y m d h mi se v ∧ (zoneV l1 b1).2.1 = [] ∧ (zoneV l1 b1).2.2 = false ∧ 0 ≤ v - (zoneV l1 b1).1 ∧ v - (zoneV l1 b1).1 ≤ 4294967295) ∧ n = 0 ∧ e = 80))
theorem zoneV_bound (l : List UInt8) (b : Bool) : -400000 ≤ (zoneV l b).1 ∧ (zoneV l b).1 ≤ 400000 := by
  unfold zoneV
  dsimp only
  have h1 := dgs2_lt (tkR 1 l) (tkB 1 l b || !(tkS 1 l == [43] || tkS 1 l == [45]))
  generalize dgs 2 0 (tkR 1 l) (tkB 1 l b || !(tkS 1 l == [43] || tkS 1 l == [45])) = P at *
  have h2 := dgs2_lt P.2.1 P.2.2
  generalize dgs 2 0 P.2.1 P.2.2 = Q at *
  split <;> omega
theorem dt_len {l : List UInt8} {b : Bool} {y m d h mi se : Nat} {l' : List UInt8} {b' : Bool} (hDT : DT l b y m d h mi se l' b') : l'.length ≤ l.length := by
  obtain ⟨l1, b1, l2, b2, l3, b3, l4, b4, l5, b5, l6, b6, l7, b7, l8, b8, l9, b9, l10, b10, l11, b11, ⟨e1, e2, e3⟩, ⟨e4, e5⟩, ⟨e6, e7, e8⟩, ⟨e9, e10⟩, e11, ⟨e12, e13⟩, e14, ⟨e15, e16⟩, e17, ⟨e18, e19⟩, e20, e21, e22⟩ := hDT
  have k1 := tkR_len 2 l
  have k2 := tkR_len 1 l1
  have k3 := tkR_len 3 l2
  have k4 := tkR_len 1 l3
  have k5 := dgs_rest 4 0 l4 b4
  have k6 := tkR_len 1 l5
  have k7 := dgs_rest 2 0 l6 b6
  have k8 := tkR_len 1 l7
  have k9 := dgs_rest 2 0 l8 b8
  have k10 := tkR_len 1 l9
  have k11 := dgs_rest 2 0 l10 b10
  have k12 := tkR_len 1 l11
  rw [← e2] at k1
  rw [← e4] at k2
  rw [← e7] at k3
  rw [← e9] at k4
  rw [← e11] at k5
  rw [← e12] at k6
  rw [← e14] at k7
  rw [← e15] at k8
  rw [← e17] at k9
  rw [← e18] at k10
  rw [← e20] at k11
  rw [← e21] at k12
  simp only at k5 k7 k9 k11
  omega
def ParsePost (l : List UInt8) (w : World) (e : Ending) (w' : World) : Prop := (∃ n q : Int, e = .returned (.tuple #[.int .i64 n, .int .i64 q]) ∧ ParseIs l n q) ∧ Below w.heap.size w w'
/-- The reader's answers, and what comes of them. -/
def fin (b : Bool) (l : List UInt8) (ok : Bool) (v : Int) : Int × Int := if b = false ∧ l = [] ∧ ok = true ∧ 0 ≤ v ∧ v ≤ 4294967295 then (v, 0) else (0, 80)
theorem Tabs.of_below {w0 w w' : World} (h : Tabs w) (hb : Below w0.heap.size w w') (hz : w.heap.size ≤ w0.heap.size) : Tabs w' := h.below (hb.mono hz)
set_option maxHeartbeats 4000000 in
theorem parse_walk (l : List UInt8) (hl : l.length ≤ 9223372036854775807) (y m d h mi se : Nat) (l1 : List UInt8) (b1 : Bool) (hDT : DT l false y m d h mi se l1 b1) (z : Int) (l2 : List UInt8) (b2 : Bool) (hz : zoneV l1 b1 = (z, l2, b2)) (v : Int) (ok : Bool) (hv : -31536000 ≤ v ∧ v < 5000000000)
    (hS : ∀ w, Days w → Calls Tryd.prog 31 #[.agg #[.int .i64 y, .int .i64 m, .int .i64 d, .int .i64 h, .int .i64 mi, .int .i64 se, .int .i64 0]] w fun e' w' => e' = .returned (.tuple #[.int .i64 v, .bool ok]) ∧ Below w.heap.size w w')
    (w : World) (hT : Tabs w) (hw0 : 0 < w.heap.size) :
    Calls Tryd.prog 18 #[.string ⟨l.toArray⟩] w fun e w' => e = .returned (.tuple #[.int .i64 (fin b2 l2 ok (v - z)).1, .int .i64 (fin b2 l2 ok (v - z)).2]) ∧ Below w.heap.size w w' := by
  have hl1 := Nat.le_trans (dt_len hDT) hl
  have hzb := zoneV_bound l1 b1
  have c1 : ∀ w', RS w' w.heap.size l false → Mons w' → Calls Tryd.prog 33 #[.pointer (some ⟨w.heap.size, 0, none⟩)] w' _ := fun w' hR hM => dateAndTime_any w.heap.size l false hl y m d h mi se l1 b1 hDT w' hR hM hw0
  have c2 := fun w' hR => zone_any w.heap.size l1 b1 hl1 w' hR
  rw [hz] at c2 hzb
  simp only at c2 hzb
  have c4 := fun w => isMoment_any (v - z) w
  have R0 : RS (w.alloc (.cells #[.string ⟨l.toArray⟩, .bool false] 49)) w.heap.size l false := heap_alloc_new w _
  have B0 : Below w.heap.size w (w.alloc (.cells #[.string ⟨l.toArray⟩, .bool false] 49)) := (Below.refl _ _).alloc (Nat.le_refl _) _
  have Z0 : w.heap.size < (w.alloc (.cells #[.string ⟨l.toArray⟩, .bool false] 49)).heap.size := by simp
  have T0 := hT.below B0
  clear hl1 hDT hl hz
  have hways : (b2 = true) ∨ (b2 = false ∧ (l2 == []) = false) ∨ (b2 = false ∧ (l2 == []) = true ∧ ok = false) ∨ (b2 = false ∧ (l2 == []) = true ∧ ok = true ∧ (decide (0 ≤ v - z) && decide (v - z ≤ 4294967295)) = false) ∨ (b2 = false ∧ (l2 == []) = true ∧ ok = true ∧ (decide (0 ≤ v - z) && decide (v - z ≤ 4294967295)) = true) := by
    cases b2 <;> cases (l2 == []) <;> cases ok <;> cases (decide (0 ≤ v - z) && decide (v - z ≤ 4294967295)) <;> simp
  have hfin : ∀ p : Int × Int, fin b2 l2 ok (v - z) = p → Ending.returned (.tuple #[.int .i64 p.1, .int .i64 p.2]) = .returned (.tuple #[.int .i64 (fin b2 l2 ok (v - z)).1, .int .i64 (fin b2 l2 ok (v - z)).2]) := fun p hp => by rw [hp]
  have hno : ∀ (q : ¬ (b2 = false ∧ l2 = [] ∧ ok = true ∧ 0 ≤ v - z ∧ v - z ≤ 4294967295)), fin b2 l2 ok (v - z) = (0, 80) := fun q => if_neg q
  have hyes : ∀ (q : b2 = false ∧ l2 = [] ∧ ok = true ∧ 0 ≤ v - z ∧ v - z ≤ 4294967295), fin b2 l2 ok (v - z) = (v - z, 0) := fun q => if_pos q
  have HF := Lib.hid hfin
  have HNO := Lib.hid hno
  have HYES := Lib.hid hyes
  have HT := Lib.hid hT
  clear hfin hno hyes hT
  rcases hways with rfl | ⟨rfl, hw⟩ | ⟨rfl, hw, rfl⟩ | ⟨rfl, hw, rfl, hr⟩ | ⟨rfl, hw, rfl, hr⟩
  all_goals
    (try rw [hr] at c4)
    go_enter Tryd.func18, Tryd.ntmps18
    go_wp2_with fail
    refine (c1 _ R0 T0.mons).mono ?_; rintro e w1 ⟨rfl, h1, g1⟩
    have B1 := B0.trans g1.below
    have Z1 := Nat.lt_of_lt_of_le Z0 g1.below.size
    clear g1 B0 Z0 T0 R0
    have HB1 := Lib.hid B1
    clear B1
    go_wp2_with fail
    have b1' : Below w1.heap.size w1 (w1.alloc (.cells #[.int .i64 y, .int .i64 m, .int .i64 d, .int .i64 h, .int .i64 mi, .int .i64 se, .int .i64 0] 24)) := (Below.refl _ _).alloc (Nat.le_refl _) _
    have H1 : (w1.alloc (.cells #[.int .i64 y, .int .i64 m, .int .i64 d, .int .i64 h, .int .i64 mi, .int .i64 se, .int .i64 0] 24)).heap[w1.heap.size]? = some (.cells #[.int .i64 y, .int .i64 m, .int .i64 d, .int .i64 h, .int .i64 mi, .int .i64 se, .int .i64 0] 24) := heap_alloc_new w1 _
    have Y1 : w1.heap.size < (w1.alloc (.cells #[.int .i64 y, .int .i64 m, .int .i64 d, .int .i64 h, .int .i64 mi, .int .i64 se, .int .i64 0] 24)).heap.size := by simp
    have h1' := h1.below b1'
    have B1' := HB1.out.trans (b1'.mono (Nat.le_of_lt Z1))
    clear b1' h1
    refine (c2 _ h1').mono ?_; rintro e w2 ⟨rfl, h2, g2⟩
    have H2 := (g2.other _ Y1 (by omega)).trans H1
    have B2 := B1'.trans g2.below
    have T2 := HT.out.below B2
    have HB2 := Lib.hid B2
    have HR2 := Lib.hid h2
    clear HB1 B1' B2 g2 H1 Y1 h1' h2
    have q0 := cellsT H2 0 _ rfl
    have q1 := cellsT H2 1 _ rfl
    have q2 := cellsT H2 2 _ rfl
    have q3 := cellsT H2 3 _ rfl
    have q4 := cellsT H2 4 _ rfl
    have q5 := cellsT H2 5 _ rfl
    have q6 := cellsT H2 6 _ rfl
    go_wp2_with fail
    refine (hS _ T2.days).mono ?_; rintro e w3 ⟨rfl, b3⟩
    have R3 := HR2.out.below b3
    have HB3 := Lib.hid (HB2.out.trans (b3.mono HB2.out.size))
    clear q0 q1 q2 q3 q4 q5 q6 H2 T2 b3 HB2 HR2
    have p0 := R3.c0
    have p1 := R3.c1
    clear R3 hS c1 c2
    go_wp2_with (go_at_call 20; refine (c4 _).mono ?_; rintro e w4 ⟨rfl, hw4⟩; rw [hw4])
    go_ret2
    refine ⟨HF.out (_, _) ?_, HB3.out⟩
    clear HB3 HF HNO HYES HT p0 p1 c4
    unfold fin
    first
      | (rw [if_neg (by simp_all; done)]; done)
      | (rw [if_neg (by simp_all; omega)]; done)
      | (rw [if_pos (by simp_all; done)]; done)
      | (rw [if_pos (by simp_all; omega)]; done)
end Go.Proofs.YtjbojboiagbofaaDoor
