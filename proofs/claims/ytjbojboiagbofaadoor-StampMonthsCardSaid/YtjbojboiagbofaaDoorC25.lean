/- reader: dateAndTime. -/
import Derived.Test.YtjbojboiagbofaaDoorC24
set_option linter.unusedSimpArgs false
set_option linter.unusedVariables false
namespace Go.Proofs.YtjbojboiagbofaaDoor
open Go.RowKit Go.Shelf

/-- What dateAndTime reads from l on. -/
def DT (l : List UInt8) (b : Bool) (y m d h mi se : Nat) (l' : List UInt8) (b' : Bool) : Prop :=
  ∃ l1 b1 l2 b2 l3 b3 l4 b4 l5 b5 l6 b6 l7 b7 l8 b8 l9 b9 l10 b10 l11 b11,
    (d = nV 31 (dayX l) ∧ l1 = tkR 2 l ∧ b1 = (tkB 2 l b || !nB 31 (dayX l))) ∧ (l2 = tkR 1 l1 ∧ b2 = mkB [45] l1 b1) ∧
    (m = monV (tkS 3 l2) ∧ l3 = tkR 3 l2 ∧ b3 = (tkB 3 l2 b2 || decide (monV (tkS 3 l2) = 0))) ∧ (l4 = tkR 1 l3 ∧ b4 = mkB [45] l3 b3) ∧
    (y, l5, b5) = dgs 4 0 l4 b4 ∧ (l6 = tkR 1 l5 ∧ b6 = mkB [32] l5 b5) ∧
    (h, l7, b7) = dgs 2 0 l6 b6 ∧ (l8 = tkR 1 l7 ∧ b8 = mkB [58] l7 b7) ∧
    (mi, l9, b9) = dgs 2 0 l8 b8 ∧ (l10 = tkR 1 l9 ∧ b10 = mkB [58] l9 b9) ∧
    (se, l11, b11) = dgs 2 0 l10 b10 ∧ (l' = tkR 1 l11 ∧ b' = mkB [32] l11 b11)
theorem dt_ex (l : List UInt8) (b : Bool) : ∃ y m d h mi se l' b', DT l b y m d h mi se l' b' :=
  ⟨_, _, _, _, _, _, _, _, _, _, _, _, _, _, _, _, _, _, _, _, _, _, _, _, _, _, _, _, _, _, ⟨rfl, rfl, rfl⟩, ⟨rfl, rfl⟩, ⟨rfl, rfl, rfl⟩, ⟨rfl, rfl⟩, rfl, ⟨rfl, rfl⟩, rfl, ⟨rfl, rfl⟩, rfl, ⟨rfl, rfl⟩, rfl, rfl, rfl⟩
structure DS (w0 w : World) (r : Nat) (l : List UInt8) (b : Bool) (a : Array Value) : Prop where
  rs : RS w r l b
  ts : w.heap[w0.heap.size + 1]? = some (.cells a 24)
  rt : w.heap[w0.heap.size]? = some (.cells #[.int .i64 0, .int .i64 0, .int .i64 0, .int .i64 0, .int .i64 0, .int .i64 0, .int .i64 0] 24)
  chg : Chg r w0 w
  lt : r < w0.heap.size
theorem DS.call {w0 w w' : World} {r : Nat} {l l' : List UInt8} {b b' : Bool} {a : Array Value} (h : DS w0 w r l b a) (h' : RS w' r l' b') (g : Chg r w w') : DS w0 w' r l' b' a := by
  have h1 := h.lt
  have h2 := (Array.getElem?_eq_some_iff.1 h.ts).1
  have h3 := (Array.getElem?_eq_some_iff.1 h.rt).1
  exact ⟨h', (g.other _ h2 (by omega)).trans h.ts, (g.other _ h3 (by omega)).trans h.rt, h.chg.trans g, h.lt⟩
theorem DS.set {w0 w : World} {r : Nat} {l : List UInt8} {b : Bool} {a : Array Value} (h : DS w0 w r l b a) (k : Nat) (v : Value) : DS w0 (w.setCell ⟨w0.heap.size + 1, k, none⟩ v) r l b (a.setIfInBounds k v) := by
  have h1 := h.lt
  rw [setCell_eq_setRow w _ k a 24 (0, 0) v h.ts]
  have ho : ∀ j, j ≠ w0.heap.size + 1 → (w.setRow (w0.heap.size + 1) (a.setIfInBounds k v)).heap[j]? = w.heap[j]? := fun j hj => setRow_other w _ j _ hj
  refine ⟨?_, setRow_heap w _ a _ 24 _ h.ts, (ho _ (by omega)).trans h.rt, ?_, h.lt⟩
  · unfold RS; rw [ho r (by omega)]; exact h.rs
  · refine ⟨h.chg.below.trans ⟨rfl, rfl, rfl, by simp [World.setRow], fun j hj => ho j (by omega)⟩, fun j hj hr => (ho j (by omega)).trans (h.chg.other j hj hr)⟩
theorem DS.frozen {w0 w : World} {r : Nat} {l : List UInt8} {b : Bool} {a : Array Value} (h : DS w0 w r l b a) (k : Nat) : w.frozen? ⟨w0.heap.size + 1, k, none⟩ = false := by
  have := h.ts
  simp [World.frozen?, this]
theorem results_T1 {fn : Func} {p : Tmp} (hf : fn.results = #[.cell p 24]) {tmps : Array Value} {w : World} {g : Nat} {c : Array Value} (hp : tmps.getD p undef = .pointer (some ⟨g, 0, none⟩))
    (hh : w.heap[g]? = some (.cells c 24)) (hc : c.size = 7) : (results fn tmps).run Tryd.prog w = .ok (.agg c) w :=
  results_cell_row hf tmps w g 24 c (0, 0) _ hp hh Tryd.underlying24 rfl (by rw [hc]; exact info24)
set_option maxHeartbeats 4000000 in
theorem dateAndTime_any (r : Nat) (l : List UInt8) (b : Bool) (hl : l.length ≤ 9223372036854775807) (y m d h mi se : Nat) (l' : List UInt8) (b' : Bool) (hDT : DT l b y m d h mi se l' b') (w : World) (hR : RS w r l b) (hM : Mons w) (hr : 0 < r) :
    Calls Tryd.prog 33 #[.pointer (some ⟨r, 0, none⟩)] w fun e w' => e = .returned (.agg #[.int .i64 y, .int .i64 m, .int .i64 d, .int .i64 h, .int .i64 mi, .int .i64 se, .int .i64 0]) ∧ RS w' r l' b' ∧ Chg r w w' := by
  obtain ⟨l1, b1, l2, b2, l3, b3, l4, b4, l5, b5, l6, b6, l7, b7, l8, b8, l9, b9, l10, b10, l11, b11, ⟨e1, e2, e3⟩, ⟨e4, e5⟩, ⟨e6, e7, e8⟩, ⟨e9, e10⟩, e11, ⟨e12, e13⟩, e14, ⟨e15, e16⟩, e17, ⟨e18, e19⟩, e20, e21, e22⟩ := hDT
  have c1 : ∀ w, RS w r l b → Calls Tryd.prog 44 #[.pointer (some ⟨r, 0, none⟩)] w fun e w' => e = .returned (.int .i64 d) ∧ RS w' r l1 b1 ∧ Chg r w w' := fun w h => by rw [e1, e2, e3]; exact day_any r l b hl w h
  have k1 : l1.length ≤ 9223372036854775807 := by rw [e2]; exact Nat.le_trans (tkR_len 2 l) hl
  have c2 : ∀ w, RS w r l1 b1 → Calls Tryd.prog 45 #[.pointer (some ⟨r, 0, none⟩), .string ⟨#[45]⟩] w fun e w' => e = .returned (.tuple #[]) ∧ RS w' r l2 b2 ∧ Chg r w w' := fun w h => by rw [e4, e5]; exact mark_any r [45] l1 b1 (by simp) k1 w h
  have k2 : l2.length ≤ 9223372036854775807 := by rw [e4]; exact Nat.le_trans (tkR_len 1 l1) k1
  have c3 : ∀ w, RS w r l2 b2 → Mons w → Calls Tryd.prog 46 #[.pointer (some ⟨r, 0, none⟩)] w fun e w' => e = .returned (.int .i64 m) ∧ RS w' r l3 b3 ∧ Chg r w w' := fun w h hM => by rw [e6, e7, e8]; exact month_read r l2 b2 k2 w h hM hr
  have k3 : l3.length ≤ 9223372036854775807 := by rw [e7]; exact Nat.le_trans (tkR_len 3 l2) k2
  have c4 : ∀ w, RS w r l3 b3 → Calls Tryd.prog 45 #[.pointer (some ⟨r, 0, none⟩), .string ⟨#[45]⟩] w fun e w' => e = .returned (.tuple #[]) ∧ RS w' r l4 b4 ∧ Chg r w w' := fun w h => by rw [e9, e10]; exact mark_any r [45] l3 b3 (by simp) k3 w h
  have k4 : l4.length ≤ 9223372036854775807 := by rw [e9]; exact Nat.le_trans (tkR_len 1 l3) k3
  have c5 : ∀ w, RS w r l4 b4 → Calls Tryd.prog 47 #[.pointer (some ⟨r, 0, none⟩), .int .i64 4] w fun e w' => e = .returned (.int .i64 y) ∧ RS w' r l5 b5 ∧ Chg r w w' := fun w h => by have := digits_any r 4 (by omega) l4 b4 k4 w h; rw [← e11] at this; exact this
  have k5 : l5.length ≤ 9223372036854775807 := by have := dgs_rest 4 0 l4 b4; rw [← e11] at this; exact Nat.le_trans this k4
  have c6 : ∀ w, RS w r l5 b5 → Calls Tryd.prog 45 #[.pointer (some ⟨r, 0, none⟩), .string ⟨#[32]⟩] w fun e w' => e = .returned (.tuple #[]) ∧ RS w' r l6 b6 ∧ Chg r w w' := fun w h => by rw [e12, e13]; exact mark_any r [32] l5 b5 (by simp) k5 w h
  have k6 : l6.length ≤ 9223372036854775807 := by rw [e12]; exact Nat.le_trans (tkR_len 1 l5) k5
  have c7 : ∀ w, RS w r l6 b6 → Calls Tryd.prog 47 #[.pointer (some ⟨r, 0, none⟩), .int .i64 2] w fun e w' => e = .returned (.int .i64 h) ∧ RS w' r l7 b7 ∧ Chg r w w' := fun w h => by have := digits_any r 2 (by omega) l6 b6 k6 w h; rw [← e14] at this; exact this
  have k7 : l7.length ≤ 9223372036854775807 := by have := dgs_rest 2 0 l6 b6; rw [← e14] at this; exact Nat.le_trans this k6
  have c8 : ∀ w, RS w r l7 b7 → Calls Tryd.prog 45 #[.pointer (some ⟨r, 0, none⟩), .string ⟨#[58]⟩] w fun e w' => e = .returned (.tuple #[]) ∧ RS w' r l8 b8 ∧ Chg r w w' := fun w h => by rw [e15, e16]; exact mark_any r [58] l7 b7 (by simp) k7 w h
  have k8 : l8.length ≤ 9223372036854775807 := by rw [e15]; exact Nat.le_trans (tkR_len 1 l7) k7
  have c9 : ∀ w, RS w r l8 b8 → Calls Tryd.prog 47 #[.pointer (some ⟨r, 0, none⟩), .int .i64 2] w fun e w' => e = .returned (.int .i64 mi) ∧ RS w' r l9 b9 ∧ Chg r w w' := fun w h => by have := digits_any r 2 (by omega) l8 b8 k8 w h; rw [← e17] at this; exact this
  have k9 : l9.length ≤ 9223372036854775807 := by have := dgs_rest 2 0 l8 b8; rw [← e17] at this; exact Nat.le_trans this k8
  have c10 : ∀ w, RS w r l9 b9 → Calls Tryd.prog 45 #[.pointer (some ⟨r, 0, none⟩), .string ⟨#[58]⟩] w fun e w' => e = .returned (.tuple #[]) ∧ RS w' r l10 b10 ∧ Chg r w w' := fun w h => by rw [e18, e19]; exact mark_any r [58] l9 b9 (by simp) k9 w h
  have k10 : l10.length ≤ 9223372036854775807 := by rw [e18]; exact Nat.le_trans (tkR_len 1 l9) k9
  have c11 : ∀ w, RS w r l10 b10 → Calls Tryd.prog 47 #[.pointer (some ⟨r, 0, none⟩), .int .i64 2] w fun e w' => e = .returned (.int .i64 se) ∧ RS w' r l11 b11 ∧ Chg r w w' := fun w h => by have := digits_any r 2 (by omega) l10 b10 k10 w h; rw [← e20] at this; exact this
  have k11 : l11.length ≤ 9223372036854775807 := by have := dgs_rest 2 0 l10 b10; rw [← e20] at this; exact Nat.le_trans this k10
  have c12 : ∀ w, RS w r l11 b11 → Calls Tryd.prog 45 #[.pointer (some ⟨r, 0, none⟩), .string ⟨#[32]⟩] w fun e w' => e = .returned (.tuple #[]) ∧ RS w' r l' b' ∧ Chg r w w' := fun w h => by rw [e21, e22]; exact mark_any r [32] l11 b11 (by simp) k11 w h
  have k12 : l'.length ≤ 9223372036854775807 := by rw [e21]; exact Nat.le_trans (tkR_len 1 l11) k11
  clear e1 e2 e3 e4 e5 e6 e7 e8 e9 e10 e11 e12 e13 e14 e15 e16 e17 e18 e19 e20 e21 e22 k1 k2 k3 k4 k5 k6 k7 k8 k9 k10 k11 k12 hl
  have hlt := hR.lt
  have D0 : DS w ((w.alloc newT).alloc newT) r l b #[.int .i64 0, .int .i64 0, .int .i64 0, .int .i64 0, .int .i64 0, .int .i64 0, .int .i64 0] := by
    have hsz : (w.alloc newT).heap.size = w.heap.size + 1 := by simp
    have a1 := heap_alloc_new (w.alloc newT) newT
    have a2 : ((w.alloc newT).alloc newT).heap[w.heap.size]? = some newT := (heap_alloc_old (w.alloc newT) newT (by simp)).trans (heap_alloc_new w newT)
    have b1 : Below w.heap.size w ((w.alloc newT).alloc newT) := ((Below.refl _ _).alloc (Nat.le_refl _) _).alloc (by simp) _
    exact ⟨hR.below b1, by rw [← hsz]; exact a1, a2, Chg.of_below b1 (Nat.le_of_lt hlt), hlt⟩
  have hM0 : ∀ w', Chg r w w' → Mons w' := fun w' g => by
    obtain ⟨t, fr, hh⟩ := hM.heap
    have hz : 0 < w.heap.size := by omega
    have := (g.other 0 hz (by omega)).trans hh
    unfold Mons StrIs World.var?
    rw [show Tryd.prog.globalNamed "estafette/stamp.monthNames" = some 0 by kernel_rfl]
    simp only [Option.bind_some]
    rw [this]
  unfold newT at D0
  clear hM hR
  go_enter Tryd.func33, Tryd.ntmps33
  go_wp2_with fail
  refine (c1 _ D0.rs).mono ?_; rintro e w1 ⟨rfl, h1, g1⟩
  have E1 := D0.call h1 g1
  clear h1 g1
  have q1 := cellsT E1.ts 2 _ rfl
  have f1 := E1.frozen 2
  have F1 := E1.set 2 (.int .i64 d)
  simp only [List.setIfInBounds_toArray, List.set_cons_succ, List.set_cons_zero] at F1
  have HF1 := Lib.hid F1
  have HE1 := Lib.hid E1
  clear F1 E1
  go_wp2_with fail
  refine (c2 _ HF1.out.rs).mono ?_; rintro e w2 ⟨rfl, h2, g2⟩
  clear q1 f1
  have E2 := HF1.out.call h2 g2
  clear h2 g2
  have HE2 := Lib.hid E2
  clear E2
  go_wp2_with fail
  refine (c3 _ HE2.out.rs (hM0 _ HE2.out.chg)).mono ?_; rintro e w3 ⟨rfl, h3, g3⟩
  have E3 := HE2.out.call h3 g3
  clear h3 g3
  have q3 := cellsT E3.ts 1 _ rfl
  have f3 := E3.frozen 1
  have F3 := E3.set 1 (.int .i64 m)
  simp only [List.setIfInBounds_toArray, List.set_cons_succ, List.set_cons_zero] at F3
  have HF3 := Lib.hid F3
  have HE3 := Lib.hid E3
  clear F3 E3
  go_wp2_with fail
  refine (c4 _ HF3.out.rs).mono ?_; rintro e w4 ⟨rfl, h4, g4⟩
  clear q3 f3
  have E4 := HF3.out.call h4 g4
  clear h4 g4
  have HE4 := Lib.hid E4
  clear E4
  go_wp2_with fail
  refine (c5 _ HE4.out.rs).mono ?_; rintro e w5 ⟨rfl, h5, g5⟩
  have E5 := HE4.out.call h5 g5
  clear h5 g5
  have q5 := cellsT E5.ts 0 _ rfl
  have f5 := E5.frozen 0
  have F5 := E5.set 0 (.int .i64 y)
  simp only [List.setIfInBounds_toArray, List.set_cons_succ, List.set_cons_zero] at F5
  have HF5 := Lib.hid F5
  have HE5 := Lib.hid E5
  clear F5 E5
  go_wp2_with fail
  refine (c6 _ HF5.out.rs).mono ?_; rintro e w6 ⟨rfl, h6, g6⟩
  clear q5 f5
  have E6 := HF5.out.call h6 g6
  clear h6 g6
  have HE6 := Lib.hid E6
  clear E6
  go_wp2_with fail
  refine (c7 _ HE6.out.rs).mono ?_; rintro e w7 ⟨rfl, h7, g7⟩
  have E7 := HE6.out.call h7 g7
  clear h7 g7
  have q7 := cellsT E7.ts 3 _ rfl
  have f7 := E7.frozen 3
  have F7 := E7.set 3 (.int .i64 h)
  simp only [List.setIfInBounds_toArray, List.set_cons_succ, List.set_cons_zero] at F7
  have HF7 := Lib.hid F7
  have HE7 := Lib.hid E7
  clear F7 E7
  go_wp2_with fail
  refine (c8 _ HF7.out.rs).mono ?_; rintro e w8 ⟨rfl, h8, g8⟩
  clear q7 f7
  have E8 := HF7.out.call h8 g8
  clear h8 g8
  have HE8 := Lib.hid E8
  clear E8
  go_wp2_with fail
  refine (c9 _ HE8.out.rs).mono ?_; rintro e w9 ⟨rfl, h9, g9⟩
  have E9 := HE8.out.call h9 g9
  clear h9 g9
  have q9 := cellsT E9.ts 4 _ rfl
  have f9 := E9.frozen 4
  have F9 := E9.set 4 (.int .i64 mi)
  simp only [List.setIfInBounds_toArray, List.set_cons_succ, List.set_cons_zero] at F9
  have HF9 := Lib.hid F9
  have HE9 := Lib.hid E9
  clear F9 E9
  go_wp2_with fail
  refine (c10 _ HF9.out.rs).mono ?_; rintro e w10 ⟨rfl, h10, g10⟩
  clear q9 f9
  have E10 := HF9.out.call h10 g10
  clear h10 g10
  have HE10 := Lib.hid E10
  clear E10
  go_wp2_with fail
  refine (c11 _ HE10.out.rs).mono ?_; rintro e w11 ⟨rfl, h11, g11⟩
  have E11 := HE10.out.call h11 g11
  clear h11 g11
  have q11 := cellsT E11.ts 5 _ rfl
  have f11 := E11.frozen 5
  have F11 := E11.set 5 (.int .i64 se)
  simp only [List.setIfInBounds_toArray, List.set_cons_succ, List.set_cons_zero] at F11
  have HF11 := Lib.hid F11
  have HE11 := Lib.hid E11
  clear F11 E11
  go_wp2_with fail
  refine (c12 _ HF11.out.rs).mono ?_; rintro e w12 ⟨rfl, h12, g12⟩
  clear q11 f11
  have E12 := HF11.out.call h12 g12
  clear h12 g12
  have HE12 := Lib.hid E12
  clear E12
  have q0 := cellsT HE12.out.ts 0 _ rfl
  have q1 := cellsT HE12.out.ts 1 _ rfl
  have q2 := cellsT HE12.out.ts 2 _ rfl
  have q3 := cellsT HE12.out.ts 3 _ rfl
  have q4 := cellsT HE12.out.ts 4 _ rfl
  have q5 := cellsT HE12.out.ts 5 _ rfl
  have q6 := cellsT HE12.out.ts 6 _ rfl
  have Z : r < w.heap.size := hlt
  go_wp2_with (refine wpL_storeT rfl (.tmp 2) (.tmp 34) rfl rfl rfl HE12.out.rt rfl rfl (by simp [Value.oneCell']) (Below.refl w.heap.size w12) (Nat.le_refl _) ?_; intro w13 h13 b13)
  refine bodyPost_ret (results_T1 rfl rfl h13 rfl) rfl ?_
  have G := HE12.out
  refine ⟨rfl, ?_, G.chg.below.trans (b13.mono (Nat.le_of_lt Z)), fun k hk hr => (b13.block k hk).trans (G.chg.other k hk hr)⟩
  unfold RS
  rw [b13.block r Z]
  exact G.rs
end Go.Proofs.YtjbojboiagbofaaDoor
