/- Of. -/
import Derived.Test.YtjbojboiagbofaaDoorC2
set_option linter.unusedSimpArgs false
set_option linter.unusedVariables false
namespace Go.Proofs.YtjbojboiagbofaaDoor
open Go.RowKit

theorem within_any (n lo hi : Int) (w : World) :
    Calls Tryd.prog 36 #[.int .i64 n, .int .i64 lo, .int .i64 hi] w fun e w' => e = .returned (.bool (decide (lo ≤ n) && decide (n ≤ hi))) ∧ w' = w := by
  go_enter Tryd.func36, Tryd.ntmps36
  by_cases h1 : lo ≤ n
  · go_wp2
    go_ret
    exact ⟨by simp [h1], rfl⟩
  · have h1' : n < lo := by omega
    have h2 : decide (lo ≤ n) = false := decide_eq_false h1
    clear h1
    go_wp2
    go_ret
    exact ⟨by rw [h2]; rfl, rfl⟩
theorem isMoment_any (n : Int) (w : World) :
    Calls Tryd.prog 20 #[.int .i64 n] w fun e w' => e = .returned (.bool (decide (0 ≤ n) && decide (n ≤ 4294967295))) ∧ w' = w := by
  have hW := within_any n 0 4294967295 w
  go_enter Tryd.func20, Tryd.ntmps20
  go_wp2_with (go_at_call 36; refine hW.mono ?_; rintro e w' ⟨rfl, hw⟩; rw [hw])
  go_ret
  exact ⟨rfl, rfl⟩
section
variable {ops : Array Oper} {rest : List Oper} {o : Oper} {act : Act} {Q : Exit → Act → World → Prop}
theorem info24 : (Tryd.prog.info? 24).map (·.size) = some 7 := by kernel_rfl
/-- A Time stored whole into a block of its own. -/
theorem wpL_storeT {w0 w : World} {B g : Nat} {c old : Array Value} (hgd : o.guard = none) (x y : Operand) (ho : o.op = .store 24 x y) (hx : act.eval x = .pointer (some ⟨g, 0, none⟩)) (hy : act.eval y = .agg c)
    (hh : w.heap[g]? = some (.cells old 24)) (hs : old.size = 7) (hc : c.size = 7) (h1 : c.all (·.oneCell') = true) (hb : Below B w0 w) (hB : B ≤ g)
    (h : ∀ w', w'.heap[g]? = some (.cells c 24) → Below B w0 w' → wpList Tryd.prog ops Q rest (act.put o.dst undef) w') : wpList Tryd.prog ops Q (o :: rest) act w := by
  refine wpList_store_row hgd 24 x y ho g c hx hy 24 old hh (by rw [hc]; exact info24) (by rw [hs, hc]) h1 ?_
  exact h _ (setRow_heap w g old c 24 _ hh) (hb.trans ⟨rfl, rfl, rfl, by simp [World.setRow], fun k hk => setRow_other w g k c (by omega)⟩)
theorem loadT {w : World} {g : Nat} {c : Array Value} (hh : w.heap[g]? = some (.cells c 24)) (hc : c.size = 7) : (loadVar 24 ⟨g, 0, none⟩).run Tryd.prog w = .ok (.agg c) w :=
  run_loadVar_row w g 24 24 c (0, 0) _ hh Tryd.underlying24 rfl (by rw [hc]; exact info24)
theorem results_T2 {fn : Func} {p u : Tmp} (hf : fn.results = #[.cell p 24, .tmp u]) {tmps : Array Value} {w : World} {g : Nat} {c : Array Value} {v : Value} (hp : tmps.getD p undef = .pointer (some ⟨g, 0, none⟩)) (hu : tmps.getD u undef = v)
    (hh : w.heap[g]? = some (.cells c 24)) (hc : c.size = 7) : (results fn tmps).run Tryd.prog w = .ok (.tuple #[.agg c, v]) w := by
  rw [results_cell_tmp hf, hp, hu]
  simp [asAddr, loadT hh hc]
end
/-- A moment's date and time. -/
def tmA (k j d s : Nat) : Array Value := #[.int .i64 (1999 + k), .int .i64 (j + 1), .int .i64 (d + 1), .int .i64 ((s : Int) % 86400 / 3600), .int .i64 ((s : Int) % 3600 / 60), .int .i64 ((s : Int) % 60), .int .i64 (((s : Int) / 86400 + 6) % 7)]
def noT : Array Value := #[.int .i64 0, .int .i64 0, .int .i64 0, .int .i64 0, .int .i64 0, .int .i64 0, .int .i64 0]
set_option maxHeartbeats 1000000 in
theorem of_any (s k j d : Nat) (hs : s < 4294967296) (h : IsDate (s / 86400 + 365) k j d) (w : World) (hD : Days w) :
    Calls Tryd.prog 10 #[.int .i64 s] w fun e w' => e = .returned (.tuple #[.agg (tmA k j d s), .int .i64 0]) ∧ Below w.heap.size w w' := by
  have hM : ∀ w, Calls Tryd.prog 20 #[.int .i64 s] w fun e w' => e = .returned (.bool true) ∧ w' = w := by
    intro w
    have := isMoment_any s w
    rwa [decide_eq_true (show (0 : Int) ≤ s by omega), decide_eq_true (show (s : Int) ≤ 4294967295 by omega)] at this
  have hA : ∀ w, Days w → Calls Tryd.prog 21 #[.int .i64 ((s : Int) / 86400)] w _ := fun w hD => dateAt_any (s / 86400) k j d h (by omega) w hD
  have hk := h.small (by omega)
  have hj := h.mon
  have hd := h.day
  have hd' := dim_le k j
  have H := Lib.hid h
  clear h
  have hb1 : Below w.heap.size w (w.alloc newT) := (Below.refl _ _).alloc (Nat.le_refl _) _
  have hD1 := hD.below hb1
  unfold newT at hb1 hD1
  go_enter Tryd.func10, Tryd.ntmps10
  go_wp2_with fail
  refine (hM _).mono ?_; rintro e w1 ⟨rfl, hw⟩; rw [hw]
  go_wp2_with fail
  refine (hA _ hD1).mono ?_; rintro e w2 ⟨rfl, hb2⟩
  have hh2 := (hb2.block w.heap.size (by simp)).trans (heap_alloc_new w _)
  have hb := hb1.trans (hb2.mono (by simp))
  have hz : w.heap.size < w2.heap.size := by have := hb2.size; simp at this; omega
  clear hb1 hb2 hD1 hw hD hA
  go_wp2_with (refine wpL_storeT rfl (.tmp 2) (.tmp 29) rfl rfl rfl ((heap_alloc_old _ _ hz).trans hh2) rfl rfl (by simp [Value.oneCell']) (hb.alloc (by omega) _) (Nat.le_refl _) ?_; intro w3 h3 b3)
  refine bodyPost_ret (results_T2 Tryd.results10 rfl rfl h3 rfl) rfl ?_
  exact ⟨rfl, b3⟩
theorem of_none (n : Int) (hn : ¬ (0 ≤ n ∧ n < 4294967296)) (w : World) :
    Calls Tryd.prog 10 #[.int .i64 n] w fun e w' => e = .returned (.tuple #[.agg noT, .int .i64 80]) ∧ Below w.heap.size w w' := by
  have hM : ∀ w, Calls Tryd.prog 20 #[.int .i64 n] w fun e w' => e = .returned (.bool false) ∧ w' = w := by
    intro w
    have := isMoment_any n w
    rwa [show (decide ((0 : Int) ≤ n) && decide (n ≤ 4294967295)) = false by simp; omega] at this
  clear hn
  go_enter Tryd.func10, Tryd.ntmps10
  go_wp2_with fail
  refine (hM _).mono ?_; rintro e w1 ⟨rfl, hw⟩; rw [hw]
  go_wp2_with fail
  refine bodyPost_ret (results_T2 Tryd.results10 rfl rfl (heap_alloc_new w _) rfl) rfl ?_
  exact ⟨rfl, (Below.refl _ _).alloc (Nat.le_refl _) _⟩
end Go.Proofs.YtjbojboiagbofaaDoor
