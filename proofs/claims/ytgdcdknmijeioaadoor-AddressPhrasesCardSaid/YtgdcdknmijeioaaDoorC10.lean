/- reader: address, wordReader. -/
import Derived.Test.YtgdcdknmijeioaaDoorC9
set_option linter.unusedSimpArgs false
set_option linter.unusedVariables false
namespace Go.Proofs.YtgdcdknmijeioaaDoor
open Go.RowKit Go.Shelf

theorem Max.chg {r : Nat} {w w' : World} (h : Max w) (g : Chg r w w') (hr : 0 < r) : Max w' := by
  obtain ⟨m, hm⟩ := h
  refine ⟨m, ?_⟩
  have hlt : 0 < w.heap.size := World.block_lt_of_cell? w _ hm
  rw [World.cell?, g.other 0 hlt (by omega)]
  exact hm
theorem addr_form (l : List UInt8) (b : Bool) : ∃ (x y : List UInt8), (parV (l.takeWhile adB) = .tuple #[adV [] x y, .int .i64 0] ∧ addrR l b = (⟨[], x, y⟩, l.dropWhile adB, b || !true)) ∨ (parV (l.takeWhile adB) = .tuple #[adV [] x y, .int .i64 90] ∧ addrR l b = (⟨[], x, y⟩, l.dropWhile adB, b || !false)) := by
  unfold parV addrR
  cases parseP (l.takeWhile adB) with
  | some p => exact ⟨p.1, p.2, .inl ⟨rfl, by simp⟩⟩
  | none => exact ⟨[], [], .inr ⟨rfl, by simp⟩⟩
theorem results_A1 {fn : Func} {p : Tmp} (hf : fn.results = #[.cell p 23]) {tmps : Array Value} {w : World} {g : Nat} {c : Array Value} (hp : tmps.getD p undef = .pointer (some ⟨g, 0, none⟩))
    (hh : w.heap[g]? = some (.cells c 23)) (hc : c.size = 3) : (results fn tmps).run Tryd.prog w = .ok (.agg c) w := by
  exact results_cell_row hf tmps w g 23 c (0, 0) _ hp hh Tryd.underlying23 rfl (by rw [hc]; exact info23)
def AddrPost (r : Nat) (res : Ad × List UInt8 × Bool) (w : World) (e : Ending) (w' : World) : Prop := e = .returned (adV res.1.name res.1.lo res.1.dm) ∧ RS w' r res.2.1 res.2.2 ∧ Chg r w w'
set_option maxHeartbeats 2000000 in
theorem address_any (r : Nat) (hr : 0 < r) (l : List UInt8) (b : Bool) (hl : l.length ≤ 9223372036854775807) (w : World) (hM : Max w) (h : RS w r l b) :
    Calls Tryd.prog 35 #[.pointer (some ⟨r, 0, none⟩)] w (AddrPost r (addrR l b) w) := by
  have htw := len_takeWhile adB l
  have c1 := fun w h => run_ad r l b hl w h
  have c2 := fun w hM => parse_any ⟨(l.takeWhile adB).toArray⟩ (by show (l.takeWhile adB).toArray.size ≤ _; rw [List.size_toArray]; omega) w hM
  simp only [str_data] at c2
  obtain ⟨x, y, hxy⟩ := addr_form l b
  have hrl := h.lt
  have b0 : Below w.heap.size w (w.alloc (.cells #[.string ⟨#[]⟩, .string ⟨#[]⟩, .string ⟨#[]⟩] 23)) := (Below.refl _ _).alloc (Nat.le_refl _) _
  have hh0 : (w.alloc (.cells #[.string ⟨#[]⟩, .string ⟨#[]⟩, .string ⟨#[]⟩] 23)).heap[w.heap.size]? = some (.cells #[.string ⟨#[]⟩, .string ⟨#[]⟩, .string ⟨#[]⟩] 23) := heap_alloc_new w _
  have hz0 : w.heap.size < (w.alloc (.cells #[.string ⟨#[]⟩, .string ⟨#[]⟩, .string ⟨#[]⟩] 23)).heap.size := by simp
  have h0 := h.below b0
  have M0 := hM.below b0
  have C0 := Chg.of_below b0 (Nat.le_of_lt hrl)
  generalize hrest : l.dropWhile adB = rest at *
  unfold AddrPost
  go_enter Tryd.func35, Tryd.ntmps35
  go_wp2_with fail
  refine (c1 _ h0).mono ?_; rintro e w1 ⟨rfl, h1, g1⟩
  have C1 := C0.trans g1
  have M1 := M0.chg g1 hr
  have H1 := (g1.other _ hz0 (by omega)).trans hh0
  have Z1 := Nat.lt_of_lt_of_le hz0 g1.below.size
  clear g1 M0 h0 b0 hh0 hz0 C0
  go_wp2_with fail
  refine (c2 _ M1).mono ?_; rintro e w2 ⟨rfl, b2⟩
  have h2 := h1.below b2
  have C2 := C1.trans (Chg.of_below b2 (Nat.le_of_lt h1.lt))
  have H2 := (b2.block _ Z1).trans H1
  have Z2 := Nat.lt_of_lt_of_le Z1 b2.size
  clear b2 C1 H1 Z1 h1 M1 c1 c2
  rcases hxy with ⟨hp, ha⟩ | ⟨hp, ha⟩
  all_goals
    rw [hp]
    have HA := Lib.hid ha
    clear hp ha
    unfold adV
    have b3 : Below w2.heap.size w2 (w2.alloc (.cells #[.string ⟨#[]⟩, .string ⟨x.toArray⟩, .string ⟨y.toArray⟩] 23)) := (Below.refl _ _).alloc (Nat.le_refl _) _
    have A3 := heap_alloc_new w2 (.cells #[.string ⟨#[]⟩, .string ⟨x.toArray⟩, .string ⟨y.toArray⟩] 23)
    have A3z : w2.heap.size < (w2.alloc (.cells #[.string ⟨#[]⟩, .string ⟨x.toArray⟩, .string ⟨y.toArray⟩] 23)).heap.size := by simp
    have h3 := h2.below b3
    have C3 := C2.trans (Chg.of_below b3 (Nat.le_of_lt h2.lt))
    have H3 := (b3.block _ Z2).trans H2
    have Z3 := Nat.lt_of_lt_of_le Z2 b3.size
    have N3 : w2.heap.size ≠ r := Nat.ne_of_gt h2.lt
    have N4 : w.heap.size ≠ r := Nat.ne_of_gt hrl
    clear b3 C2 H2 Z2 h2
    go_wp2_with fail
    refine (need_any r _ _ _ _ h3).mono ?_; rintro e w4 ⟨rfl, h4, g4⟩
    have C4 := C3.trans g4
    have H4 := (g4.other _ Z3 N4).trans H3
    have A4 := (g4.other _ A3z N3).trans A3
    have Z4 := Nat.lt_of_lt_of_le Z3 g4.below.size
    clear g4 C3 H3 A3 Z3 h3 A3z
    have r0 := cellA A4 0 _ rfl
    have r1 := cellA A4 1 _ rfl
    have r2 := cellA A4 2 _ rfl
    go_wp2_with (refine wpL_storeA rfl (.tmp 2) (.tmp 15) rfl rfl rfl H4 rfl rfl (by simp [Value.oneCell']) (Below.refl _ w4) (Nat.le_refl _) ?_; intro w5 h5 b5 o5 s5)
    refine bodyPost_ret (results_A1 Tryd.results35 rfl h5 rfl) rfl ?_
    have h6 := h4.lt
    rw [HA.out]
    refine ⟨rfl, ?_, ⟨C4.below.trans (b5.mono (Nat.le_of_lt hrl)), fun k hk hkr => (o5 k (by omega)).trans (C4.other k hk hkr)⟩⟩
    unfold RS
    rw [o5 r (by omega)]
    exact h4
end Go.Proofs.YtgdcdknmijeioaaDoor
