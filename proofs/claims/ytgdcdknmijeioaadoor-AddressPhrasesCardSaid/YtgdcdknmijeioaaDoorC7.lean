/- Parse, Print. -/
import Derived.Test.YtgdcdknmijeioaaDoorC6
set_option linter.unusedSimpArgs false
set_option linter.unusedVariables false
namespace Go.Proofs.YtgdcdknmijeioaaDoor
open Go.RowKit Go.Shelf

section
variable {ops : Array Oper} {rest : List Oper} {o : Oper} {act : Act} {Q : Exit → Act → World → Prop}
theorem info23 : (Tryd.prog.info? 23).map (·.size) = some 3 := by kernel_rfl
/-- An address stored whole into a block of its own. -/
theorem wpL_storeA {w0 w : World} {B g : Nat} {c old : Array Value} (hgd : o.guard = none) (x y : Operand) (ho : o.op = .store 23 x y) (hx : act.eval x = .pointer (some ⟨g, 0, none⟩)) (hy : act.eval y = .agg c)
    (hh : w.heap[g]? = some (.cells old 23)) (hs : old.size = 3) (hc : c.size = 3) (h1 : c.all (·.oneCell') = true) (hb : Below B w0 w) (hB : B ≤ g)
    (h : ∀ w', w'.heap[g]? = some (.cells c 23) → Below B w0 w' → (∀ k, k ≠ g → w'.heap[k]? = w.heap[k]?) → w'.heap.size = w.heap.size → wpList Tryd.prog ops Q rest (act.put o.dst undef) w') : wpList Tryd.prog ops Q (o :: rest) act w := by
  refine wpList_store_row hgd 23 x y ho g c hx hy 23 old hh (by rw [hc]; exact info23) (by rw [hs, hc]) h1 ?_
  exact h _ (setRow_heap w g old c 23 _ hh) (hb.trans ⟨rfl, rfl, rfl, by simp [World.setRow], fun k hk => setRow_other w g k c (by omega)⟩) (fun k hk => setRow_other w g k c hk) (by simp [World.setRow])
theorem loadA {w : World} {g : Nat} {c : Array Value} (hh : w.heap[g]? = some (.cells c 23)) (hc : c.size = 3) : (loadVar 23 ⟨g, 0, none⟩).run Tryd.prog w = .ok (.agg c) w :=
  run_loadVar_row w g 23 23 c (0, 0) _ hh Tryd.underlying23 rfl (by rw [hc]; exact info23)
theorem results_A2 {fn : Func} {p u : Tmp} (hf : fn.results = #[.cell p 23, .tmp u]) {tmps : Array Value} {w : World} {g : Nat} {c : Array Value} {v : Value} (hp : tmps.getD p undef = .pointer (some ⟨g, 0, none⟩)) (hu : tmps.getD u undef = v)
    (hh : w.heap[g]? = some (.cells c 23)) (hc : c.size = 3) : (results fn tmps).run Tryd.prog w = .ok (.tuple #[.agg c, v]) w := by
  rw [results_cell_tmp hf, hp, hu]
  simp [asAddr, loadA hh hc]
end
theorem cellA {w : World} {g : Nat} {c : Array Value} {T : TypeId} (h : w.heap[g]? = some (.cells c T)) (i : Nat) (v : Value) (hv : c[i]? = some v) : w.cell? ⟨g, i, none⟩ = some v := by
  rw [cell_of_row _ _ _ _ _ _ h]; exact hv
/-- An address's texts as a value. -/
def adV (n a d : List UInt8) : Value := .agg #[.string ⟨n.toArray⟩, .string ⟨a.toArray⟩, .string ⟨d.toArray⟩]
/-- What Parse gives. -/
def parV (s : List UInt8) : Value := match parseP s with | some (x, y) => .tuple #[adV [] x y, .int .i64 0] | none => .tuple #[adV [] [] [], .int .i64 90]
theorem loc_len (s : List UInt8) : (loc s).length ≤ s.length := len_takeWhile _ _
theorem dom_len (s : List UInt8) : (dom s).length ≤ s.length := by
  unfold dom
  have := len_dropWhile (· != (64 : UInt8)) s
  rw [List.length_drop]; omega
set_option maxHeartbeats 1000000 in
theorem parse_any (s : ByteArray) (hs : s.size ≤ 9223372036854775807) (w : World) (hM : Max w) :
    Calls Tryd.prog 8 #[.string s] w fun e w' => e = .returned (parV s.data.toList) ∧ Below w.heap.size w w' := by
  have hsz := Lib.size_eq s
  have l1 := loc_len s.data.toList
  have l2 := dom_len s.data.toList
  have c1 := fun w => cut_any s hs w
  have hv : parV s.data.toList = if validP (loc s.data.toList) (dom s.data.toList) = true then .tuple #[adV [] (loc s.data.toList) (dom s.data.toList), .int .i64 0] else .tuple #[adV [] [] [], .int .i64 90] := by
    unfold parV parseP
    by_cases h : validP (loc s.data.toList) (dom s.data.toList) = true
    · rw [if_pos h, if_pos h]
    · rw [if_neg h, if_neg h]
  rw [← hsz] at l1 l2
  generalize parV s.data.toList = rv at *
  generalize loc s.data.toList = lo at *
  generalize dom s.data.toList = dm at *
  have HV := Lib.hid hv
  clear hv
  have c2 := fun w hM => isValid_any ⟨#[]⟩ ⟨lo.toArray⟩ ⟨dm.toArray⟩ (by show lo.toArray.size ≤ _; rw [List.size_toArray]; omega) (by show dm.toArray.size ≤ _; rw [List.size_toArray]; omega) w hM
  simp only [str_data] at c2
  clear hsz l1 l2
  have hb0 : Below w.heap.size w (w.alloc (.cells #[.string ⟨#[]⟩, .string ⟨#[]⟩, .string ⟨#[]⟩] 23)) := (Below.refl _ _).alloc (Nat.le_refl _) _
  have hh0 : (w.alloc (.cells #[.string ⟨#[]⟩, .string ⟨#[]⟩, .string ⟨#[]⟩] 23)).heap[w.heap.size]? = some (.cells #[.string ⟨#[]⟩, .string ⟨#[]⟩, .string ⟨#[]⟩] 23) := heap_alloc_new w _
  have hz0 : w.heap.size < (w.alloc (.cells #[.string ⟨#[]⟩, .string ⟨#[]⟩, .string ⟨#[]⟩] 23)).heap.size := by simp
  go_enter Tryd.func8, Tryd.ntmps8
  go_wp2_with fail
  refine (c1 _).mono ?_; rintro e w1 ⟨⟨b, rfl⟩, b1⟩
  have B1 := hb0.trans (b1.mono (Nat.le_of_lt hz0))
  have H1 := (b1.block _ hz0).trans hh0
  have Z1 := Nat.lt_of_lt_of_le hz0 b1.size
  have M1 := hM.below B1
  clear hb0 hh0 hz0 b1
  go_wp2_with fail
  have B2 := B1.alloc (Nat.le_of_lt Z1) (.cells #[.string ⟨#[]⟩, .string ⟨lo.toArray⟩, .string ⟨dm.toArray⟩] 23)
  have H2 := (heap_alloc_old w1 (.cells #[.string ⟨#[]⟩, .string ⟨lo.toArray⟩, .string ⟨dm.toArray⟩] 23) Z1).trans H1
  have Z2 : w.heap.size < (w1.alloc (.cells #[.string ⟨#[]⟩, .string ⟨lo.toArray⟩, .string ⟨dm.toArray⟩] 23)).heap.size := by simp; omega
  have A2 := heap_alloc_new w1 (.cells #[.string ⟨#[]⟩, .string ⟨lo.toArray⟩, .string ⟨dm.toArray⟩] 23)
  have A2z : w1.heap.size < (w1.alloc (.cells #[.string ⟨#[]⟩, .string ⟨lo.toArray⟩, .string ⟨dm.toArray⟩] 23)).heap.size := by simp
  have M2 := hM.below B2
  have K2 : w.heap.size ≠ w1.heap.size := Nat.ne_of_lt Z1
  refine (c2 _ M2).mono ?_; rintro e w2 ⟨rfl, b2⟩
  have B3 := B2.trans (b2.mono (Nat.le_of_lt Z2))
  have H3 := (b2.block _ Z2).trans H2
  have A3 := (b2.block _ A2z).trans A2
  clear b2 B2 H2 Z2 A2 A2z M2 M1 B1 H1 c1 c2 Z1 hM
  generalize w1.heap.size = g at *
  cases hv : validP lo dm
  · have HR : Hid (rv = .tuple #[adV [] [] [], .int .i64 90]) := Lib.hid <| by have := HV.out; rwa [if_neg (by rw [hv]; decide)] at this
    clear hv
    go_wp2_with (refine wpL_storeA rfl (.tmp 2) (.tmp 20) rfl rfl rfl H3 rfl rfl (by simp [Value.oneCell']) B3 (Nat.le_refl _) ?_; intro w3 h3 b3 _ _)
    refine bodyPost_ret (results_A2 Tryd.results8 rfl rfl h3 rfl) rfl ?_
    exact ⟨by rw [HR.out]; rfl, b3⟩
  · have HR : Hid (rv = .tuple #[adV [] lo dm, .int .i64 0]) := Lib.hid <| by have := HV.out; rwa [if_pos hv] at this
    clear hv
    have r0 := cellA A3 0 _ rfl
    have r1 := cellA A3 1 _ rfl
    have r2 := cellA A3 2 _ rfl
    go_wp2_with (refine wpL_storeA rfl (.tmp 2) (.tmp 21) rfl rfl rfl H3 rfl rfl (by simp [Value.oneCell']) B3 (Nat.le_refl _) ?_; intro w3 h3 b3 _ _)
    refine bodyPost_ret (results_A2 Tryd.results8 rfl rfl h3 rfl) rfl ?_
    exact ⟨by rw [HR.out]; rfl, b3⟩
end Go.Proofs.YtgdcdknmijeioaaDoor
