/- reader: month. -/
import Derived.Test.YtjbojboiagbofaaDoorC23
set_option linter.unusedSimpArgs false
set_option linter.unusedVariables false
namespace Go.Proofs.YtjbojboiagbofaaDoor
open Go.RowKit Go.Shelf

/-- The month of a name: from 1 on; 0: none. -/
def monI (x : List UInt8) : Nat → Nat
  | 0 => 0
  | n + 1 => if x = mon (11 - n) then 12 - n else monI x n
def monV (x : List UInt8) : Nat := monI x 12
theorem monI_at (x : List UInt8) (i : Nat) (hi : i < 12) (h : x = mon i) : monI x (12 - i) = i + 1 := by
  obtain ⟨n, hn⟩ : ∃ n, 12 - i = n + 1 := ⟨11 - i, by omega⟩
  rw [hn, monI, show 11 - n = i by omega, if_pos h]
  omega
theorem monI_step (x : List UInt8) (i : Nat) (hi : i < 12) (h : x ≠ mon i) : monI x (12 - i) = monI x (12 - (i + 1)) := by
  obtain ⟨n, hn⟩ : ∃ n, 12 - i = n + 1 := ⟨11 - i, by omega⟩
  rw [hn, monI, show 11 - n = i by omega, if_neg h, show 12 - (i + 1) = n by omega]
theorem Mons.heap {w : World} (h : Mons w) : ∃ t fr, w.heap[0]? = some (.cells (monT.map fun l => Value.string ⟨l.toArray⟩).toArray t fr) := by
  unfold Mons StrIs World.var? at h
  have hg : Tryd.prog.globalNamed "estafette/stamp.monthNames" = some 0 := by kernel_rfl
  rw [hg] at h
  simp only [Option.bind_some] at h
  split at h
  · rename_i cs t fr e
    exact ⟨t, fr, by rw [e, Option.some.inj h]⟩
  · cases h
theorem info42 : (Tryd.prog.info? 42).map (·.size) = some 12 := by kernel_rfl
theorem run_index42 (A : Array Value) (i : Nat) (hi : i < 12) (s : ByteArray) (hA : A[i]? = some (.string s)) (w : World) : (Instr.index 42 (.agg A) (.int .i64 i)).run Tryd.prog w = .ok (.string s) w := by
  have h1 : (i : Int) < 12 := by omega
  have h2 : (0 : Int) ≤ i := by omega
  simp [Instr.index, run_underlying Tryd.underlying42, asIntOf, go_sem, h1, h2, hA]
  intro q
  omega
section
variable {ops : Array Oper} {rest : List Oper} {o : Oper} {act : Act} {Q : Exit → Act → World → Prop} {w : World}
theorem wpL_index42 {A : Array Value} {i : Nat} {s : ByteArray} (hgd : o.guard = none) (x y : Operand) (ho : o.op = .index 42 x y) (hx : act.eval x = .agg A) (hy : act.eval y = .int .i64 i) (hi : i < 12) (hA : A[i]? = some (.string s))
    (h : wpList Tryd.prog ops Q rest (act.put o.dst (.string s)) w) : wpList Tryd.prog ops Q (o :: rest) act w := by
  refine wpList_plain hgd fun K hK => ?_
  unfold Oper.wp execOp
  simp only [ho, hx, hy, Sem.run_bind, run_index42 A i hi s hA, Result.andThen_ok, Sem.run_pure]
  exact hK _ _ h
end
set_option maxHeartbeats 1000000 in
theorem month_read (r : Nat) (l : List UInt8) (b : Bool) (hl : l.length ≤ 9223372036854775807) (w : World) (h : RS w r l b) (hM : Mons w) (hr : 0 < r) :
    Calls Tryd.prog 46 #[.pointer (some ⟨r, 0, none⟩)] w fun e w' => e = .returned (.int .i64 (monV (tkS 3 l))) ∧ RS w' r (tkR 3 l) (tkB 3 l b || decide (monV (tkS 3 l) = 0)) ∧ Chg r w w' := by
  have c1 := take_any r 3 l b (by omega) hl w h
  obtain ⟨t, fr, hM0⟩ := hM.heap
  have hz0 : 0 < w.heap.size := (Array.getElem?_eq_some_iff.1 hM0).1
  generalize tkS 3 l = x at *
  generalize tkR 3 l = l1 at *
  generalize tkB 3 l b = b1 at *
  clear h hM
  have hA : ∀ i, i < 12 → (monT.map fun l => Value.string ⟨l.toArray⟩).toArray[i]? = some (.string ⟨(mon i).toArray⟩) := by
    intro i hi
    have : ∀ j : Fin 12, (monT.map fun l => Value.string ⟨l.toArray⟩).toArray[j.val]? = some (.string ⟨(mon j.val).toArray⟩) := by
      intro j
      match j with
      | 0 | 1 | 2 | 3 | 4 | 5 | 6 | 7 | 8 | 9 | 10 | 11 => rfl
    exact this ⟨i, hi⟩
  have hAs : (monT.map fun l => Value.string ⟨l.toArray⟩).toArray.size = 12 := rfl
  generalize (monT.map fun l => Value.string ⟨l.toArray⟩).toArray = A at hA hAs hM0
  go_enter Tryd.func46, Tryd.ntmps46
  go_wp2_with fail
  refine c1.mono ?_; rintro e w1 ⟨rfl, h1, g1⟩
  have hM1 := (g1.other 0 hz0 (by omega)).trans hM0
  have HG := Lib.hid g1
  clear g1 hM0
  go_wp2_with (refine wpList_load_row rfl 42 (.global 0) rfl 0 rfl t A fr _ hM1 Tryd.underlying42 rfl (by rw [hAs]; exact info42) ?_)
  clear hM1
  have H1 := Lib.hid h1
  clear h1
  go_loopw [9] (fun iv wr => ∃ (i : Nat), iv = .int .i64 i ∧ i ≤ 12 ∧ Hid (monI x (12 - i) = monV x) ∧ wr = w1) (fun iv wr => (12 - intOf iv).toNat)
  case atStart => exact ⟨0, rfl, by omega, Lib.hid rfl, rfl⟩
  case round =>
    obtain ⟨i, rfl, hi, hx, hwr⟩ := hrel
    rw [hwr]
    by_cases hlt : i < 12
    · have hAi := hA i hlt
      clear hA
      by_cases he : x = mon i
      · have hv := Lib.hid (hx.out.symm.trans (monI_at x i hlt he))
        have he2 : (x == mon i) = true := by rw [beq_iff_eq]; exact he
        generalize mon i = mi at hAi he2
        clear he hx
        go_wp2_with (refine wpL_index42 rfl (.tmp 8) (.tmp 9) rfl rfl rfl hlt hAi ?_)
        go_ret
        rw [hv.out]
        exact ⟨rfl, by simpa using H1.out, HG.out⟩
      · have hv := Lib.hid ((monI_step x i hlt he).symm.trans hx.out)
        have he2 : (x == mon i) = false := by rw [beq_eq_false_iff_ne]; exact he
        generalize mon i = mi at hAi he2
        clear he hx
        go_wp2_with (refine wpL_index42 rfl (.tmp 8) (.tmp 9) rfl rfl rfl hlt hAi ?_)
        refine ⟨⟨i + 1, by go_num, by omega, hv, trivial⟩, by simp [intOf]; omega⟩
    · obtain rfl : i = 12 := by omega
      have hv := Lib.hid (hx.out.symm)
      clear hlt hx hA
      have q1 := H1.out.c1
      have f1 := H1.out.f0 1
      go_wp2
      go_ret
      have h1 := hv.out
      rw [show monI x (12 - 12) = 0 from rfl] at h1
      rw [h1]
      exact ⟨rfl, by simpa using (H1.out.set1 true).1, HG.out.trans (H1.out.set1 true).2⟩
end Go.Proofs.YtjbojboiagbofaaDoor
