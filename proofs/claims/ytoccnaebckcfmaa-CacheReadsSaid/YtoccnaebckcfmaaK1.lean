/- What a map keyed by int does at delete and clear; look-ups and stores of any such map. -/
import Derived.Test.YtoccnaebckcfmaaW32
set_option linter.unusedSimpArgs false
set_option linter.unusedVariables false
set_option maxRecDepth 8000
namespace Go.Proofs.Ytoccnaebckcfmaa
open Go.RowKit Go.MapKept
open Go.ChangeMaps (setBlock)

def delF (f : Int → Option (Array Value)) (k : Int) : Int → Option (Array Value) := fun j => if j = k then none else f j

theorem mem_erase {α : Type} {l : List α} {j : Nat} {e x : α} (hj : l[j]? = some e) (hx : x ∈ l) (hne : x ≠ e) : x ∈ l.eraseIdx j := by
  rw [List.eraseIdx_eq_take_drop_succ]
  have hl := (List.getElem?_eq_some_iff.1 hj).1
  have : l = l.take j ++ e :: l.drop (j + 1) := by
    have h1 : l.drop j = e :: l.drop (j + 1) := by
      rw [List.drop_eq_getElem_cons hl, (List.getElem?_eq_some_iff.1 hj).2]
    rw [← h1, List.take_append_drop]
  rw [this] at hx
  rcases List.mem_append.1 hx with h | h
  · exact List.mem_append.2 (.inl h)
  · rcases List.mem_cons.1 h with h | h
    · exact absurd h hne
    · exact List.mem_append.2 (.inr h)
theorem not_mem_erase {l : List MapEntry} (h : l.Pairwise (fun x y => x.key ≠ y.key)) {j : Nat} {e : MapEntry} (hj : l[j]? = some e) : e ∉ l.eraseIdx j := by
  rw [List.eraseIdx_eq_take_drop_succ]
  have hl := (List.getElem?_eq_some_iff.1 hj).1
  have h1 : l = l.take j ++ e :: l.drop (j + 1) := by
    have h1 : l.drop j = e :: l.drop (j + 1) := by
      rw [List.drop_eq_getElem_cons hl, (List.getElem?_eq_some_iff.1 hj).2]
    rw [← h1, List.take_append_drop]
  rw [h1] at h
  obtain ⟨_, h2, h3⟩ := List.pairwise_append.1 h
  intro hm
  rcases List.mem_append.1 hm with hm | hm
  · exact h3 e hm e (by simp) rfl
  · exact (List.pairwise_cons.1 h2).1 e hm rfl

section
variable {P : Program} {w : World} {b : Nat} {f : Int → Option (Array Value)} {mt kt et : TypeId}

theorem MapOk.erase {es : List MapEntry} {c : Nat} {f : Int → Option (Array Value)} (ok : MapOk es c f) {j : Nat} {e : MapEntry} (hj : es[j]? = some e) {k : Int} (hk : e.key = .int .i64 k) : MapOk (es.eraseIdx j) c (delF f k) := by
  have sub := List.eraseIdx_sublist es j
  have he := List.mem_of_getElem? hj
  refine ⟨fun x hx => ok.form x (sub.subset hx), ok.keys.sublist sub, ok.born.sublist (sub.map _), fun x hx => ok.lt x (sub.subset hx), fun i v => ?_⟩
  unfold delF
  by_cases hi : i = k
  · subst hi
    rw [if_pos rfl]
    constructor
    · intro h; cases h
    · rintro ⟨x, hx, e1, _⟩
      have := pairwise_at ok.keys (sub.subset hx) he (e1.trans hk.symm)
      subst this
      exact absurd hx (not_mem_erase ok.keys hj)
  · rw [if_neg hi, ok.has]
    constructor
    · rintro ⟨x, hx, e1, e2⟩
      exact ⟨x, mem_erase hj hx (fun q => by subst q; rw [hk] at e1; simp at e1; exact hi e1.symm), e1, e2⟩
    · rintro ⟨x, hx, e1, e2⟩
      exact ⟨x, sub.subset hx, e1, e2⟩

theorem MapAt.delete (h : MapAt w b f) (hm : P.underlying mt = some (.map kt et)) (hk : P.underlying kt = some (.int .i64)) (k : Int) (ty : TypeId) :
    ∃ o, (Builtin.delete_ #[mt, kt] ty #[.map (some b), .int .i64 k]).run P w = .ok (.tuple #[]) (setBlock w b o) ∧ MapAt (setBlock w b o) b (delF f k) := by
  obtain ⟨es, clock, hb, ok⟩ := h
  have hkk : IsKey (.int .i64) (.int .i64 k) := rfl
  rcases findNow_spec hkk es.toList 0 ok.isKey with ⟨h1, h2⟩ | ⟨j, e, h1, h2, h3⟩
  · refine ⟨.map es clock, ?_, es, clock, (heap_set hb).1, ?_⟩
    · simp [Builtin.delete_, run_underlying hm, Go.MapKept.run_getObj_map hb, run_checkKey hk hkk, run_findKey hk h1, run_setObj_map _ hb, Result.andThen, setBlock]
    · have hf : delF f k = f := by
        funext i
        unfold delF
        by_cases hi : i = k
        · rw [if_pos hi, hi]
          cases hf : f k with
          | none => rfl
          | some v =>
            obtain ⟨e, he, hk1, _⟩ := (ok.has k v).1 hf
            exact absurd hk1 (h2 e he)
        · rw [if_neg hi]
      rw [hf]; exact ok
  · refine ⟨.map (es.eraseIdxIfInBounds j) clock, ?_, es.eraseIdxIfInBounds j, clock, (heap_set hb).1, ?_⟩
    · simp [Builtin.delete_, run_underlying hm, Go.MapKept.run_getObj_map hb, run_checkKey hk hkk, run_findKey hk h1, run_setObj_map _ hb, Result.andThen, setBlock]
    · have hlt : j < es.size := by
        have := (List.getElem?_eq_some_iff.1 h2).1
        simpa using this
      have : (es.eraseIdxIfInBounds j).toList = es.toList.eraseIdx j := by
        unfold Array.eraseIdxIfInBounds
        rw [dif_pos hlt, Array.toList_eraseIdx]
      rw [this]
      exact ok.erase h2 h3

theorem MapAt.clear (h : MapAt w b f) (hm : P.underlying mt = some (.map kt et)) (ty : TypeId) :
    ∃ o, (Builtin.clear_ #[mt] ty #[.map (some b)]).run P w = .ok (.tuple #[]) (setBlock w b o) ∧ MapAt (setBlock w b o) b (fun _ => none) := by
  obtain ⟨es, clock, hb, ok⟩ := h
  refine ⟨.map #[] clock, ?_, #[], clock, (heap_set hb).1, mapOk_empty clock⟩
  simp [Builtin.clear_, run_underlying hm, Go.MapKept.run_getObj_map hb, run_setObj_map _ hb, Result.andThen, setBlock]
end

section
variable {ops : Array Oper} {rest : List Oper} {o : Oper} {a : Act} {Q : Exit → Act → World → Prop} {w : World}
theorem wpL_lookG {T E : TypeId} {c : Bool} {z : Array Value} {m x : Operand} {b : Nat} {f : Int → Option (Array Value)} {k : Int} (hT : Try.prog.underlying T = some (.map 3 E)) (hz : ∀ w, (zeroValue E).run Try.prog w = .ok (.agg z) w) (hg : o.guard = none) (ho : o.op = .lookup T m x c) (hm : a.eval m = .map (some b)) (hx : a.eval x = .int .i64 k) (hf : MapAt w b f)
    (h : wpList Try.prog ops Q rest (a.put o.dst (if c then .tuple #[.agg ((f k).getD z), .bool (f k).isSome] else .agg ((f k).getD z))) w) : wpList Try.prog ops Q (o :: rest) a w := by
  refine wpL_value hg ?_ h
  unfold execOp
  rw [ho]
  simp only [hm, hx, Sem.run_bind, hf.lookup (P := Try.prog) hT Try.underlying3 (hz w) k c, Result.andThen_ok, Sem.run_pure]
theorem wpL_delG {T E : TypeId} {m x : Operand} {b : Nat} {f : Int → Option (Array Value)} {k : Int} (hT : Try.prog.underlying T = some (.map 3 E)) (hg : o.guard = none) (ho : o.op = .call { callee := .builtin .delete, args := #[m, x], argTypes := #[T, 3] }) (hm : a.eval m = .map (some b)) (hx : a.eval x = .int .i64 k) (hf : MapAt w b f)
    (h : ∀ ob, MapAt (setBlock w b ob) b (delF f k) → wpList Try.prog ops Q rest (a.put o.dst (.tuple #[])) (setBlock w b ob)) : wpList Try.prog ops Q (o :: rest) a w := by
  obtain ⟨ob, hr, hm'⟩ := hf.delete (P := Try.prog) hT Try.underlying3 k o.type
  refine wpL_value hg ?_ (h ob hm')
  unfold execOp
  simp only [ho, resolve, invoke, builtin, Sem.run_bind, Sem.run_pure, Result.andThen_ok, List.map_toArray, List.map_cons, List.map_nil, hm, hx, hr]
theorem wpL_clearG {T E : TypeId} {m : Operand} {b : Nat} {f : Int → Option (Array Value)} (hT : Try.prog.underlying T = some (.map 3 E)) (hg : o.guard = none) (ho : o.op = .call { callee := .builtin .clear, args := #[m], argTypes := #[T] }) (hm : a.eval m = .map (some b)) (hf : MapAt w b f)
    (h : ∀ ob, MapAt (setBlock w b ob) b (fun _ => none) → wpList Try.prog ops Q rest (a.put o.dst (.tuple #[])) (setBlock w b ob)) : wpList Try.prog ops Q (o :: rest) a w := by
  obtain ⟨ob, hr, hm'⟩ := hf.clear (P := Try.prog) hT o.type
  refine wpL_value hg ?_ (h ob hm')
  unfold execOp
  simp only [ho, resolve, invoke, builtin, Sem.run_bind, Sem.run_pure, Result.andThen_ok, List.map_toArray, List.map_cons, List.map_nil, hm, hr]
end
theorem zero69 (w : World) : (zeroValue 69).run Try.prog w = .ok (.agg Z) w := by kernel_rfl
theorem zero82 (w : World) : (zeroValue 82).run Try.prog w = .ok (.agg #[]) w := by kernel_rfl
end Go.Proofs.Ytoccnaebckcfmaa
