/- What a map keyed by int, whose elements are arrays or structs by value, does at a look-up, a store and a step of a range: said by a function from keys to cells. -/
import Derived.WalkKit
import Derived.Maps.RangeRun
namespace Go.Proofs.Ytoccnaebckcfmaa
open Go.RowKit Go.MapKept
open Go.ChangeMaps (setBlock)

/-- The entries of a map that reads as f. -/
structure MapOk (es : List MapEntry) (clock : Nat) (f : Int → Option (Array Value)) : Prop where
  form : ∀ e ∈ es, ∃ k v, e.key = .int .i64 k ∧ e.val = .agg v
  keys : es.Pairwise (fun x y => x.key ≠ y.key)
  born : (es.map (·.born)).Nodup
  lt : ∀ e ∈ es, e.born < clock
  has : ∀ k v, f k = some v ↔ ∃ e ∈ es, e.key = .int .i64 k ∧ e.val = .agg v

/-- Block b is a map that reads as f. -/
def MapAt (w : World) (b : Nat) (f : Int → Option (Array Value)) : Prop := ∃ es clock, w.heap[b]? = some (.map es clock) ∧ MapOk es.toList clock f

def updF (f : Int → Option (Array Value)) (k : Int) (v : Array Value) : Int → Option (Array Value) := fun j => if j = k then some v else f j

theorem mapAt_congr {w w' : World} {b : Nat} {f : Int → Option (Array Value)} (h : MapAt w b f) (he : w'.heap[b]? = w.heap[b]?) : MapAt w' b f := by
  obtain ⟨es, c, hb, ok⟩ := h
  exact ⟨es, c, he.trans hb, ok⟩

theorem mapAt_lt {w : World} {b : Nat} {f : Int → Option (Array Value)} (h : MapAt w b f) : b < w.heap.size := by
  obtain ⟨es, c, hb, ok⟩ := h
  exact (Array.getElem?_eq_some_iff.1 hb).1

theorem mapOk_empty (c : Nat) : MapOk [] c (fun _ => none) := ⟨by simp, List.Pairwise.nil, by simp, by simp, by simp⟩

theorem mapAt_made (w : World) : MapAt (w.alloc (.map #[] 0)) w.heap.size (fun _ => none) := ⟨#[], 0, by show (w.heap.push _)[w.heap.size]? = _; simp, mapOk_empty 0⟩

theorem MapOk.isKey {es : List MapEntry} {c : Nat} {f : Int → Option (Array Value)} (h : MapOk es c f) : ∀ x ∈ es, IsKey (.int .i64) x.key := fun x hx => by
  obtain ⟨k, v, e, _⟩ := h.form x hx
  rw [e]; rfl

theorem pairwise_at : ∀ {l : List MapEntry}, l.Pairwise (fun x y => x.key ≠ y.key) → ∀ {x y : MapEntry}, x ∈ l → y ∈ l → x.key = y.key → x = y
  | a :: l, h, x, y, hx, hy, e => by
    obtain ⟨h1, h2⟩ := List.pairwise_cons.1 h
    rcases List.mem_cons.1 hx with rfl | hx <;> rcases List.mem_cons.1 hy with rfl | hy
    · rfl
    · exact absurd e (h1 _ hy)
    · exact absurd e.symm (h1 _ (by assumption))
    · exact pairwise_at h2 (by assumption) (by assumption) e

section
variable {P : Program} {w : World} {b : Nat} {f : Int → Option (Array Value)} {mt kt et : TypeId}

theorem MapAt.lookup (h : MapAt w b f) (hm : P.underlying mt = some (.map kt et)) (hk : P.underlying kt = some (.int .i64)) {z : Array Value} (hz : (zeroValue et).run P w = .ok (.agg z) w) (k : Int) (c : Bool) :
    (Instr.lookup mt (.map (some b)) (.int .i64 k) c).run P w = .ok (if c then .tuple #[.agg ((f k).getD z), .bool (f k).isSome] else .agg ((f k).getD z)) w := by
  obtain ⟨es, clock, hb, ok⟩ := h
  have hkk : IsKey (.int .i64) (.int .i64 k) := rfl
  rcases findNow_spec hkk es.toList 0 ok.isKey with ⟨h1, h2⟩ | ⟨j, e, h1, h2, h3⟩
  · have hf : f k = none := by
      cases hf : f k with
      | none => rfl
      | some v =>
        obtain ⟨e, he, hk1, _⟩ := (ok.has k v).1 hf
        exact absurd hk1 (h2 e he)
    simp [Instr.lookup, run_underlying hm, Go.MapKept.run_getObj_map hb, run_checkKey hk hkk, run_findKey hk h1, hz, hf, Result.andThen]
  · have he : e ∈ es.toList := List.mem_of_getElem? h2
    obtain ⟨k', v, ek, ev⟩ := ok.form e he
    have hf : f k = some v := (ok.has k v).2 ⟨e, he, h3, ev⟩
    simp [Instr.lookup, run_underlying hm, Go.MapKept.run_getObj_map hb, run_checkKey hk hkk, run_findKey hk h1, hf, Result.andThen, ev]

theorem modify_mem {es : Array MapEntry} {j : Nat} {e : MapEntry} {g : MapEntry → MapEntry} (hj : es.toList[j]? = some e) (x : MapEntry) (hn : (es.toList.map (·.born)).Nodup) :
    x ∈ (es.modify j g).toList ↔ x = g e ∨ (x ∈ es.toList ∧ x ≠ e) := by
  have hlt : j < es.size := by
    have := (List.getElem?_eq_some_iff.1 hj).1
    simpa using this
  have hej : es[j] = e := by
    have := (List.getElem?_eq_some_iff.1 hj).2
    simpa using this
  rw [List.mem_iff_getElem?]
  constructor
  · rintro ⟨i, hi⟩
    rw [Array.getElem?_toList, Array.getElem?_modify] at hi
    split at hi
    · rename_i hij
      subst hij
      rw [Array.getElem?_eq_getElem hlt] at hi
      simp [hej] at hi
      exact .inl hi.symm
    · rename_i hij
      refine .inr ⟨List.mem_of_getElem? (by rw [Array.getElem?_toList]; exact hi), fun hxe => ?_⟩
      subst hxe
      have hi' : (es.toList.map (·.born))[i]? = some x.born := by rw [List.getElem?_map, Array.getElem?_toList, hi]; rfl
      have hj' : (es.toList.map (·.born))[j]? = some x.born := by rw [List.getElem?_map, hj]; rfl
      have hil := (List.getElem?_eq_some_iff.1 hi')
      have hjl := (List.getElem?_eq_some_iff.1 hj')
      obtain ⟨hil, hil'⟩ := hil
      obtain ⟨hjl, hjl'⟩ := hjl
      rcases Nat.lt_or_gt_of_ne hij with hlt' | hlt'
      · exact List.pairwise_iff_getElem.1 hn j i hjl hil hlt' (hjl'.trans hil'.symm)
      · exact List.pairwise_iff_getElem.1 hn i j hil hjl hlt' (hil'.trans hjl'.symm)
  · rintro (rfl | ⟨hx, hne⟩)
    · exact ⟨j, by rw [Array.getElem?_toList, Array.getElem?_modify, if_pos rfl, Array.getElem?_eq_getElem hlt]; simp [hej]⟩
    · obtain ⟨i, hi⟩ := List.mem_iff_getElem?.1 hx
      have hij : j ≠ i := fun hij => by subst hij; rw [hj] at hi; exact hne (Option.some.inj hi).symm
      exact ⟨i, by rw [Array.getElem?_toList, Array.getElem?_modify, if_neg hij, ← Array.getElem?_toList]; exact hi⟩

theorem modify_map {es : Array MapEntry} {j : Nat} {g : MapEntry → MapEntry} {α : Type} (p : MapEntry → α) (hg : ∀ e, es.toList[j]? = some e → p (g e) = p e) : (es.modify j g).toList.map p = es.toList.map p := by
  apply List.ext_getElem?
  intro i
  rw [List.getElem?_map, List.getElem?_map, Array.getElem?_toList, Array.getElem?_modify]
  split
  · rename_i hij
    subst hij
    rw [← Array.getElem?_toList]
    cases he : es.toList[j]? with
    | none => rfl
    | some e => simp [hg e he]
  · rw [Array.getElem?_toList]

theorem MapAt.update (h : MapAt w b f) (hm : P.underlying mt = some (.map kt et)) (hk : P.underlying kt = some (.int .i64)) (k : Int) (v : Array Value) :
    ∃ o, (Instr.mapUpdate mt (.map (some b)) (.int .i64 k) (.agg v)).run P w = .ok () (setBlock w b o) ∧ MapAt (setBlock w b o) b (updF f k v) := by
  obtain ⟨es, clock, hb, ok⟩ := h
  have hkk : IsKey (.int .i64) (.int .i64 k) := rfl
  rcases findNow_spec hkk es.toList 0 ok.isKey with ⟨h1, h2⟩ | ⟨j, e, h1, h2, h3⟩
  · refine ⟨.map (es.push { key := .int .i64 k, val := .agg v, born := clock }) (clock + 1), ?_, es.push { key := .int .i64 k, val := .agg v, born := clock }, clock + 1, (heap_set hb).1, ?_⟩
    · simp [Instr.mapUpdate, run_underlying hm, Go.MapKept.run_getObj_map hb, run_checkKey hk hkk, run_findKey hk h1, run_setObj_map _ hb, Result.andThen, setBlock]
    · rw [Array.toList_push]
      refine ⟨?_, ?_, ?_, ?_, ?_⟩
      · intro x hx
        rcases List.mem_append.1 hx with hx | hx
        · exact ok.form x hx
        · simp at hx; subst hx; exact ⟨k, v, rfl, rfl⟩
      · refine List.pairwise_append.2 ⟨ok.keys, by simp, fun x hx y hy => ?_⟩
        simp at hy; subst hy; exact h2 x hx
      · rw [List.map_append, List.nodup_append]
        refine ⟨ok.born, by simp, fun x hx y hy => ?_⟩
        simp at hy; subst hy
        obtain ⟨z, hz, rfl⟩ := List.mem_map.1 hx
        exact Nat.ne_of_lt (ok.lt z hz)
      · intro x hx
        rcases List.mem_append.1 hx with hx | hx
        · exact Nat.lt_succ_of_lt (ok.lt x hx)
        · simp at hx; subst hx; exact Nat.lt_succ_self _
      · intro i u
        unfold updF
        by_cases hi : i = k
        · subst hi
          simp only [if_true, Option.some.injEq]
          constructor
          · rintro rfl; exact ⟨{ key := .int .i64 i, val := .agg v, born := clock }, List.mem_append.2 (.inr (by simp)), rfl, rfl⟩
          · rintro ⟨x, hx, e1, e2⟩
            rcases List.mem_append.1 hx with hx | hx
            · exact absurd e1 (h2 x hx)
            · simp at hx; subst hx; simpa using e2
        · rw [if_neg hi, ok.has]
          constructor
          · rintro ⟨x, hx, e1, e2⟩; exact ⟨x, List.mem_append.2 (.inl hx), e1, e2⟩
          · rintro ⟨x, hx, e1, e2⟩
            rcases List.mem_append.1 hx with hx | hx
            · exact ⟨x, hx, e1, e2⟩
            · simp at hx; subst hx; simp at e1; exact absurd e1.symm hi
  · have he : e ∈ es.toList := List.mem_of_getElem? h2
    have hlt : j < es.size := by
      have := (List.getElem?_eq_some_iff.1 h2).1
      simpa using this
    have hej : es[j]? = some e := by rw [← Array.getElem?_toList]; exact h2
    refine ⟨.map (es.modify j fun e => { e with key := .int .i64 k, val := .agg v }) clock, ?_, es.modify j fun e => { e with key := .int .i64 k, val := .agg v }, clock, (heap_set hb).1, ?_⟩
    · simp [Instr.mapUpdate, run_underlying hm, Go.MapKept.run_getObj_map hb, run_checkKey hk hkk, run_findKey hk h1, hej, h3, run_keyThatStays hkk, run_setObj_map _ hb, Result.andThen, setBlock]
    · have hmem := fun x => modify_mem (g := fun e => { e with key := .int .i64 k, val := .agg v }) h2 x ok.born
      refine ⟨?_, ?_, ?_, ?_, ?_⟩
      · intro x hx
        rcases (hmem x).1 hx with rfl | ⟨hx, _⟩
        · exact ⟨k, v, rfl, rfl⟩
        · exact ok.form x hx
      · have := modify_map (es := es) (j := j) (g := fun e => { e with key := .int .i64 k, val := .agg v }) (fun e => e.key) (fun e' he' => by rw [h2] at he'; cases he'; exact h3.symm)
        have hp : (es.toList.map (fun e => e.key)).Pairwise (· ≠ ·) := by rw [List.pairwise_map]; exact ok.keys
        rw [← this, List.pairwise_map] at hp
        exact hp
      · rw [modify_map (es := es) (j := j) (g := fun e => { e with key := .int .i64 k, val := .agg v }) (fun e => e.born) (fun _ _ => rfl)]
        exact ok.born
      · intro x hx
        rcases (hmem x).1 hx with rfl | ⟨hx, _⟩
        · exact ok.lt e he
        · exact ok.lt x hx
      · intro i u
        unfold updF
        by_cases hi : i = k
        · subst hi
          simp only [if_true, Option.some.injEq]
          constructor
          · rintro rfl; exact ⟨_, (hmem _).2 (.inl rfl), rfl, rfl⟩
          · rintro ⟨x, hx, e1, e2⟩
            rcases (hmem x).1 hx with rfl | ⟨hx, hne⟩
            · simpa using e2
            · exact absurd (pairwise_at ok.keys hx he (e1.trans h3.symm)) hne
        · rw [if_neg hi, ok.has]
          constructor
          · rintro ⟨x, hx, e1, e2⟩
            exact ⟨x, (hmem x).2 (.inr ⟨hx, fun q => by subst q; rw [h3] at e1; simp at e1; exact hi e1.symm⟩), e1, e2⟩
          · rintro ⟨x, hx, e1, e2⟩
            rcases (hmem x).1 hx with rfl | ⟨hx, _⟩
            · simp at e1; exact absurd e1.symm hi
            · exact ⟨x, hx, e1, e2⟩

end
end Go.Proofs.Ytoccnaebckcfmaa
