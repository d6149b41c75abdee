/- What a map keyed by int does at delete and clear; look-ups and stores of any such map. The keys of a set of numbers, sorted. A cache in memory; isPinned, and the choice that evict makes. What drop does, by either choice. What end and evict do. What hold does. What hold does, walked. -/
import Derived.Test.YtoccnaebckcfmaaG3
import Derived.Test.YtoccnaebckcfmaaShelf
import Derived.Deep.CutBlock
section
set_option linter.unusedSimpArgs false
set_option linter.unusedVariables false
set_option maxRecDepth 8000
namespace Go.Proofs.Ytoccnaebckcfmaa
open Go.RowKit Go.MapKept
open Go.ChangeMaps (setBlock)

def delF (f : Int → Option (Array Value)) (k : Int) : Int → Option (Array Value) := fun j => if j = k then none else f j

theorem mem_erase {α : Type} {l : List α} {j : Nat} {e x : α} (hj : l[j]? = some e) (hx : x ∈ l) (hne : x ≠ e) : x ∈ l.eraseIdx j := by
  rw [List.eraseIdx_eq_take_drop_succ]
  have hl := (List.getElem?_eq_some_iff.1 hj).1
  have : l = l.take j ++ e :: l.drop (j + 1) := by
    have h1 : l.drop j = e :: l.drop (j + 1) := by
      rw [List.drop_eq_getElem_cons hl, (List.getElem?_eq_some_iff.1 hj).2]
    rw [← h1, List.take_append_drop]
  rw [this] at hx
  rcases List.mem_append.1 hx with h | h
  · exact List.mem_append.2 (.inl h)
  · rcases List.mem_cons.1 h with h | h
    · exact absurd h hne
    · exact List.mem_append.2 (.inr h)
theorem not_mem_erase {l : List MapEntry} (h : l.Pairwise (fun x y => x.key ≠ y.key)) {j : Nat} {e : MapEntry} (hj : l[j]? = some e) : e ∉ l.eraseIdx j := by
  rw [List.eraseIdx_eq_take_drop_succ]
  have hl := (List.getElem?_eq_some_iff.1 hj).1
  have h1 : l = l.take j ++ e :: l.drop (j + 1) := by
    have h1 : l.drop j = e :: l.drop (j + 1) := by
      rw [List.drop_eq_getElem_cons hl, (List.getElem?_eq_some_iff.1 hj).2]
    rw [← h1, List.take_append_drop]
  rw [h1] at h
  obtain ⟨_, h2, h3⟩ := List.pairwise_append.1 h
  intro hm
  rcases List.mem_append.1 hm with hm | hm
  · exact h3 e hm e (by simp) rfl
  · exact (List.pairwise_cons.1 h2).1 e hm rfl

section
variable {P : Program} {w : World} {b : Nat} {f : Int → Option (Array Value)} {mt kt et : TypeId}

theorem MapOk.erase {es : List MapEntry} {c : Nat} {f : Int → Option (Array Value)} (ok : MapOk es c f) {j : Nat} {e : MapEntry} (hj : es[j]? = some e) {k : Int} (hk : e.key = .int .i64 k) : MapOk (es.eraseIdx j) c (delF f k) := by
  have sub := List.eraseIdx_sublist es j
  have he := List.mem_of_getElem? hj
  refine ⟨fun x hx => ok.form x (sub.subset hx), ok.keys.sublist sub, ok.born.sublist (sub.map _), fun x hx => ok.lt x (sub.subset hx), fun i v => ?_⟩
  unfold delF
  by_cases hi : i = k
  · subst hi
    rw [if_pos rfl]
    constructor
    · intro h; cases h
    · rintro ⟨x, hx, e1, _⟩
      have := pairwise_at ok.keys (sub.subset hx) he (e1.trans hk.symm)
      subst this
      exact absurd hx (not_mem_erase ok.keys hj)
  · rw [if_neg hi, ok.has]
    constructor
    · rintro ⟨x, hx, e1, e2⟩
      exact ⟨x, mem_erase hj hx (fun q => by subst q; rw [hk] at e1; simp at e1; exact hi e1.symm), e1, e2⟩
    · rintro ⟨x, hx, e1, e2⟩
      exact ⟨x, sub.subset hx, e1, e2⟩

theorem MapAt.delete (h : MapAt w b f) (hm : P.underlying mt = some (.map kt et)) (hk : P.underlying kt = some (.int .i64)) (k : Int) (ty : TypeId) :
    ∃ o, (Builtin.delete_ #[mt, kt] ty #[.map (some b), .int .i64 k]).run P w = .ok (.tuple #[]) (setBlock w b o) ∧ MapAt (setBlock w b o) b (delF f k) := by
  obtain ⟨es, clock, hb, ok⟩ := h
  have hkk : IsKey (.int .i64) (.int .i64 k) := rfl
  rcases findNow_spec hkk es.toList 0 ok.isKey with ⟨h1, h2⟩ | ⟨j, e, h1, h2, h3⟩
  · refine ⟨.map es clock, ?_, es, clock, (heap_set hb).1, ?_⟩
    · simp [Builtin.delete_, run_underlying hm, Go.MapKept.run_getObj_map hb, run_checkKey hk hkk, run_findKey hk h1, run_setObj_map _ hb, Result.andThen, setBlock]
    · have hf : delF f k = f := by
        funext i
        unfold delF
        by_cases hi : i = k
        · rw [if_pos hi, hi]
          cases hf : f k with
          | none => rfl
          | some v =>
            obtain ⟨e, he, hk1, _⟩ := (ok.has k v).1 hf
            exact absurd hk1 (h2 e he)
        · rw [if_neg hi]
      rw [hf]; exact ok
  · refine ⟨.map (es.eraseIdxIfInBounds j) clock, ?_, es.eraseIdxIfInBounds j, clock, (heap_set hb).1, ?_⟩
    · simp [Builtin.delete_, run_underlying hm, Go.MapKept.run_getObj_map hb, run_checkKey hk hkk, run_findKey hk h1, run_setObj_map _ hb, Result.andThen, setBlock]
    · have hlt : j < es.size := by
        have := (List.getElem?_eq_some_iff.1 h2).1
        simpa using this
      have : (es.eraseIdxIfInBounds j).toList = es.toList.eraseIdx j := by
        unfold Array.eraseIdxIfInBounds
        rw [dif_pos hlt, Array.toList_eraseIdx]
      rw [this]
      exact ok.erase h2 h3

theorem MapAt.clear (h : MapAt w b f) (hm : P.underlying mt = some (.map kt et)) (ty : TypeId) :
    ∃ o, (Builtin.clear_ #[mt] ty #[.map (some b)]).run P w = .ok (.tuple #[]) (setBlock w b o) ∧ MapAt (setBlock w b o) b (fun _ => none) := by
  obtain ⟨es, clock, hb, ok⟩ := h
  refine ⟨.map #[] clock, ?_, #[], clock, (heap_set hb).1, mapOk_empty clock⟩
  simp [Builtin.clear_, run_underlying hm, Go.MapKept.run_getObj_map hb, run_setObj_map _ hb, Result.andThen, setBlock]
end

section
variable {ops : Array Oper} {rest : List Oper} {o : Oper} {a : Act} {Q : Exit → Act → World → Prop} {w : World}
theorem wpL_lookG {T E : TypeId} {c : Bool} {z : Array Value} {m x : Operand} {b : Nat} {f : Int → Option (Array Value)} {k : Int} (hT : Try.prog.underlying T = some (.map 3 E)) (hz : ∀ w, (zeroValue E).run Try.prog w = .ok (.agg z) w) (hg : o.guard = none) (ho : o.op = .lookup T m x c) (hm : a.eval m = .map (some b)) (hx : a.eval x = .int .i64 k) (hf : MapAt w b f)
    (h : wpList Try.prog ops Q rest (a.put o.dst (if c then .tuple #[.agg ((f k).getD z), .bool (f k).isSome] else .agg ((f k).getD z))) w) : wpList Try.prog ops Q (o :: rest) a w := by
  refine wpL_value hg ?_ h
  unfold execOp
  rw [ho]
  simp only [hm, hx, Sem.run_bind, hf.lookup (P := Try.prog) hT Try.underlying3 (hz w) k c, Result.andThen_ok, Sem.run_pure]
theorem wpL_delG {T E : TypeId} {m x : Operand} {b : Nat} {f : Int → Option (Array Value)} {k : Int} (hT : Try.prog.underlying T = some (.map 3 E)) (hg : o.guard = none) (ho : o.op = .call { callee := .builtin .delete, args := #[m, x], argTypes := #[T, 3] }) (hm : a.eval m = .map (some b)) (hx : a.eval x = .int .i64 k) (hf : MapAt w b f)
    (h : ∀ ob, MapAt (setBlock w b ob) b (delF f k) → wpList Try.prog ops Q rest (a.put o.dst (.tuple #[])) (setBlock w b ob)) : wpList Try.prog ops Q (o :: rest) a w := by
  obtain ⟨ob, hr, hm'⟩ := hf.delete (P := Try.prog) hT Try.underlying3 k o.type
  refine wpL_value hg ?_ (h ob hm')
  unfold execOp
  simp only [ho, resolve, invoke, builtin, Sem.run_bind, Sem.run_pure, Result.andThen_ok, List.map_toArray, List.map_cons, List.map_nil, hm, hx, hr]
theorem wpL_clearG {T E : TypeId} {m : Operand} {b : Nat} {f : Int → Option (Array Value)} (hT : Try.prog.underlying T = some (.map 3 E)) (hg : o.guard = none) (ho : o.op = .call { callee := .builtin .clear, args := #[m], argTypes := #[T] }) (hm : a.eval m = .map (some b)) (hf : MapAt w b f)
    (h : ∀ ob, MapAt (setBlock w b ob) b (fun _ => none) → wpList Try.prog ops Q rest (a.put o.dst (.tuple #[])) (setBlock w b ob)) : wpList Try.prog ops Q (o :: rest) a w := by
  obtain ⟨ob, hr, hm'⟩ := hf.clear (P := Try.prog) hT o.type
  refine wpL_value hg ?_ (h ob hm')
  unfold execOp
  simp only [ho, resolve, invoke, builtin, Sem.run_bind, Sem.run_pure, Result.andThen_ok, List.map_toArray, List.map_cons, List.map_nil, hm, hr]
end
theorem zero69 (w : World) : (zeroValue 69).run Try.prog w = .ok (.agg Z) w := by kernel_rfl
theorem zero82 (w : World) : (zeroValue 82).run Try.prog w = .ok (.agg #[]) w := by kernel_rfl
end Go.Proofs.Ytoccnaebckcfmaa
end

section
set_option linter.unusedSimpArgs false
set_option linter.unusedVariables false
set_option maxRecDepth 8000
namespace Go.Proofs.Ytoccnaebckcfmaa
open Go.RowKit Go.Maps Go.Sort Go.Shelf Go.MapKept
open Go.WideElems (Fit rg)

/-- slices.Sort's two contracts, at the fence that asks nothing. -/
theorem sortsA (m : Nat) : AnyZI.SortsIn Try.prog Try.sortedA_ren Fence.wide m :=
  ⟨fun blk off cap ss W hH hblk hsz => callsIn_wide.2 (AnyM.slices_Sort_int Try.sortA blk off cap ss W hH hblk hsz),
   fun p cap W => callsIn_wide.2 (AnyM.slices_Sort_int_none Try.sortA p cap W)⟩

def relU (_ : Value) : Option (DataW Unit × List MemPlace) := some (.nil, [])

theorem wf_small {x : Int} (h0 : 0 ≤ x) (h1 : x < 8192) : (Lit.int .i64 x).wf = true := by
  simp [Lit.wf, IntKind.min, IntKind.max, IntKind.signed, IntKind.bits]
  omega

theorem owns_of {w : World} {b : Nat} {pin : List Int} (h : MapAt w b (setF pin)) (hn : pin.Nodup) (hw : ∀ x ∈ pin, 0 ≤ x ∧ x < 8192) (hl : pin.length ≤ 8192) :
    ∃ D0 : DataW Unit, w.ownsMap Try.prog 3 relU b pin.length D0 ∧ pin.Perm (intKeys D0) := by
  obtain ⟨es, clock, hb, ok⟩ := h
  have key : ∀ e ∈ es.toList, ∃ k, e.key = .int .i64 k ∧ k ∈ pin ∧ rg Try.prog 3 relU e = (.int .i64 k, .nil) := fun e he => by
    obtain ⟨k, v, h1, h2⟩ := ok.form e he
    have hp : k ∈ pin := by
      have := (ok.has k v).2 ⟨e, he, h1, h2⟩
      unfold setF at this
      split at this
      · assumption
      · cases this
    have hkey := Maps.keyOf_int_mk (P := Try.prog) Try.underlying3 (wf_small (hw k hp).1 (hw k hp).2)
    refine ⟨k, h1, hp, ?_⟩
    unfold rg WideElems.rd
    rw [h1, hkey]
    rfl
  have hsz : es.size ≤ pin.length := by
    have : (es.toList.map (fun e => RowKit.intOf e.key)).length ≤ pin.length := by
      refine length_le_of_nodup ?_ (fun x hx => ?_)
      · rw [List.nodup_iff_pairwise_ne, List.pairwise_map]
        refine ok.keys.imp_of_mem fun {x y} hx hy hne he => ?_
        obtain ⟨kx, h1, _⟩ := key x hx
        obtain ⟨ky, h2, _⟩ := key y hy
        rw [h1, h2] at he hne
        exact hne (by simp [RowKit.intOf] at he; rw [he])
      · obtain ⟨e, he, rfl⟩ := List.mem_map.1 hx
        obtain ⟨k, h1, h2, _⟩ := key e he
        rw [h1]
        exact h2
    simpa using this
  have hown : w.ownsMap Try.prog 3 relU b pin.length (.map ((es.toList.map (rg Try.prog 3 relU)).foldr DataW.insert [])) := by
    refine ⟨es, clock, hb, ⟨by unfold maxLen; omega, ⟨?_, ?_⟩, fun x hx => ?_⟩, hsz, rfl⟩
    · intro x hx
      exact ok.lt x (by simpa using hx)
    · have := (stamped_iff es clock).2 ⟨ok.lt, ok.born, ok.keys⟩
      exact this.2
    · obtain ⟨k, h1, h2, _⟩ := key x hx
      have hkey := Maps.keyOf_int_mk (P := Try.prog) Try.underlying3 (wf_small (hw k h2).1 (hw k h2).2)
      unfold WideElems.rd
      rw [h1, hkey]
      exact ⟨_, rfl⟩
  refine ⟨_, hown, ?_⟩
  obtain ⟨es', hD, hpw, _⟩ := hown.entries (Maps.int_keyed Try.underlying3)
  simp only [DataW.map.injEq] at hD
  rw [hD]
  refine perm_intKeys hpw (fun p hp => ?_) hn (fun x => ?_)
  · rw [← hD] at hp
    obtain ⟨e, he, rfl⟩ := List.mem_map.1 (mem_sorted.1 hp)
    obtain ⟨k, _, _, h3⟩ := key e he
    exact ⟨k, by rw [h3]⟩
  · rw [has_eq, List.any_eq_true, ← hD]
    constructor
    · intro hx
      obtain ⟨e, he, hk, _⟩ := (ok.has x #[]).1 (by simp [setF, hx])
      obtain ⟨k, h1, h2, h3⟩ := key e he
      rw [hk] at h1
      simp at h1
      subst h1
      exact ⟨_, mem_sorted.2 (List.mem_map.2 ⟨e, he, rfl⟩), by rw [h3]; simp [Lit.sameKey]⟩
    · rintro ⟨p, hp, hs⟩
      obtain ⟨e, he, rfl⟩ := List.mem_map.1 (mem_sorted.1 hp)
      obtain ⟨k, h1, h2, h3⟩ := key e he
      rw [h3] at hs
      simp [Lit.sameKey] at hs
      exact hs ▸ h2

theorem keys_any (mb : Option Nat) (w : World) : Calls Try.prog 75 #[.map mb] w fun e w' => e = .returned (.func (.func 89) #[] #[.pointer (some ⟨w.heap.size, 0, none⟩)]) ∧ w' = w.alloc (.cells #[.map mb] 72) :=
  (callsIn_wide (n := 5)).1 (AnyZI.keys_in Try.keysA Fence.wide 5 trivial rfl mb w)

def sorted (l : List Int) : List Int := l.mergeSort (fun x y => decide (x ≤ y))

theorem sorted_any {w : World} {Bm b : Nat} {pin : List Int} (h : MapAt w b (setF pin)) (hn : pin.Nodup) (hw : ∀ x ∈ pin, 0 ≤ x ∧ x < 8192) (hl : pin.length ≤ 8192) (hB : w.cell? ⟨Bm, 0, none⟩ = some (.map (some b))) (hBl : Bm < w.heap.size) :
    Calls Try.prog 74 #[.func (.func 89) #[] #[.pointer (some ⟨Bm, 0, none⟩)]] w fun e w' => ∃ v, e = .returned v ∧ w'.ownsRow w.heap.size 3 1 v pin.length ((sorted pin).map (Value.int .i64)) ∧ Only [] w w' := by
  obtain ⟨D0, hown, hperm⟩ := owns_of h hn hw hl
  have hsz := hown.size_le
  have hseq : SeqGives Fence.wide 2 Try.prog 89 #[.pointer (some ⟨Bm, 0, none⟩)] encZ (fun ss => ss.Perm (intKeys D0)) (Maps.size D0) w :=
    AnyZI.keys_gives (ρ := Try.keysA_ren) { Try.keysA with } Fence.wide _ trivial rfl (by omega) Bm b pin.length D0 _ hBl hB hown
  have cS := AnyZI.sorted_in Try.sortedA Fence.wide 5 trivial trivial trivial trivial rfl (by omega) (sortsA _) (enters_of Try.func88 (by kernel_rfl) rfl) 89 #[.pointer (some ⟨Bm, 0, none⟩)] trivial (enters_of Try.func89 (by kernel_rfl) rfl) _ _ (by unfold maxLen; omega) (by omega) _ hseq
  change CallsIn _ _ Try.prog 74 _ _ _ at cS
  refine ((callsIn_wide (n := 5)).1 cS).mono ?_
  rintro e w' ⟨v, ss, rfl, hS, hrow, hnil, hb⟩
  have hp : ss.Perm pin := hS.trans hperm.symm
  refine ⟨v, rfl, ?_, ⟨hb.os, hb.tape, hb.output, hb.size, fun k hk _ => hb.block k hk⟩⟩
  rw [hp.length_eq, mergeSort_of_perm_i hp] at hrow
  exact hrow

end Go.Proofs.Ytoccnaebckcfmaa
end

section
set_option linter.unusedSimpArgs false
set_option linter.unusedVariables false
set_option maxRecDepth 8000
namespace Go.Proofs.Ytoccnaebckcfmaa
open Go.RowKit
open Go.ChangeMaps (setBlock)

structure CaS where
  most : Int
  opn : Bool
  miss : Int
  held : Int → Option (Array Value)
  ord : List Int
  pin : List Int

structure CaOk (C : CaS) : Prop where
  nd : C.ord.Nodup
  hd : ∀ k, (C.held k).isSome = true ↔ k ∈ C.ord
  sec : ∀ k v, C.held k = some v → SecOk v
  pn : C.pin.Nodup
  ps : ∀ k ∈ C.pin, k ∈ C.ord
  rg : ∀ k ∈ C.ord, 0 ≤ k ∧ k < 8192
  m0 : 1 ≤ C.most
  m1 : C.most ≤ 9223372036854775807
  i0 : 0 ≤ C.miss
  i1 : C.miss ≤ 1000000000

theorem small_len {l : List Int} (hn : l.Nodup) (h : ∀ k ∈ l, 0 ≤ k ∧ k < 8192) : l.length ≤ 8192 := by
  have := length_le_of_nodup (ks := (List.range 8192).map (fun i : Nat => (i : Int))) hn (fun x hx => by
    have := h x hx
    exact List.mem_map.2 ⟨x.toNat, List.mem_range.2 (by omega), by omega⟩)
  simpa using this
theorem CaOk.len {C : CaS} (h : CaOk C) : C.ord.length ≤ 8192 := small_len h.nd h.rg
theorem CaOk.plen {C : CaS} (h : CaOk C) : C.pin.length ≤ C.ord.length := length_le_of_nodup h.pn h.ps

def pp (x : Nat) : Value := .pointer (some ⟨x, 0, none⟩)
def crow (d wb : Nat) (C : CaS) (hm pm : Nat) (ov : Value) : Array Value := #[pp d, pp wb, .int .i64 C.most, .bool C.opn, .int .i64 C.miss, .map (some hm), ov, .map (some pm)]

structure CIs (w : World) (cb d wb hm pm : Nat) (ov : Value) (C : CaS) : Prop where
  row : w.heap[cb]? = some (.cells (crow d wb C hm pm ov) 74 (0, 0))
  held : MapAt w hm C.held
  pinned : MapAt w pm (setF C.pin)
  ord : w.ownsRow 0 3 1 ov C.ord.length (C.ord.map (Value.int .i64))
  ne : hm ≠ pm

def cfoot (cb hm pm : Nat) (ov : Value) : List Nat := cb :: hm :: pm :: ov.ownBlock.toList

section
variable {w w' : World} {cb d wb hm pm : Nat} {ov : Value} {C : CaS}

theorem CIs.cells (h : CIs w cb d wb hm pm ov C) : w.cell? ⟨cb, 0, none⟩ = some (pp d) ∧ w.cell? ⟨cb, 1, none⟩ = some (pp wb) ∧ w.cell? ⟨cb, 2, none⟩ = some (.int .i64 C.most) ∧ w.cell? ⟨cb, 3, none⟩ = some (.bool C.opn) ∧ w.cell? ⟨cb, 4, none⟩ = some (.int .i64 C.miss) ∧
    w.cell? ⟨cb, 5, none⟩ = some (.map (some hm)) ∧ w.cell? ⟨cb, 6, none⟩ = some ov ∧ w.cell? ⟨cb, 7, none⟩ = some (.map (some pm)) ∧ ∀ j, w.frozen? ⟨cb, j, none⟩ = false := by
  have hb := h.row
  refine ⟨?_, ?_, ?_, ?_, ?_, ?_, ?_, ?_, fun j => by simp [World.frozen?, hb]⟩ <;> (rw [cell_of_row _ _ _ _ _ _ hb]; rfl)

theorem CIs.slice (h : CIs w cb d wb hm pm ov C) : ∃ a cap, ov = .slice a C.ord.length cap ∧ C.ord.length ≤ cap ∧ cap ≤ 9223372036854775807 := by
  rcases h.ord.2 with ⟨e, hn⟩ | ⟨g, cap, cur, e, _, _, h1, h2, _⟩
  · exact ⟨none, 0, by rw [e, hn], by omega, by omega⟩
  · exact ⟨_, cap, e, h1, by unfold maxLen at h2; omega⟩

/-- The block of the order, if there is one. -/
theorem CIs.oblk (h : CIs w cb d wb hm pm ov C) {g : Nat} (hg : ov.ownBlock = some g) : ∃ cap cur, ov = .slice (some ⟨g, 0, none⟩) C.ord.length cap ∧ w.heap[g]? = some (.cells cur 3 (0, 0)) ∧ C.ord.length ≤ cap ∧ cap ≤ 9223372036854775807 ∧ cur.size = cap ∧ cur.toList.take C.ord.length = C.ord.map (Value.int .i64) := by
  rcases h.ord.2 with ⟨e, hn⟩ | ⟨g', cap, cur, e, _, hh, h1, h2, h3, h4⟩
  · rw [e] at hg; cases hg
  · rw [e] at hg
    simp [Value.ownBlock] at hg
    subst hg
    exact ⟨cap, cur, e, hh, h1, by unfold maxLen at h2; omega, by omega, by simpa using h4⟩

theorem CIs.apart (h : CIs w cb d wb hm pm ov C) : cb ≠ hm ∧ cb ≠ pm ∧ hm ≠ pm ∧ (∀ g, ov.ownBlock = some g → g ≠ cb ∧ g ≠ hm ∧ g ≠ pm) := by
  obtain ⟨es, c, hh, _⟩ := h.held
  obtain ⟨es', c', hp, _⟩ := h.pinned
  have hr := h.row
  refine ⟨fun e => (by rw [e, hh] at hr; cases hr), fun e => (by rw [e, hp] at hr; cases hr), h.ne, fun g hg => ?_⟩
  obtain ⟨cap, cur, _, hb, _⟩ := h.oblk hg
  exact ⟨fun e => (by rw [e, hr] at hb; simp at hb), fun e => (by rw [e, hh] at hb; cases hb), fun e => (by rw [e, hp] at hb; cases hb)⟩

theorem CIs.lt (h : CIs w cb d wb hm pm ov C) : ∀ x ∈ cfoot cb hm pm ov, x < w.heap.size := by
  intro x hx
  simp only [cfoot, List.mem_cons, Option.mem_toList] at hx
  rcases hx with rfl | rfl | rfl | hx
  · exact (Array.getElem?_eq_some_iff.1 h.row).1
  · exact mapAt_lt h.held
  · exact mapAt_lt h.pinned
  · obtain ⟨cap, cur, _, hb, _⟩ := h.oblk hx
    exact (Array.getElem?_eq_some_iff.1 hb).1

theorem CIs.congr (h : CIs w cb d wb hm pm ov C) (he : ∀ x ∈ cfoot cb hm pm ov, w'.heap[x]? = w.heap[x]?) : CIs w' cb d wb hm pm ov C :=
  ⟨(he cb (by simp [cfoot])).trans h.row, mapAt_congr h.held (he hm (by simp [cfoot])), mapAt_congr h.pinned (he pm (by simp [cfoot])), ownsRow_congr' h.ord (fun g hg => he g (by simp [cfoot, hg])), h.ne⟩
theorem CIs.only (h : CIs w cb d wb hm pm ov C) {G : List Nat} (ho : Only G w w') (hG : ∀ x ∈ cfoot cb hm pm ov, x ∉ G) : CIs w' cb d wb hm pm ov C := h.congr (fun x hx => ho.block x (h.lt x hx) (hG x hx))
end

section
variable {ops : Array Oper} {rest : List Oper} {o : Oper} {a : Act} {Q : Exit → Act → World → Prop} {w : World}
theorem wpL_valueW {P : Program} {v : Value} {w' : World} (hg : Region.wanted o (yielded ops a.tmps) = true) (hr : (execOp a.eval o).run P w = .ok (.value v) w') (h : wpList P ops Q rest (a.put o.dst v) w') : wpList P ops Q (o :: rest) a w :=
  Go.BigFrame.wpList_want hg fun K hK => by unfold Oper.wp; rw [hr]; exact hK _ _ h
/-- A new variable of several cells, and the first store into it. -/
theorem wpL_alloc0 {t : TypeId} {c : Array Value} (hz : ∀ w, (zeroValue t).run Try.prog w = .ok (.agg c) w) (hg : o.guard = none) (ho : o.op = .alloc t) (h : wpList Try.prog ops Q rest (a.put o.dst (.pointer (some ⟨w.heap.size, 0, none⟩))) (w.alloc (.cells c t))) : wpList Try.prog ops Q (o :: rest) a w := by
  refine wpL_value hg ?_ h
  unfold execOp
  rw [ho]
  simp only [Instr.alloc, Sem.run_bind, hz, Result.andThen, newVar, newRow, Value.cells]
  rfl
theorem wpL_store0 {t : TypeId} {c c' : Array Value} {n : Nat} {x y : Operand} (hi : (Try.prog.info? t).map (·.size) = some n) (hc : c.size = n) (hc' : c'.size = n) (h1 : c'.all (·.oneCell') = true) (hg : o.guard = none) (ho : o.op = .store t x y) (hx : a.eval x = .pointer (some ⟨w.heap.size, 0, none⟩)) (hy : a.eval y = .agg c')
    (h : wpList Try.prog ops Q rest (a.put o.dst undef) (w.alloc (.cells c' t))) : wpList Try.prog ops Q (o :: rest) a (w.alloc (.cells c t)) := by
  refine wpL_skip hg ?_ h
  unfold execOp
  rw [ho]
  simp only [hx, hy, Sem.run_bind, run_storeAt_new (P := Try.prog) w t c c' (by rw [hi, hc']) (by rw [hc, hc']) h1, Result.andThen]
  rfl
end
theorem info82 : (Try.prog.info? 82).map (·.size) = some 0 := by kernel_rfl
theorem info69 : (Try.prog.info? 69).map (·.size) = some 64 := by kernel_rfl

theorem setF_some (l : List Int) (i : Int) : (setF l i).isSome = decide (i ∈ l) := by unfold setF; split <;> simp [*]
theorem setF_get (l : List Int) (i : Int) : (setF l i).getD #[] = #[] := by unfold setF; split <;> rfl

set_option maxHeartbeats 1000000 in
theorem isPinned_raw {w : World} {cb pm : Nat} {pin : List Int} (hc : w.cell? ⟨cb, 7, none⟩ = some (.map (some pm))) (hm : MapAt w pm (setF pin)) (i : Int) :
    Calls Try.prog 52 #[pp cb, .int .i64 i] w fun e w' => e = .returned (.bool (decide (i ∈ pin))) ∧ w' = w.alloc (.cells #[] 82) := by
  have HM := Lib.hid hm
  have e1 := setF_some pin i
  have e2 := setF_get pin i
  clear hm
  show Calls Try.prog 52 #[.pointer (some ⟨cb, 0, none⟩), .int .i64 i] w _
  go_enter Try.func52, Try.ntmps52
  go_wp2_with (first | (refine wpL_lookG Try.underlying72 zero82 rfl rfl rfl rfl HM.out ?_; simp only [if_true, e1, e2]) | (refine wpL_alloc0 zero82 rfl rfl ?_) | (refine wpL_store0 info82 rfl rfl rfl rfl rfl rfl rfl ?_))
  go_ret
  exact ⟨rfl, rfl⟩

/-- What evict's choice does: ex: how many are too much. -/
def evPick (ex : Int) (pin : List Int) (i : Int) : Bool := decide (ex ≠ 0 ∧ i ∉ pin)

def EvPost (eb : Nat) (ex : Int) (pin : List Int) (i : Int) (w : World) (e : Ending) (w' : World) : Prop :=
  e = .returned (.bool (evPick ex pin i)) ∧ w'.heap[eb]? = some (.cells #[.int .i64 (if evPick ex pin i then ex - 1 else ex)] 3 (0, 0)) ∧ Only [eb] w w'

set_option maxHeartbeats 1000000 in
theorem evict1_raw {w : World} {cb pm eb xb : Nat} {pin : List Int} {ex : Int} (hc : w.cell? ⟨cb, 7, none⟩ = some (.map (some pm))) (hm : MapAt w pm (setF pin)) (hx : w.heap[xb]? = some (.cells #[pp cb] 26 (0, 0))) (he : w.heap[eb]? = some (.cells #[.int .i64 ex] 3 (0, 0))) (h0 : 0 ≤ ex) (h1 : ex ≤ 1000000) (i : Int) :
    Calls Try.prog 69 #[.int .i64 i, pp eb, pp xb] w fun e w' => EvPost eb ex pin i w e w' := by
  have cx : w.cell? ⟨xb, 0, none⟩ = some (.pointer (some ⟨cb, 0, none⟩)) := by rw [cell_of_row _ _ _ _ _ _ hx]; rfl
  have ce : w.cell? ⟨eb, 0, none⟩ = some (.int .i64 ex) := by rw [cell_of_row _ _ _ _ _ _ he]; rfl
  have fe : w.frozen? ⟨eb, 0, none⟩ = false := by simp [World.frozen?, he]
  have hlt := (Array.getElem?_eq_some_iff.1 he).1
  have PI := Lib.hid (isPinned_raw hc hm i)
  have HE := Lib.hid he
  clear hm hx he hc
  show Calls Try.prog 69 #[.int .i64 i, .pointer (some ⟨eb, 0, none⟩), .pointer (some ⟨xb, 0, none⟩)] w _
  by_cases hz : ex = 0
  · subst hz
    go_enter Try.func69, Try.ntmps69
    go_wp2
    go_ret
    exact ⟨by simp [evPick], by simpa [evPick] using HE.out, Only.refl _ _⟩
  · have hzb : (ex == 0) = false := by simp [hz]
    by_cases hp : i ∈ pin
    · rw [decide_eq_true hp] at PI
      go_enter Try.func69, Try.ntmps69
      go_wp2_with (go_at_call 52; refine PI.out.mono ?_; rintro e w' ⟨rfl, rfl⟩)
      go_ret
      exact ⟨by simp [evPick, hp], by rw [Below.heap_alloc _ _ _ hlt]; simpa [evPick, hp] using HE.out, (Only.refl _ _).alloc _⟩
    · rw [decide_eq_false hp] at PI
      go_enter Try.func69, Try.ntmps69
      go_wp2_with (go_at_call 52; refine PI.out.mono ?_; rintro e w' ⟨rfl, rfl⟩)
      go_ret
      refine ⟨by simp [evPick, hp, hz], ?_, ((Only.refl [eb] w).setCell (p := ⟨eb, 0, none⟩) (.inl (by simp)) _).alloc _⟩
      rw [Below.heap_alloc _ _ _ (by simpa using hlt), heap_setCell_row HE.out]
      simp [evPick, hp, hz]

end Go.Proofs.Ytoccnaebckcfmaa
end

section
set_option linter.unusedSimpArgs false
set_option linter.unusedVariables false
set_option maxRecDepth 8000
namespace Go.Proofs.Ytoccnaebckcfmaa
open Go.RowKit
open Go.ChangeMaps (setBlock)

def pickD (m : Bool) (pin : List Int) (ex x : Int) : Bool := if m then evPick ex pin x else decide (x ∈ pin)
def stepD (m : Bool) (pin : List Int) (s : List Int × Int) (x : Int) : List Int × Int := if pickD m pin s.2 x then (s.1, s.2 - 1) else (s.1 ++ [x], s.2)
def runD (m : Bool) (pin l : List Int) (ex : Int) : List Int × Int := l.foldl (stepD m pin) ([], ex)

theorem runD_snoc (m : Bool) (pin l : List Int) (ex x : Int) : runD m pin (l ++ [x]) ex = stepD m pin (runD m pin l ex) x := by simp [runD]
theorem runD_nil (m : Bool) (pin : List Int) (ex : Int) : runD m pin [] ex = ([], ex) := rfl

/-- By lists that grow at their end. -/
theorem snoc_ind {P : List Int → Prop} (h0 : P []) (h1 : ∀ l x, P l → P (l ++ [x])) (l : List Int) : P l := by
  rw [← List.reverse_reverse l]
  induction l.reverse with
  | nil => exact h0
  | cons x l ih => rw [List.reverse_cons]; exact h1 _ _ ih

theorem runD_len (m : Bool) (pin : List Int) (ex : Int) (l : List Int) : (runD m pin l ex).1.length ≤ l.length := by
  refine snoc_ind (P := fun l => (runD m pin l ex).1.length ≤ l.length) (by simp [runD_nil]) (fun l x ih => ?_) l
  rw [runD_snoc, stepD]
  split
  · simp; omega
  · simp; omega
theorem runD_sub (m : Bool) (pin : List Int) (ex : Int) (l : List Int) : (runD m pin l ex).1.Sublist l := by
  refine snoc_ind (P := fun l => (runD m pin l ex).1.Sublist l) (by simp [runD_nil]) (fun l x ih => ?_) l
  rw [runD_snoc, stepD]
  split
  · exact ih.trans (List.sublist_append_left _ _)
  · exact List.Sublist.append ih (List.Sublist.refl _)
theorem runD_ex (pin : List Int) {ex : Int} (h : 0 ≤ ex) (l : List Int) : 0 ≤ (runD true pin l ex).2 ∧ (runD true pin l ex).2 ≤ ex := by
  refine snoc_ind (P := fun l => 0 ≤ (runD true pin l ex).2 ∧ (runD true pin l ex).2 ≤ ex) (by simp [runD_nil, h]) (fun l x ih => ?_) l
  rw [runD_snoc, stepD]
  split
  · rename_i hp
    simp [pickD, evPick] at hp
    simp only
    omega
  · exact ih
theorem runD_pin {pin : List Int} {ex : Int} {l : List Int} {x : Int} (hx : x ∈ l) (hp : x ∈ pin) : x ∈ (runD true pin l ex).1 := by
  revert hx
  refine snoc_ind (P := fun l => x ∈ l → x ∈ (runD true pin l ex).1) (by simp) (fun l y ih hx => ?_) l
  rw [runD_snoc, stepD]
  rcases List.mem_append.1 hx with h | h
  · split
    · exact ih h
    · exact List.mem_append.2 (.inl (ih h))
  · simp at h
    subst h
    rw [if_neg (by simp [pickD, evPick, hp])]
    simp
theorem runD_drop (pin : List Int) (ex : Int) (l : List Int) : (runD false pin l ex).1 = l.filter (fun x => !decide (x ∈ pin)) := by
  refine snoc_ind (P := fun l => (runD false pin l ex).1 = l.filter (fun x => !decide (x ∈ pin))) (by simp [runD_nil]) (fun l y ih => ?_) l
  rw [runD_snoc, stepD, List.filter_append, ← ih]
  by_cases hy : y ∈ pin
  · simp [pickD, hy]
  · simp [pickD, hy]

def cutF (held : Int → Option (Array Value)) (l K : List Int) : Int → Option (Array Value) := fun k => if k ∈ l ∧ k ∉ K then none else held k
theorem cutF_nil (held : Int → Option (Array Value)) : cutF held [] [] = held := by funext k; simp [cutF]
theorem cutF_pick {held : Int → Option (Array Value)} {l K : List Int} {x : Int} (hx : x ∉ l) (hK : ∀ y ∈ K, y ∈ l) : delF (cutF held l K) x = cutF held (l ++ [x]) K := by
  funext k
  unfold delF cutF
  by_cases hk : k = x
  · subst hk
    have : k ∉ K := fun h => hx (hK k h)
    simp [this]
  · simp [hk]
theorem cutF_keep {held : Int → Option (Array Value)} {l K : List Int} {x : Int} (hx : x ∉ l) : cutF held l K = cutF held (l ++ [x]) (K ++ [x]) := by
  funext k
  unfold cutF
  by_cases hk : k = x
  · subst hk
    simp [hx]
  · simp [hk]

def DropPost (cb d wb hm pm : Nat) (ov : Value) (C : CaS) (m : Bool) (ex : Int) (E : List Nat) (w : World) (e : Ending) (w' : World) : Prop :=
  e = .returned (.tuple #[]) ∧ ∃ ov', ov'.ownBlock = ov.ownBlock ∧ CIs w' cb d wb hm pm ov' { C with ord := (runD m C.pin C.ord ex).1, held := cutF C.held C.ord (runD m C.pin C.ord ex).1 } ∧ Only (E ++ cfoot cb hm pm ov) w w'

theorem info3s : (Try.prog.info? 3).map (fun i => i.size) = some 1 := by kernel_rfl
theorem run_append_in {w : World} {g n cap : Nat} {cur : Array Value} {x : Int} (hg : w.heap[g]? = some (.cells cur 3 (0, 0))) (hs : cur.size = cap) (hn : n < cap) (ty : TypeId) :
    (Builtin.append_ #[40, 40] ty #[.slice (some ⟨g, 0, none⟩) n cap, .slice (some ⟨w.heap.size, 0, none⟩) 1 1]).run Try.prog (w.alloc (.cells #[.int .i64 x] 3)) =
      .ok (.slice (some ⟨g, 0, none⟩) (n + 1) cap) ((w.alloc (.cells #[.int .i64 x] 3)).setRow g (cur.toList.take n ++ Value.int .i64 x :: cur.toList.drop (n + 1)).toArray) := by
  have hlt := (Array.getElem?_eq_some_iff.1 hg).1
  obtain ⟨i, hi, hz⟩ : ∃ i, Try.prog.info? 3 = some i ∧ i.size = 1 := by
    have := info3s
    cases h : Try.prog.info? 3 with
    | none => rw [h] at this; cases this
    | some i => rw [h] at this; exact ⟨i, rfl, by simpa using this⟩
  have hg' : (w.alloc (.cells #[.int .i64 x] 3)).heap[g]? = some (.cells cur 3 (0, 0)) := by rw [Below.heap_alloc _ _ _ hlt]; exact hg
  have := run_append_room (P := Try.prog) (w.alloc (.cells #[.int .i64 x] 3)) 40 ty 3 i Try.underlying40 hi g n cap cur hg' ⟨w.heap.size, 0, none⟩ 1 1 [.int .i64 x] (by simp [hz]) (fun j u hu => by
    have hj : j = 0 := by have := (List.getElem?_eq_some_iff.1 hu).1; simp at this; omega
    subst hj
    simp at hu
    subst hu
    rw [Addr.add_mid, cell_of_row _ _ _ _ _ _ (heap_alloc_last w (.cells #[.int .i64 x] 3))]
    rfl) (by simp [Value.oneCell']) (by omega) (by simp [hz]; omega)
  simpa [hz] using this
theorem heap_setRow_same {w : World} {g : Nat} {cs cs' : Array Value} {t : TypeId} {fr : Nat × Nat} (h : w.heap[g]? = some (.cells cs t fr)) : (w.setRow g cs').heap[g]? = some (.cells cs' t fr) := by
  obtain ⟨hlt, hk⟩ := Array.getElem?_eq_some_iff.1 h
  unfold World.setRow
  simp only
  rw [Array.getElem?_eq_getElem (by rw [Array.size_modify]; exact hlt), Array.getElem_modify_self, hk]
theorem heap_setRow_ne (w : World) (g : Nat) (cs : Array Value) {x : Nat} (h : x ≠ g) : (w.setRow g cs).heap[x]? = w.heap[x]? := by
  unfold World.setRow
  simp only
  rw [Array.getElem?_modify]
  simp [Ne.symm h]
theorem size_setRow (w : World) (g : Nat) (cs : Array Value) : (w.setRow g cs).heap.size = w.heap.size := by
  unfold World.setRow; simp
theorem Only.setRow {F : List Nat} {a b : World} (h : Only F a b) {g : Nat} (hp : g ∈ F ∨ a.heap.size ≤ g) (cs : Array Value) : Only F a (b.setRow g cs) :=
  ⟨h.os, h.tape, h.output, by rw [size_setRow]; exact h.size, fun k hk hn => by
    rw [heap_setRow_ne _ _ _ (fun e => by subst e; rcases hp with h | h; exact hn h; omega)]
    exact h.block k hk hn⟩

/-- Within drop, i sectors having been asked for. -/
structure DropAt_ev (w wr : World) (cb d wb hm pm g cap n : Nat) (ov : Value) (C : CaS) (ex : Int) (eb xb : Nat) (i : Nat) (cur : Array Value) : Prop where
  row : wr.heap[cb]? = some (.cells (crow d wb C hm pm ov) 74 (0, 0))
  held : MapAt wr hm (cutF C.held (C.ord.take i) (runD true C.pin (C.ord.take i) ex).1)
  pinned : MapAt wr pm (setF C.pin)
  blk : wr.heap[g]? = some (.cells cur 3 (0, 0))
  size : cur.size = cap
  kept : cur.toList.take (runD true C.pin (C.ord.take i) ex).1.length = (runD true C.pin (C.ord.take i) ex).1.map (Value.int .i64)
  rest : ∀ t x, i ≤ t → C.ord[t]? = some x → cur[t]? = some (.int .i64 x)
  eblk : wr.heap[eb]? = some (.cells #[.int .i64 (runD true C.pin (C.ord.take i) ex).2] 3 (0, 0))
  xblk : wr.heap[xb]? = some (.cells #[pp cb] 26 (0, 0))
  only : Only ([eb] ++ cfoot cb hm pm ov) w wr

/-- Within drop, i sectors having been asked for. -/
structure DropAt_pin (w wr : World) (cb d wb hm pm g cap n : Nat) (ov : Value) (C : CaS) (ex : Int) (i : Nat) (cur : Array Value) : Prop where
  row : wr.heap[cb]? = some (.cells (crow d wb C hm pm ov) 74 (0, 0))
  held : MapAt wr hm (cutF C.held (C.ord.take i) (runD false C.pin (C.ord.take i) ex).1)
  pinned : MapAt wr pm (setF C.pin)
  blk : wr.heap[g]? = some (.cells cur 3 (0, 0))
  size : cur.size = cap
  kept : cur.toList.take (runD false C.pin (C.ord.take i) ex).1.length = (runD false C.pin (C.ord.take i) ex).1.map (Value.int .i64)
  rest : ∀ t x, i ≤ t → C.ord[t]? = some x → cur[t]? = some (.int .i64 x)
  only : Only ([] ++ cfoot cb hm pm ov) w wr

set_option maxHeartbeats 4000000 in
theorem drop_pin {w : World} {cb d wb hm pm : Nat} {ov : Value} {C : CaS} (h : CIs w cb d wb hm pm ov C) (hnd : C.ord.Nodup) (hlen : C.ord.length ≤ 8192) :
    Calls Try.prog 51 #[pp cb, .func (.func 52) #[pp cb] #[]] w fun e w' => DropPost cb d wb hm pm ov C false 0 [] w e w' := by
  obtain ⟨c0, c1, c2, c3, c4, c5, c6, c7, fz⟩ := h.cells
  obtain ⟨a1, a2, a3, a4⟩ := h.apart
  show Calls Try.prog 51 #[.pointer (some ⟨cb, 0, none⟩), .func (.func 52) #[pp cb] #[]] w _
  have h0 := h
  rcases h.ord.2 with ⟨e, hn⟩ | ⟨g, cap, cur, e, _, hh, h1, h2, h3, h4⟩
  · have hnil : C.ord = [] := List.eq_nil_of_length_eq_zero hn
    subst e
    have H0 := Lib.hid h0
    have f6 := fz 6
    clear h h0 fz
    go_enter Try.func51, Try.ntmps51
    go_wp2
    go_loopw [17, 4] (fun j c wr => j = .int .i64 0 ∧ c = .slice none 0 0 ∧ wr = w) (fun _ _ _ => 0)
    case atStart => exact ⟨rfl, rfl, rfl⟩
    case round =>
      obtain ⟨rfl, rfl, rfl⟩ := hrel
      have hl0 : ¬ ((0 : Int) < (C.ord.length : Int)) := by omega
      go_wp2
      go_end0
      have hr0 : (runD false C.pin C.ord 0).1 = C.ord := by rw [hnil]; rfl
      have hc0 : cutF C.held C.ord C.ord = C.held := by funext k; simp [cutF]
      refine ⟨rfl, .slice none 0 0, rfl, ?_, (Only.refl _ _).setCell (p := ⟨cb, 6, none⟩) (.inl (by simp [cfoot])) _⟩
      rw [hr0, hc0]
      have hH := H0.out
      refine ⟨?_, mapAt_congr hH.held (Below.heap_setCell _ _ _ _ (by simpa using Ne.symm a1)), mapAt_congr hH.pinned (Below.heap_setCell _ _ _ _ (by simpa using Ne.symm a2)), ownsRow_congr' hH.ord (fun g hg => by cases hg), hH.ne⟩
      rw [heap_setCell_row hH.row]
      simp [crow]
  · subst e
    have hsz : cur.size = cap := by omega
    have h4' : cur.toList.take C.ord.length = C.ord.map (Value.int .i64) := by simpa using h4
    have hcap : (cap : Int) ≤ 9223372036854775807 := by unfold maxLen at h2; omega
    obtain ⟨g1, g2, g3⟩ := a4 g rfl
    have st : DropAt_pin w w cb d wb hm pm g cap C.ord.length (.slice (some ⟨g, 0, none⟩) C.ord.length cap) C 0 0 cur := by
      refine ⟨h0.row, ?_, h0.pinned, hh, hsz, ?_, fun t x _ hx => ?_, Only.refl _ _⟩
      · rw [List.take_zero, runD_nil, cutF_nil]; exact h0.held
      · rw [List.take_zero, runD_nil]; rfl
      · have hlt := (List.getElem?_eq_some_iff.1 hx).1
        have := congrArg (·[t]?) h4'
        simp only [List.getElem?_take_of_lt hlt, List.getElem?_map, hx, Option.map_some] at this
        rw [← this, Array.getElem?_toList]
    have ST := Lib.hid st
    have f6 := fz 6
    clear h h0 fz st hh h4 h4' 
    go_enter Try.func51, Try.ntmps51
    go_wp2
    go_loopw [17, 4] (fun j c wr => ∃ (i : Nat) (cur : Array Value), i ≤ C.ord.length ∧ j = .int .i64 i ∧ c = .slice (some ⟨g, 0, none⟩) (runD false C.pin (C.ord.take i) 0).1.length cap ∧ DropAt_pin w wr cb d wb hm pm g cap C.ord.length (.slice (some ⟨g, 0, none⟩) C.ord.length cap) C 0 i cur) (fun j _ _ => C.ord.length - (RowKit.intOf j).toNat)
    case atStart => exact ⟨0, cur, by omega, rfl, by rw [List.take_zero, runD_nil]; rfl, ST.out⟩
    case round =>
      clear ST hsz
      obtain ⟨i, cur, hi, rfl, rfl, hD⟩ := hrel
      have hkl := runD_len false C.pin 0 (C.ord.take i)
      have hsub := runD_sub false C.pin 0 (C.ord.take i)
      rw [List.length_take, Nat.min_eq_left hi] at hkl
      have ltg := (Array.getElem?_eq_some_iff.1 hD.blk).1
      have ltc := (Array.getElem?_eq_some_iff.1 hD.row).1
      have lth := mapAt_lt hD.held
      have ltp := mapAt_lt hD.pinned
      by_cases hil : i < C.ord.length
      · obtain ⟨x, hx⟩ : ∃ x, C.ord[i]? = some x := ⟨_, List.getElem?_eq_getElem hil⟩
        have htk : C.ord.take (i + 1) = C.ord.take i ++ [x] := by rw [List.take_add_one, hx]; rfl
        have hxn : x ∉ C.ord.take i := by
          have := hnd
          rw [← List.take_append_drop (i + 1) C.ord, htk] at this
          have h1 := (List.nodup_append.1 this).1
          exact fun hm => (List.nodup_append.1 h1).2.2 x hm x (by simp) rfl
        have cx : wr.cell? ⟨g, i, none⟩ = some (.int .i64 x) := by rw [cell_of_row _ _ _ _ _ _ hD.blk]; exact hD.rest i x (Nat.le_refl _) hx
        have c7 : wr.cell? ⟨cb, 7, none⟩ = some (.map (some pm)) := by rw [cell_of_row _ _ _ _ _ _ hD.row]; rfl
        have PI := Lib.hid (isPinned_raw c7 hD.pinned x)
        have HD := Lib.hid hD
        clear hD c7 c5 c6
        go_wp2_with fail
        refine PI.out.mono ?_
        rintro e w1 ⟨rfl, rfl⟩
        have o1 : Only [] wr (wr.alloc (.cells #[] 82)) := (Only.refl [] wr).alloc _
        generalize wr.alloc (.cells #[] 82) = w1 at *
        have r1 : w1.heap[cb]? = some (.cells (crow d wb C hm pm (.slice (some ⟨g, 0, none⟩) C.ord.length cap)) 74 (0, 0)) := (o1.block cb ltc (by simp)).trans HD.out.row
        have m1 := mapAt_congr HD.out.held (o1.block hm lth (by simp))
        have p1 := mapAt_congr HD.out.pinned (o1.block pm ltp (by simp))
        have b1 : w1.heap[g]? = some (.cells cur 3 (0, 0)) := (o1.block g ltg (by simp)).trans HD.out.blk
        skip
        have O1 := HD.out.only.trans o1 (fun y hy => .inl (List.mem_append_left _ hy))
        have c51 : w1.cell? ⟨cb, 5, none⟩ = some (.map (some hm)) := by rw [cell_of_row _ _ _ _ _ _ r1]; rfl
        have hrs : runD false C.pin (C.ord.take (i + 1)) 0 = stepD false C.pin (runD false C.pin (C.ord.take i) 0) x := by rw [htk, runD_snoc]
        by_cases hpk : decide (x ∈ C.pin) = true
        · have M1 := Lib.hid m1
          have hst : runD false C.pin (C.ord.take (i + 1)) 0 = ((runD false C.pin (C.ord.take i) 0).1, (runD false C.pin (C.ord.take i) 0).2 - 1) := by rw [hrs, stepD, if_pos (by simpa [pickD] using hpk)]
          have R1 := Lib.hid r1
          have P1 := Lib.hid p1
          have B1 := Lib.hid b1
          have OO := Lib.hid O1
          skip
          have HST := Lib.hid hst
          have HTK := Lib.hid htk
          clear r1 m1 p1 b1 O1 o1 hst hrs htk cx
          rw [hpk]
          go_wp2_with (refine wpL_delG Try.underlying71 rfl rfl rfl rfl M1.out ?_; intro ob hob)
          go_roundw
          case rel =>
            refine ⟨i + 1, cur, by omega, by go_num, by rw [HST.out], ?_⟩
            have hn1 : ∀ y, y ≠ hm → (setBlock w1 hm ob).heap[y]? = w1.heap[y]? := fun y hy => heap_setBlock_ne w1 hm ob hy
            refine ⟨(hn1 cb a1).trans R1.out, ?_, mapAt_congr P1.out (hn1 pm (Ne.symm a3)), (hn1 g g2).trans B1.out, HD.out.size, by rw [HST.out]; exact HD.out.kept, fun t y ht hy => HD.out.rest t y (by omega) hy, OO.out.setBlock (.inl (by simp [cfoot])) _⟩
            rw [HST.out, HTK.out, ← cutF_pick hxn (fun y hy => hsub.subset hy)]
            exact hob
          case measure => simp [RowKit.intOf]; omega
        · have hst : runD false C.pin (C.ord.take (i + 1)) 0 = ((runD false C.pin (C.ord.take i) 0).1 ++ [x], (runD false C.pin (C.ord.take i) 0).2) := by rw [hrs, stepD, if_neg (by simpa [pickD] using hpk)]
          have hpf : decide (x ∈ C.pin) = false := by simpa using hpk
          have RUN := Lib.hid (run_append_in (x := x) b1 HD.out.size (n := (runD false C.pin (C.ord.take i) 0).1.length) (by omega) 40)
          have R1 := Lib.hid r1
          have M1 := Lib.hid m1
          have P1 := Lib.hid p1
          have B1 := Lib.hid b1
          have OO := Lib.hid O1
          skip
          have HST := Lib.hid hst
          have HTK := Lib.hid htk
          have hsz1 := o1.size
          clear r1 m1 p1 b1 O1 o1 hst hrs htk cx
          rw [hpf]
          go_wp2_with (refine wpL_value rfl (run_builtin_append rfl rfl rfl RUN.out) ?_)
          go_roundw
          case rel =>
            refine ⟨i + 1, (cur.toList.take (runD false C.pin (C.ord.take i) 0).1.length ++ Value.int .i64 x :: cur.toList.drop ((runD false C.pin (C.ord.take i) 0).1.length + 1)).toArray, by omega, by go_num, by rw [HST.out]; simp, ?_⟩
            have hal : ∀ y, y < wr.heap.size → y ≠ g → ∀ cs, (((w1.alloc (.cells #[.int .i64 x] 3)).setRow g cs).heap[y]?) = w1.heap[y]? := fun y hy hyg cs => by
              rw [heap_setRow_ne _ _ _ hyg, Below.heap_alloc _ _ _ (by omega)]
            have hb2 : (w1.alloc (.cells #[.int .i64 x] 3)).heap[g]? = some (.cells cur 3 (0, 0)) := by rw [Below.heap_alloc _ _ _ (by omega)]; exact B1.out
            have hsz2 := HD.out.size
            refine ⟨(hal cb ltc (Ne.symm g1) _).trans R1.out, ?_, mapAt_congr P1.out (hal pm ltp (Ne.symm g3) _), heap_setRow_same hb2, ?_, ?_, fun t y ht hy => ?_, (OO.out.alloc _).setRow (.inl (by simp [cfoot, Value.ownBlock])) _⟩
            · rw [HST.out, HTK.out, ← cutF_keep hxn]
              exact mapAt_congr M1.out (hal hm lth (Ne.symm g2) _)
            · simp; omega
            · rw [HST.out]
              simp only [List.toList_toArray, List.length_append, List.length_singleton, List.map_append, List.map_cons, List.map_nil]
              rw [List.append_cons, List.take_append_of_le_length (by simp; omega), List.take_of_length_le (by simp; omega), HD.out.kept]
            · have hty := HD.out.rest t y (by omega) hy
              rw [← Array.getElem?_toList] at hty
              simp only [List.getElem?_toArray]
              rw [List.append_cons, List.getElem?_append_right (by simp; omega), List.getElem?_drop]
              rw [← hty]
              congr 1
              simp
              omega
          case measure => simp [RowKit.intOf]; omega
      · have hiL : i = C.ord.length := by omega
        subst hiL
        have c6' : wr.cell? ⟨cb, 6, none⟩ = some (.slice (some ⟨g, 0, none⟩) C.ord.length cap) := by rw [cell_of_row _ _ _ _ _ _ hD.row]; rfl
        have f6' : wr.frozen? ⟨cb, 6, none⟩ = false := by simp [World.frozen?, hD.row]
        have HD := Lib.hid hD
        clear hD c6 f6
        go_wp2
        go_end0
        have hH := HD.out
        have hhel := hH.held
        have hkept := hH.kept
        rw [List.take_length] at hhel hkept hkl hsub
        refine ⟨rfl, .slice (some ⟨g, 0, none⟩) (runD false C.pin C.ord 0).1.length cap, rfl, ?_, hH.only.setCell (p := ⟨cb, 6, none⟩) (.inl (by simp [cfoot])) _⟩
        refine ⟨?_, mapAt_congr hhel (Below.heap_setCell _ _ _ _ (by simpa using Ne.symm a1)), mapAt_congr hH.pinned (Below.heap_setCell _ _ _ _ (by simpa using Ne.symm a2)), ⟨by simp, .inr ⟨g, cap, cur, rfl, Nat.zero_le _, (Below.heap_setCell _ _ _ _ (by simpa using g1)).trans hH.blk, by simp only; omega, h2, by have := hH.size; omega, by simpa using hkept⟩⟩, a3⟩
        rw [heap_setCell_row hH.row]
        simp [crow]

set_option maxHeartbeats 4000000 in
theorem drop_ev {w : World} {cb d wb hm pm eb xb : Nat} {ov : Value} {C : CaS} {ex : Int} (h : CIs w cb d wb hm pm ov C) (hnd : C.ord.Nodup) (hlen : C.ord.length ≤ 8192) (he : w.heap[eb]? = some (.cells #[.int .i64 ex] 3 (0, 0))) (hx : w.heap[xb]? = some (.cells #[pp cb] 26 (0, 0))) (hebF : eb ∉ cfoot cb hm pm ov) (hxbF : xb ∉ cfoot cb hm pm ov) (hex : eb ≠ xb) (h0x : 0 ≤ ex) (h1x : ex ≤ 1000000) :
    Calls Try.prog 51 #[pp cb, .func (.func 69) #[] #[pp eb, pp xb]] w fun e w' => DropPost cb d wb hm pm ov C true ex [eb] w e w' := by
  obtain ⟨c0, c1, c2, c3, c4, c5, c6, c7, fz⟩ := h.cells
  obtain ⟨a1, a2, a3, a4⟩ := h.apart
  show Calls Try.prog 51 #[.pointer (some ⟨cb, 0, none⟩), .func (.func 69) #[] #[pp eb, pp xb]] w _
  have h0 := h
  rcases h.ord.2 with ⟨e, hn⟩ | ⟨g, cap, cur, e, _, hh, h1, h2, h3, h4⟩
  · have hnil : C.ord = [] := List.eq_nil_of_length_eq_zero hn
    subst e
    have H0 := Lib.hid h0
    have f6 := fz 6
    clear h h0 fz
    go_enter Try.func51, Try.ntmps51
    go_wp2
    go_loopw [17, 4] (fun j c wr => j = .int .i64 0 ∧ c = .slice none 0 0 ∧ wr = w) (fun _ _ _ => 0)
    case atStart => exact ⟨rfl, rfl, rfl⟩
    case round =>
      obtain ⟨rfl, rfl, rfl⟩ := hrel
      have hl0 : ¬ ((0 : Int) < (C.ord.length : Int)) := by omega
      go_wp2
      go_end0
      have hr0 : (runD true C.pin C.ord ex).1 = C.ord := by rw [hnil]; rfl
      have hc0 : cutF C.held C.ord C.ord = C.held := by funext k; simp [cutF]
      refine ⟨rfl, .slice none 0 0, rfl, ?_, (Only.refl _ _).setCell (p := ⟨cb, 6, none⟩) (.inl (by simp [cfoot])) _⟩
      rw [hr0, hc0]
      have hH := H0.out
      refine ⟨?_, mapAt_congr hH.held (Below.heap_setCell _ _ _ _ (by simpa using Ne.symm a1)), mapAt_congr hH.pinned (Below.heap_setCell _ _ _ _ (by simpa using Ne.symm a2)), ownsRow_congr' hH.ord (fun g hg => by cases hg), hH.ne⟩
      rw [heap_setCell_row hH.row]
      simp [crow]
  · subst e
    have hsz : cur.size = cap := by omega
    have h4' : cur.toList.take C.ord.length = C.ord.map (Value.int .i64) := by simpa using h4
    have hcap : (cap : Int) ≤ 9223372036854775807 := by unfold maxLen at h2; omega
    obtain ⟨g1, g2, g3⟩ := a4 g rfl
    have st : DropAt_ev w w cb d wb hm pm g cap C.ord.length (.slice (some ⟨g, 0, none⟩) C.ord.length cap) C ex eb xb 0 cur := by
      refine ⟨h0.row, ?_, h0.pinned, hh, hsz, ?_, fun t x _ hx => ?_, by rw [List.take_zero, runD_nil]; exact he, hx, Only.refl _ _⟩
      · rw [List.take_zero, runD_nil, cutF_nil]; exact h0.held
      · rw [List.take_zero, runD_nil]; rfl
      · have hlt := (List.getElem?_eq_some_iff.1 hx).1
        have := congrArg (·[t]?) h4'
        simp only [List.getElem?_take_of_lt hlt, List.getElem?_map, hx, Option.map_some] at this
        rw [← this, Array.getElem?_toList]
    have ST := Lib.hid st
    have f6 := fz 6
    clear h h0 fz st hh h4 h4' he hx
    go_enter Try.func51, Try.ntmps51
    go_wp2
    go_loopw [17, 4] (fun j c wr => ∃ (i : Nat) (cur : Array Value), i ≤ C.ord.length ∧ j = .int .i64 i ∧ c = .slice (some ⟨g, 0, none⟩) (runD true C.pin (C.ord.take i) ex).1.length cap ∧ DropAt_ev w wr cb d wb hm pm g cap C.ord.length (.slice (some ⟨g, 0, none⟩) C.ord.length cap) C ex eb xb i cur) (fun j _ _ => C.ord.length - (RowKit.intOf j).toNat)
    case atStart => exact ⟨0, cur, by omega, rfl, by rw [List.take_zero, runD_nil]; rfl, ST.out⟩
    case round =>
      clear ST hsz
      obtain ⟨i, cur, hi, rfl, rfl, hD⟩ := hrel
      have hkl := runD_len true C.pin ex (C.ord.take i)
      have hsub := runD_sub true C.pin ex (C.ord.take i)
      rw [List.length_take, Nat.min_eq_left hi] at hkl
      have ltg := (Array.getElem?_eq_some_iff.1 hD.blk).1
      have ltc := (Array.getElem?_eq_some_iff.1 hD.row).1
      have lth := mapAt_lt hD.held
      have ltp := mapAt_lt hD.pinned
      by_cases hil : i < C.ord.length
      · obtain ⟨x, hx⟩ : ∃ x, C.ord[i]? = some x := ⟨_, List.getElem?_eq_getElem hil⟩
        have htk : C.ord.take (i + 1) = C.ord.take i ++ [x] := by rw [List.take_add_one, hx]; rfl
        have hxn : x ∉ C.ord.take i := by
          have := hnd
          rw [← List.take_append_drop (i + 1) C.ord, htk] at this
          have h1 := (List.nodup_append.1 this).1
          exact fun hm => (List.nodup_append.1 h1).2.2 x hm x (by simp) rfl
        have cx : wr.cell? ⟨g, i, none⟩ = some (.int .i64 x) := by rw [cell_of_row _ _ _ _ _ _ hD.blk]; exact hD.rest i x (Nat.le_refl _) hx
        have c7 : wr.cell? ⟨cb, 7, none⟩ = some (.map (some pm)) := by rw [cell_of_row _ _ _ _ _ _ hD.row]; rfl
        have ltx := (Array.getElem?_eq_some_iff.1 hD.xblk).1
        have lte := (Array.getElem?_eq_some_iff.1 hD.eblk).1
        have hexi := runD_ex C.pin h0x (C.ord.take i)
        have EV := Lib.hid (evict1_raw c7 hD.pinned hD.xblk hD.eblk hexi.1 (by omega) x)
        have HD := Lib.hid hD
        clear hD c7 c5 c6
        go_wp2_with fail
        refine EV.out.mono ?_
        rintro e w1 ⟨rfl, he1, o1⟩
        have r1 : w1.heap[cb]? = some (.cells (crow d wb C hm pm (.slice (some ⟨g, 0, none⟩) C.ord.length cap)) 74 (0, 0)) := (o1.block cb ltc (by simp [cfoot] at hebF ⊢; omega)).trans HD.out.row
        have m1 := mapAt_congr HD.out.held (o1.block hm lth (by simp [cfoot] at hebF ⊢; omega))
        have p1 := mapAt_congr HD.out.pinned (o1.block pm ltp (by simp [cfoot] at hebF ⊢; omega))
        have b1 : w1.heap[g]? = some (.cells cur 3 (0, 0)) := (o1.block g ltg (by simp [cfoot, Value.ownBlock] at hebF ⊢; omega)).trans HD.out.blk
        have x1 : w1.heap[xb]? = some (.cells #[pp cb] 26 (0, 0)) := (o1.block xb ltx (by simpa using Ne.symm hex)).trans HD.out.xblk
        have O1 := HD.out.only.trans o1 (fun y hy => .inl (List.mem_append_left _ hy))
        have c51 : w1.cell? ⟨cb, 5, none⟩ = some (.map (some hm)) := by rw [cell_of_row _ _ _ _ _ _ r1]; rfl
        have hrs : runD true C.pin (C.ord.take (i + 1)) ex = stepD true C.pin (runD true C.pin (C.ord.take i) ex) x := by rw [htk, runD_snoc]
        by_cases hpk : evPick (runD true C.pin (C.ord.take i) ex).2 C.pin x = true
        · have M1 := Lib.hid m1
          have hst : runD true C.pin (C.ord.take (i + 1)) ex = ((runD true C.pin (C.ord.take i) ex).1, (runD true C.pin (C.ord.take i) ex).2 - 1) := by rw [hrs, stepD, if_pos (by simpa [pickD] using hpk)]
          have R1 := Lib.hid r1
          have P1 := Lib.hid p1
          have B1 := Lib.hid b1
          have OO := Lib.hid O1
          have X1 := Lib.hid x1
          have E1 := Lib.hid he1
          have HST := Lib.hid hst
          have HTK := Lib.hid htk
          clear r1 m1 p1 b1 O1 o1 hst hrs htk cx
          rw [hpk]
          go_wp2_with (refine wpL_delG Try.underlying71 rfl rfl rfl rfl M1.out ?_; intro ob hob)
          go_roundw
          case rel =>
            refine ⟨i + 1, cur, by omega, by go_num, by rw [HST.out], ?_⟩
            have hn1 : ∀ y, y ≠ hm → (setBlock w1 hm ob).heap[y]? = w1.heap[y]? := fun y hy => heap_setBlock_ne w1 hm ob hy
            refine ⟨(hn1 cb a1).trans R1.out, ?_, mapAt_congr P1.out (hn1 pm (Ne.symm a3)), (hn1 g g2).trans B1.out, HD.out.size, by rw [HST.out]; exact HD.out.kept, fun t y ht hy => HD.out.rest t y (by omega) hy, by rw [HST.out]; exact (hn1 eb (by simp [cfoot] at hebF; omega)).trans (by have := E1.out; rw [if_pos hpk] at this; exact this), (hn1 xb (by simp [cfoot] at hxbF; omega)).trans X1.out, OO.out.setBlock (.inl (by simp [cfoot])) _⟩
            rw [HST.out, HTK.out, ← cutF_pick hxn (fun y hy => hsub.subset hy)]
            exact hob
          case measure => simp [RowKit.intOf]; omega
        · have hst : runD true C.pin (C.ord.take (i + 1)) ex = ((runD true C.pin (C.ord.take i) ex).1 ++ [x], (runD true C.pin (C.ord.take i) ex).2) := by rw [hrs, stepD, if_neg (by simpa [pickD] using hpk)]
          have hpf : evPick (runD true C.pin (C.ord.take i) ex).2 C.pin x = false := by simpa using hpk
          have RUN := Lib.hid (run_append_in (x := x) b1 HD.out.size (n := (runD true C.pin (C.ord.take i) ex).1.length) (by omega) 40)
          have R1 := Lib.hid r1
          have M1 := Lib.hid m1
          have P1 := Lib.hid p1
          have B1 := Lib.hid b1
          have OO := Lib.hid O1
          have X1 := Lib.hid x1
          have E1 := Lib.hid he1
          have HST := Lib.hid hst
          have HTK := Lib.hid htk
          have hsz1 := o1.size
          clear r1 m1 p1 b1 O1 o1 hst hrs htk cx
          rw [hpf]
          go_wp2_with (refine wpL_value rfl (run_builtin_append rfl rfl rfl RUN.out) ?_)
          go_roundw
          case rel =>
            refine ⟨i + 1, (cur.toList.take (runD true C.pin (C.ord.take i) ex).1.length ++ Value.int .i64 x :: cur.toList.drop ((runD true C.pin (C.ord.take i) ex).1.length + 1)).toArray, by omega, by go_num, by rw [HST.out]; simp, ?_⟩
            have hal : ∀ y, y < wr.heap.size → y ≠ g → ∀ cs, (((w1.alloc (.cells #[.int .i64 x] 3)).setRow g cs).heap[y]?) = w1.heap[y]? := fun y hy hyg cs => by
              rw [heap_setRow_ne _ _ _ hyg, Below.heap_alloc _ _ _ (by omega)]
            have hb2 : (w1.alloc (.cells #[.int .i64 x] 3)).heap[g]? = some (.cells cur 3 (0, 0)) := by rw [Below.heap_alloc _ _ _ (by omega)]; exact B1.out
            have hsz2 := HD.out.size
            refine ⟨(hal cb ltc (Ne.symm g1) _).trans R1.out, ?_, mapAt_congr P1.out (hal pm ltp (Ne.symm g3) _), heap_setRow_same hb2, ?_, ?_, fun t y ht hy => ?_, by rw [HST.out]; exact (hal eb lte (by simp [cfoot, Value.ownBlock] at hebF; omega) _).trans (by have := E1.out; rw [if_neg hpk] at this; exact this), (hal xb ltx (by simp [cfoot, Value.ownBlock] at hxbF; omega) _).trans X1.out, (OO.out.alloc _).setRow (.inl (by simp [cfoot, Value.ownBlock])) _⟩
            · rw [HST.out, HTK.out, ← cutF_keep hxn]
              exact mapAt_congr M1.out (hal hm lth (Ne.symm g2) _)
            · simp; omega
            · rw [HST.out]
              simp only [List.toList_toArray, List.length_append, List.length_singleton, List.map_append, List.map_cons, List.map_nil]
              rw [List.append_cons, List.take_append_of_le_length (by simp; omega), List.take_of_length_le (by simp; omega), HD.out.kept]
            · have hty := HD.out.rest t y (by omega) hy
              rw [← Array.getElem?_toList] at hty
              simp only [List.getElem?_toArray]
              rw [List.append_cons, List.getElem?_append_right (by simp; omega), List.getElem?_drop]
              rw [← hty]
              congr 1
              simp
              omega
          case measure => simp [RowKit.intOf]; omega
      · have hiL : i = C.ord.length := by omega
        subst hiL
        have c6' : wr.cell? ⟨cb, 6, none⟩ = some (.slice (some ⟨g, 0, none⟩) C.ord.length cap) := by rw [cell_of_row _ _ _ _ _ _ hD.row]; rfl
        have f6' : wr.frozen? ⟨cb, 6, none⟩ = false := by simp [World.frozen?, hD.row]
        have HD := Lib.hid hD
        clear hD c6 f6
        go_wp2
        go_end0
        have hH := HD.out
        have hhel := hH.held
        have hkept := hH.kept
        rw [List.take_length] at hhel hkept hkl hsub
        refine ⟨rfl, .slice (some ⟨g, 0, none⟩) (runD true C.pin C.ord ex).1.length cap, rfl, ?_, hH.only.setCell (p := ⟨cb, 6, none⟩) (.inl (by simp [cfoot])) _⟩
        refine ⟨?_, mapAt_congr hhel (Below.heap_setCell _ _ _ _ (by simpa using Ne.symm a1)), mapAt_congr hH.pinned (Below.heap_setCell _ _ _ _ (by simpa using Ne.symm a2)), ⟨by simp, .inr ⟨g, cap, cur, rfl, Nat.zero_le _, (Below.heap_setCell _ _ _ _ (by simpa using g1)).trans hH.blk, by simp only; omega, h2, by have := hH.size; omega, by simpa using hkept⟩⟩, a3⟩
        rw [heap_setCell_row hH.row]
        simp [crow]
end Go.Proofs.Ytoccnaebckcfmaa
end

section
set_option linter.unusedSimpArgs false
set_option linter.unusedVariables false
set_option maxRecDepth 8000
namespace Go.Proofs.Ytoccnaebckcfmaa
open Go.RowKit
open Go.ChangeMaps (setBlock)

section
variable {o : Oper} {a : Act} {w : World}
theorem run_field74 {x : Operand} {b k : Nat} (hk : k < 8) (ho : o.op = .fieldAddr 74 x k) (hx : a.eval x = .pointer (some ⟨b, 0, none⟩)) :
    ∀ w, (execOp a.eval o).run Try.prog w = .ok (.value (.pointer (some ⟨b, k, none⟩))) w := by
  intro w
  have : k = 0 ∨ k = 1 ∨ k = 2 ∨ k = 3 ∨ k = 4 ∨ k = 5 ∨ k = 6 ∨ k = 7 := by omega
  unfold execOp
  simp only [ho, hx]
  rcases this with rfl | rfl | rfl | rfl | rfl | rfl | rfl | rfl <;> go_simp
theorem len40 (ty : TypeId) (p : Option Addr) (n c : Nat) (w : World) : (Builtin.len_ #[40] ty #[.slice p n c]).run Try.prog w = .ok (.int .i64 n) w := by kernel_rfl
theorem run_len40 {x : Operand} {p : Option Addr} {n c : Nat} (ho : o.op = .call { callee := .builtin .len, args := #[x], argTypes := #[40] }) (hx : a.eval x = .slice p n c) : ∀ w, (execOp a.eval o).run Try.prog w = .ok (.value (.int .i64 n)) w := by
  intro w
  unfold execOp
  simp only [ho, resolve, invoke, builtin, Sem.run_bind, Sem.run_pure, Result.andThen_ok, List.map_toArray, List.map_cons, List.map_nil, hx, len40 _ p n c w]
theorem run_len72 {x : Operand} {m : Nat} {ks : List Int} (h : MapAt w m (setF ks)) (hn : ks.Nodup) (ho : o.op = .call { callee := .builtin .len, args := #[x], argTypes := #[72] }) (hx : a.eval x = .map (some m)) : (execOp a.eval o).run Try.prog w = .ok (.value (.int .i64 ks.length)) w := by
  obtain ⟨n, hr, hnn⟩ := set_len h o.type
  have : n = ks.length := hnn.2 hn
  subst this
  unfold execOp
  simp only [ho, resolve, invoke, builtin, Sem.run_bind, Sem.run_pure, Result.andThen_ok, List.map_toArray, List.map_cons, List.map_nil, hx, hr]
theorem max_run (ty : TypeId) (i j : Int) (w : World) : (Builtin.max_ #[3, 3] ty #[.int .i64 i, .int .i64 j]).run Try.prog w = .ok (.int .i64 (max i j)) w := by
  have : (if j > i then j else i) = max i j := by rw [Int.max_def]; split <;> split <;> omega
  simp [Builtin.max_, Builtin.max2, this]
theorem run_max {x y : Operand} {i j : Int} (ho : o.op = .call { callee := .builtin .max, args := #[x, y], argTypes := #[3, 3] }) (hx : a.eval x = .int .i64 i) (hy : a.eval y = .int .i64 j) : ∀ w, (execOp a.eval o).run Try.prog w = .ok (.value (.int .i64 (max i j))) w := by
  intro w
  unfold execOp
  simp only [ho, resolve, invoke, builtin, Sem.run_bind, Sem.run_pure, Result.andThen_ok, List.map_toArray, List.map_cons, List.map_nil, hx, hy, max_run]
theorem isAgg26 (w : World) : (isAgg 26).run Try.prog w = .ok false w := by kernel_rfl
theorem isAgg40 (w : World) : (isAgg 40).run Try.prog w = .ok false w := by kernel_rfl
theorem isAgg72 (w : World) : (isAgg 72).run Try.prog w = .ok false w := by kernel_rfl
theorem zero3 (w : World) : (zeroValue 3).run Try.prog w = .ok (.int .i64 0) w := by kernel_rfl
theorem does_alloc3 (ho : o.op = .alloc 3) : Does Try.prog o a w (.pointer (some ⟨w.heap.size, 0, none⟩)) (w.alloc (.cells #[.int .i64 0] 3)) := by
  refine .inl ?_
  unfold execOp
  rw [ho]
  simp only [Instr.alloc, Sem.run_bind, zero3, Result.andThen, newVar, newRow, Value.cells]
  rfl
theorem does_store3 {x y : Operand} {p : Addr} {u : Value} {i : Int} (ho : o.op = .store 3 x y) (hx : a.eval x = .pointer (some p)) (hy : a.eval y = .int .i64 i) (hc : w.cell? p = some u) (hf : w.frozen? p = false) : Does Try.prog o a w undef (w.setCell p (.int .i64 i)) := by
  refine .inr (.inl ⟨?_, rfl⟩)
  unfold execOp
  simp only [ho, hx, hy]
  go_simp
end

section
variable {w w' : World} {cb d wb hm pm : Nat} {ov : Value} {C : CaS}

set_option maxHeartbeats 1000000 in
theorem end_any (h : CIs w cb d wb hm pm ov C) : Calls Try.prog 48 #[pp cb] w fun e w' => e = .returned (.tuple #[]) ∧ CIs w' cb d wb hm pm ov { C with opn := false, pin := [] } ∧ Only (cfoot cb hm pm ov) w w' := by
  obtain ⟨c0, c1, c2, c3, c4, c5, c6, c7, fz⟩ := h.cells
  obtain ⟨a1, a2, a3, a4⟩ := h.apart
  have f3 := fz 3
  have h0 := h
  have M := mapAt_congr (w' := w.setCell ⟨cb, 3, none⟩ (.bool false)) h.pinned (Below.heap_setCell _ _ _ _ (by simpa using Ne.symm a2))
  have HM := Lib.hid M
  have H0 := Lib.hid h0
  clear h h0 M fz c0 c1 c2 c4 c5 c6
  show Calls Try.prog 48 #[.pointer (some ⟨cb, 0, none⟩)] w _
  go_enter Try.func48, Try.ntmps48
  go_wp2_with (refine wpL_clearG Try.underlying72 rfl rfl rfl HM.out ?_; intro ob hob)
  go_end0
  have hH := H0.out
  have hn1 : ∀ y, y ≠ pm → (setBlock (w.setCell ⟨cb, 3, none⟩ (.bool false)) pm ob).heap[y]? = (w.setCell ⟨cb, 3, none⟩ (.bool false)).heap[y]? := fun y hy => heap_setBlock_ne _ pm ob hy
  refine ⟨rfl, ⟨?_, mapAt_congr hH.held ((hn1 hm a3).trans (Below.heap_setCell _ _ _ _ (by simpa using Ne.symm a1))), ?_, ownsRow_congr' hH.ord (fun g hg => (hn1 g (a4 g hg).2.2).trans (Below.heap_setCell _ _ _ _ (by simpa using (a4 g hg).1))), hH.ne⟩, ((Only.refl _ w).setCell (p := ⟨cb, 3, none⟩) (.inl (by simp [cfoot])) _).setBlock (.inl (by simp [cfoot])) _⟩
  · rw [hn1 cb a2, heap_setCell_row hH.row]
    simp [crow]
  · simp only [setF_nil]
    exact hob

def excess (C : CaS) : Int := (C.ord.length : Int) - max C.most (C.pin.length : Int)
/-- Behind an evict. -/
def CaS.evict (C : CaS) : CaS := if excess C ≤ 0 then C else { C with ord := (runD true C.pin C.ord (excess C)).1, held := cutF C.held C.ord (runD true C.pin C.ord (excess C)).1 }

def EvictPost (cb d wb hm pm : Nat) (ov : Value) (C : CaS) (w : World) (e : Ending) (w' : World) : Prop :=
  e = .returned (.tuple #[]) ∧ ∃ ov', ov'.ownBlock = ov.ownBlock ∧ CIs w' cb d wb hm pm ov' C.evict ∧ Only (cfoot cb hm pm ov) w w'

set_option maxHeartbeats 2000000 in
theorem evict_any (h : CIs w cb d wb hm pm ov C) (ok : CaOk C) : Calls Try.prog 40 #[pp cb] w fun e w' => EvictPost cb d wb hm pm ov C w e w' := by
  have hlen := ok.len
  have hplen := ok.plen
  have m0 := ok.m0
  have m1 := ok.m1
  have hlt := h.lt
  obtain ⟨oa, ocap, rfl, oc1, oc2⟩ := h.slice
  have hw : (w.alloc (.cells #[.pointer (some ⟨cb, 0, none⟩)] 26)).drew.heap[w.heap.size]? = some (.cells #[pp cb] 26 (0, 0)) := heap_alloc_last w _
  have o0 : Only [] w (w.alloc (.cells #[.pointer (some ⟨cb, 0, none⟩)] 26)).drew := ((Only.refl [] w).alloc _).drew
  have hs0 : (w.alloc (.cells #[.pointer (some ⟨cb, 0, none⟩)] 26)).drew.heap.size = w.heap.size + 1 := by show (w.alloc _).heap.size = _; simp
  have h1 := h.only o0 (by simp)
  have H1 := Lib.hid h1
  have OK := Lib.hid ok
  have HLT := Lib.hid hlt
  clear h ok hlt
  show Calls Try.prog 40 #[.pointer (some ⟨cb, 0, none⟩)] w _
  go_enter Try.func40, Try.ntmps40
  go_wp2_with fail
  obtain ⟨c0, c1, c2, c3, c4, c5, c6, c7, fz⟩ := H1.out.cells
  have cxb : (w.alloc (.cells #[.pointer (some ⟨cb, 0, none⟩)] 26)).drew.cell? ⟨w.heap.size, 0, none⟩ = some (pp cb) := by rw [cell_of_row _ _ _ _ _ _ hw]; rfl
  refine wp_region_flowR Lat [1, 0, 0, 1, 0, 1, 0, 0, 1, 1, 0, 0, 1, 1, 0, 0, 2, 3] (by kernel_rfl) (by kernel_rfl) Lat.refl Lat.trans ?_
  generalize (w.alloc (.cells #[.pointer (some ⟨cb, 0, none⟩)] 26)).drew = w0 at *
  have hcn : (w0.alloc (.cells #[.int .i64 0] 3)).cell? ⟨w0.heap.size, 0, none⟩ = some (.int .i64 0) := by rw [cell_of_row _ _ _ _ _ _ (heap_alloc_last w0 (.cells #[.int .i64 0] 3))]; rfl
  have hfn : (w0.alloc (.cells #[.int .i64 0] 3)).frozen? ⟨w0.heap.size, 0, none⟩ = false := by have := heap_alloc_last w0 (.cells #[.int .i64 0] 3); generalize w0.alloc (.cells #[.int .i64 0] 3) = wz at *; simp [World.frozen?, this]
  refine fr1 (u := pp cb) rfl (fun x hx => run_load1 rfl rfl (hx.cell cxb) isAgg26) ?_
  simp only [Act.put, List.setIfInBounds_toArray, List.set_cons_succ, List.set_cons_zero]
  refine fr0 rfl (fun _ => rfl) ?_
  simp only [Act.put, List.setIfInBounds_toArray, List.set_cons_succ, List.set_cons_zero]
  refine fr0 rfl (run_field74 (k := 6) (by omega) rfl rfl) ?_
  simp only [Act.put, List.setIfInBounds_toArray, List.set_cons_succ, List.set_cons_zero]
  refine fr1 (u := .slice oa C.ord.length ocap) rfl (fun x hx => run_load1 rfl rfl (hx.cell c6) isAgg40) ?_
  simp only [Act.put, List.setIfInBounds_toArray, List.set_cons_succ, List.set_cons_zero]
  refine fr0 rfl (run_len40 rfl rfl) ?_
  simp only [Act.put, List.setIfInBounds_toArray, List.set_cons_succ, List.set_cons_zero]
  refine fr1 (u := pp cb) rfl (fun x hx => run_load1 rfl rfl (hx.cell cxb) isAgg26) ?_
  simp only [Act.put, List.setIfInBounds_toArray, List.set_cons_succ, List.set_cons_zero]
  refine fr0 rfl (fun _ => rfl) ?_
  simp only [Act.put, List.setIfInBounds_toArray, List.set_cons_succ, List.set_cons_zero]
  refine fr0 rfl (run_field74 (k := 2) (by omega) rfl rfl) ?_
  simp only [Act.put, List.setIfInBounds_toArray, List.set_cons_succ, List.set_cons_zero]
  refine fr1 (u := .int .i64 C.most) rfl (fun x hx => run_load1 rfl rfl (hx.cell c2) isAgg3) ?_
  simp only [Act.put, List.setIfInBounds_toArray, List.set_cons_succ, List.set_cons_zero]
  refine fr1 (u := pp cb) rfl (fun x hx => run_load1 rfl rfl (hx.cell cxb) isAgg26) ?_
  simp only [Act.put, List.setIfInBounds_toArray, List.set_cons_succ, List.set_cons_zero]
  refine fr0 rfl (fun _ => rfl) ?_
  simp only [Act.put, List.setIfInBounds_toArray, List.set_cons_succ, List.set_cons_zero]
  refine fr0 rfl (run_field74 (k := 7) (by omega) rfl rfl) ?_
  simp only [Act.put, List.setIfInBounds_toArray, List.set_cons_succ, List.set_cons_zero]
  refine fr1 (u := .map (some pm)) rfl (fun x hx => run_load1 rfl rfl (hx.cell c7) isAgg72) ?_
  simp only [Act.put, List.setIfInBounds_toArray, List.set_cons_succ, List.set_cons_zero]
  refine fr1 (u := .int .i64 (C.pin.length : Int)) rfl (fun x hx => run_len72 (mapAt_congr H1.out.pinned (hx.2 pm (mapAt_lt H1.out.pinned))) OK.out.pn rfl rfl) ?_
  simp only [Act.put, List.setIfInBounds_toArray, List.set_cons_succ, List.set_cons_zero]
  refine fr0 rfl (run_max rfl rfl rfl) ?_
  simp only [Act.put, List.setIfInBounds_toArray, List.set_cons_succ, List.set_cons_zero]
  refine fr0 (u := .int .i64 ((C.ord.length : Int) - max C.most (C.pin.length : Int))) rfl (run_sub (by omega) (by omega) rfl rfl rfl) ?_
  simp only [Act.put, List.setIfInBounds_toArray, List.set_cons_succ, List.set_cons_zero]
  refine fr2 (u := .pointer (some ⟨w0.heap.size, 0, none⟩)) (w' := w0.alloc (.cells #[.int .i64 0] 3)) rfl (Lat.alloc _ _) (does_alloc3 rfl) ?_
  simp only [Act.put, List.setIfInBounds_toArray, List.set_cons_succ, List.set_cons_zero]
  refine fr3 (u := undef) (w' := (w0.alloc (.cells #[.int .i64 0] 3)).setCell ⟨w0.heap.size, 0, none⟩ (.int .i64 ((C.ord.length : Int) - max C.most (C.pin.length : Int)))) rfl (does_store3 rfl rfl rfl hcn hfn) ?_
  simp only [Act.put, List.setIfInBounds_toArray, List.set_cons_succ, List.set_cons_zero]
  refine frnil ?_
  show Exit.then _ _ _ _ _
  clear hcn hfn cxb c0 c1 c2 c3 c4 c5 c6 c7 fz
  have hE : ((w0.alloc (.cells #[.int .i64 0] 3)).setCell ⟨w0.heap.size, 0, none⟩ (.int .i64 ((C.ord.length : Int) - max C.most (C.pin.length : Int)))).heap[w0.heap.size]? = some (.cells #[.int .i64 ((C.ord.length : Int) - max C.most (C.pin.length : Int))] 3 (0, 0)) := by
    rw [heap_setCell_row (heap_alloc_last w0 (.cells #[.int .i64 0] 3))]; rfl
  have o2 : Only [] w0 ((w0.alloc (.cells #[.int .i64 0] 3)).setCell ⟨w0.heap.size, 0, none⟩ (.int .i64 ((C.ord.length : Int) - max C.most (C.pin.length : Int)))) := ((Only.refl [] w0).alloc _).setCell (p := ⟨w0.heap.size, 0, none⟩) (.inr (Nat.le_refl _)) _
  generalize (w0.alloc (.cells #[.int .i64 0] 3)).setCell ⟨w0.heap.size, 0, none⟩ (.int .i64 ((C.ord.length : Int) - max C.most (C.pin.length : Int))) = w2 at *
  have hX : w2.heap[w.heap.size]? = some (.cells #[pp cb] 26 (0, 0)) := (o2.block _ (by omega) (by simp)).trans hw
  have h2 := H1.out.only o2 (by simp)
  have cE : w2.cell? ⟨w0.heap.size, 0, none⟩ = some (.int .i64 ((C.ord.length : Int) - max C.most (C.pin.length : Int))) := by rw [cell_of_row _ _ _ _ _ _ hE]; rfl
  have cX : w2.cell? ⟨w.heap.size, 0, none⟩ = some (.pointer (some ⟨cb, 0, none⟩)) := by rw [cell_of_row _ _ _ _ _ _ hX]; rfl
  have hexd : excess C = ((C.ord.length : Int) - max C.most (C.pin.length : Int)) := rfl
  rw [← hexd] at hE cE ⊢
  rw [hs0] at hE cE
  have hex1 : excess C ≤ 8192 := by rw [hexd]; omega
  by_cases hle : excess C ≤ 0
  · have H2 := Lib.hid h2
    have O02 := Lib.hid (o0.trans o2 (by simp))
    clear h2 hE hX o2 o0
    go_wp2
    refine bodyPost_ret (results_none rfl _ _ _) rfl ?_
    have e1 : C.evict = C := if_pos hle
    exact ⟨rfl, _, rfl, by rw [e1]; exact H2.out, O02.out.mono (by simp)⟩
  · have DR := Lib.hid (drop_ev (eb := w.heap.size + 1) (xb := w.heap.size) (ex := excess C) h2 OK.out.nd hlen hE hX (fun hx => by have := HLT.out _ hx; omega) (fun hx => by have := HLT.out _ hx; omega) (by omega) (by omega) (by omega))
    have O02 := Lib.hid (o0.trans o2 (by simp))
    have hsz2 := o2.size
    clear h2 hE hX o2 o0
    go_wp2_with fail
    refine DR.out.mono ?_
    rintro e w3 ⟨rfl, ov', hov, h3, o3⟩
    have e1 : C.evict = { C with ord := (runD true C.pin C.ord (excess C)).1, held := cutF C.held C.ord (runD true C.pin C.ord (excess C)).1 } := if_neg (by omega)
    have FIN : Hid (EvictPost cb d wb hm pm (.slice oa C.ord.length ocap) C w (.returned (.tuple #[])) w3) := (⟨rfl, ov', hov, by rw [e1]; exact h3, (O02.out.mono (F' := cfoot cb hm pm (.slice oa C.ord.length ocap)) (by simp)).trans o3 (fun x hx => by
      rcases List.mem_append.1 hx with hx | hx
      · simp at hx; right; omega
      · exact .inl hx)⟩ : EvictPost cb d wb hm pm (.slice oa C.ord.length ocap) C w (.returned (.tuple #[])) w3)
    clear DR h3 o3 O02
    go_wp2
    go_end0
    exact FIN.out
end
end Go.Proofs.Ytoccnaebckcfmaa
end

section
set_option linter.unusedSimpArgs false
set_option linter.unusedVariables false
set_option maxRecDepth 8000
namespace Go.Proofs.Ytoccnaebckcfmaa
open Go.RowKit
open Go.ChangeMaps (setBlock)

def useL (l : List Int) (i : Int) : List Int := l.filter (fun x => decide (x ≠ i)) ++ [i]
theorem filter_out {l : List Int} {i : Int} (h : i ∉ l) : l.filter (fun x => decide (x ≠ i)) = l := by
  rw [List.filter_eq_self]
  intro x hx
  simp
  exact fun e => h (e ▸ hx)
theorem filter_at {l : List Int} (hn : l.Nodup) {k : Nat} {i : Int} (hk : l[k]? = some i) : l.take k ++ l.drop (k + 1) = l.filter (fun x => decide (x ≠ i)) := by
  have hl := (List.getElem?_eq_some_iff.1 hk).1
  have h1 : l.drop k = i :: l.drop (k + 1) := by rw [List.drop_eq_getElem_cons hl, (List.getElem?_eq_some_iff.1 hk).2]
  have e : l = l.take k ++ i :: l.drop (k + 1) := by rw [← h1, List.take_append_drop]
  have hn' := hn
  rw [e] at hn'
  obtain ⟨n1, n2, n3⟩ := List.nodup_append.1 hn'
  have a1 : i ∉ l.take k := fun h => n3 i h i (by simp) rfl
  have a2 : i ∉ l.drop (k + 1) := (List.nodup_cons.1 n2).1
  conv => rhs; rw [e]
  rw [List.filter_append, filter_out a1, List.filter_cons_of_neg (by simp), filter_out a2]

theorem info3b : (Try.prog.info? 3).map (fun i => (i.zero, i.size, i.bytes)) = some (some (.int .i64 0), 1, 8) := by kernel_rfl

theorem ord_append {w : World} {ov : Value} {l : List Int} (h : w.ownsRow 0 3 1 ov l.length (l.map (Value.int .i64))) (x : Int) (hn : l.length ≤ 100000) (ty : TypeId) :
    ∃ g cap w', (Builtin.append_ #[40, 40] ty #[ov, .slice (some ⟨w.heap.size, 0, none⟩) 1 1]).run Try.prog (w.alloc (.cells #[.int .i64 x] 3)) = .ok (.slice (some ⟨g, 0, none⟩) (l.length + 1) cap) w' ∧ w'.ownsRow 0 3 1 (.slice (some ⟨g, 0, none⟩) (l.length + 1) cap) (l ++ [x]).length ((l ++ [x]).map (Value.int .i64)) ∧
      Only ov.ownBlock.toList w w' ∧ (ov.ownBlock = some g ∨ w.heap.size ≤ g) := by
  obtain ⟨i0, hi, hz0, hz1, hz2⟩ := info_parts info3b
  have o1 : Only [] w (w.alloc (.cells #[.int .i64 x] 3)) := (Only.refl [] w).alloc _
  have h' := ownsRow_congr' h (w' := w.alloc (.cells #[.int .i64 x] 3)) (fun g hg => o1.block g (ownsRow_own h hg).2.1 (by simp))
  obtain ⟨v', w', hrun, hown, hgrow, hnil, hloc⟩ := run_append_own_at (P := Try.prog) (w.alloc (.cells #[.int .i64 x] 3)) 0 40 ty 3 i0 _ 1 8 Try.underlying40 hi hz0 hz1 hz2 rfl (by omega)
    ov _ _ h' ⟨w.heap.size, 0, none⟩ 1 1 [.int .i64 x] rfl (fun j u hu => by
      have hj : j = 0 := by have := (List.getElem?_eq_some_iff.1 hu).1; simp at this; omega
      subst hj
      simp at hu
      subst hu
      rw [Addr.add_mid, cell_of_row _ _ _ _ _ _ (heap_alloc_last w (.cells #[.int .i64 x] 3))]
      rfl) (by simp [Value.oneCell']) (by unfold maxLen; omega) (by omega) (Nat.zero_le _)
  rcases hown.2 with ⟨_, h0⟩ | ⟨g, cap, cur, e, hb⟩
  · omega
  · subst e
    refine ⟨g, cap, w', hrun, by simpa using hown, (o1.mono (by simp)).grown hgrow (fun k hk => .inl (by rw [hk]; simp)), ?_⟩
    rcases hloc with e | e
    · exact .inl e.symm
    · simp [Value.ownBlock] at e
      exact .inr (by omega)

section
variable {w w' : World} {cb d wb hm pm : Nat} {ov : Value} {C : CaS}

theorem CIs.setOrd (h : CIs w cb d wb hm pm ov C) {w3 : World} (o : Only ov.ownBlock.toList w w3) {v3 : Value} {l' : List Int} (hr : w3.ownsRow 0 3 1 v3 l'.length (l'.map (Value.int .i64))) (hg : ov.ownBlock = v3.ownBlock ∨ ∀ g, v3.ownBlock = some g → w.heap.size ≤ g) :
    CIs (w3.setCell ⟨cb, 6, none⟩ v3) cb d wb hm pm v3 { C with ord := l' } := by
  obtain ⟨a1, a2, a3, a4⟩ := h.apart
  have lt := h.lt
  have hn : ∀ x, x < w.heap.size → (∀ g, ov.ownBlock = some g → g ≠ x) → w3.heap[x]? = w.heap[x]? := fun x hx hne => o.block x hx (by simp only [Option.mem_toList]; exact fun hm => hne x hm rfl)
  have hcb := hn cb (lt cb (by simp [cfoot])) (fun g hg => (a4 g hg).1)
  have hhm := hn hm (lt hm (by simp [cfoot])) (fun g hg => (a4 g hg).2.1)
  have hpm := hn pm (lt pm (by simp [cfoot])) (fun g hg => (a4 g hg).2.2)
  have hv : ∀ g, v3.ownBlock = some g → g ≠ cb := fun g hv3 => by
    rcases hg with e | e
    · exact (a4 g (e.trans hv3)).1
    · have := e g hv3; have := lt cb (by simp [cfoot]); omega
  refine ⟨?_, mapAt_congr h.held ((Below.heap_setCell _ _ _ _ (by simpa using Ne.symm a1)).trans hhm), mapAt_congr h.pinned ((Below.heap_setCell _ _ _ _ (by simpa using Ne.symm a2)).trans hpm), ownsRow_congr' hr (fun g hg => Below.heap_setCell _ _ _ _ (by simpa using hv g hg)), h.ne⟩
  rw [heap_setCell_row (hcb.trans h.row)]
  simp [crow]

theorem CIs.setHeld (h : CIs w cb d wb hm pm ov C) {ob : Obj} {f : Int → Option (Array Value)} (hf : MapAt (setBlock w hm ob) hm f) : CIs (setBlock w hm ob) cb d wb hm pm ov { C with held := f } := by
  obtain ⟨a1, a2, a3, a4⟩ := h.apart
  have hn : ∀ x, x ≠ hm → (setBlock w hm ob).heap[x]? = w.heap[x]? := fun x hx => heap_setBlock_ne w hm ob hx
  exact ⟨(hn cb a1).trans h.row, hf, mapAt_congr h.pinned (hn pm (Ne.symm a3)), ownsRow_congr' h.ord (fun g hg => hn g (a4 g hg).2.1), h.ne⟩

theorem CIs.ordCell (h : CIs w cb d wb hm pm ov C) {g cap : Nat} (e : ov = .slice (some ⟨g, 0, none⟩) C.ord.length cap) : ∀ j, j < C.ord.length → w.cell? ⟨g, 0 + j, none⟩ = some (.int .i64 (C.ord.getD j 0)) := by
  intro j hj
  obtain ⟨cap', cur, _, hb, _, _, _, ht⟩ := h.oblk (g := g) (by rw [e]; rfl)
  have := congrArg (·[j]?) ht
  simp only [List.getElem?_take_of_lt hj, List.getElem?_map] at this
  rw [Nat.zero_add, cell_of_row _ _ _ _ _ _ hb, ← Array.getElem?_toList, this, List.getD_eq_getElem?_getD, List.getElem?_eq_getElem hj]
  rfl

theorem index_any (h : CIs w cb d wb hm pm ov C) (hlen : C.ord.length ≤ 8192) (i : Int) : Calls Try.prog 67 #[ov, .int .i64 i] w fun e w' => e = .returned (.int .i64 (Lib.idxOf C.ord i)) ∧ w' = w := by
  rcases h.ord.2 with ⟨e, hn⟩ | ⟨g, cap, cur, e, _, hh, h1, h2, h3, h4⟩
  · have : C.ord = [] := List.eq_nil_of_length_eq_zero hn
    rw [e, this]
    exact Try.slices_Index_int_empty none 0 i w
  · subst e
    have := Try.slices_Index_int g 0 C.ord.length cap C.ord i w (Nat.le_refl _) (by omega) (h.ordCell rfl)
    rw [List.take_length] at this
    exact this

theorem idx_in {l : List Int} {i : Int} (hi : i ∈ l) : ∃ k : Nat, l[k]? = some i ∧ Lib.idxOf l i = (k : Int) ∧ k < l.length := by
  have hk := List.idxOf_lt_length_of_mem hi
  have hg : l[List.idxOf i l]? = some i := by rw [List.getElem?_eq_getElem hk, List.getElem_idxOf hk]
  refine ⟨List.idxOf i l, hg, ?_, hk⟩
  have := Lib.idxOf_hit l l.length (List.idxOf i l) i hk (Nat.le_refl _) (by rw [List.getD_eq_getElem?_getD, hg]; rfl) (fun j hj e => by
    rw [List.getD_eq_getElem?_getD, List.getElem?_eq_getElem (by omega)] at e
    have h9 := List.not_of_lt_findIdx (p := (· == i)) hj
    rw [show l[j] = i by simpa using e] at h9
    simp at h9)
  rw [List.take_length] at this
  exact this
theorem idx_out {l : List Int} {i : Int} (hi : i ∉ l) : Lib.idxOf l i = -1 := by
  have := Lib.idxOf_miss l l.length i (fun j hj e => hi (by
    rw [List.getD_eq_getElem?_getD, List.getElem?_eq_getElem hj] at e
    simp at e
    rw [← e]
    exact List.getElem_mem hj))
  rw [List.take_length] at this
  exact this

def DelPost (ov : Value) (l : List Int) (w : World) (e : Ending) (w' : World) : Prop := ∃ g n cap, e = .returned (.slice (some ⟨g, 0, none⟩) n cap) ∧ ov.ownBlock = some g ∧ w'.ownsRow 0 3 1 (.slice (some ⟨g, 0, none⟩) n cap) l.length (l.map (Value.int .i64)) ∧ Only ov.ownBlock.toList w w'
theorem delete_any (h : CIs w cb d wb hm pm ov C) (hnd : C.ord.Nodup) (hlen : C.ord.length ≤ 8192) {k : Nat} {i : Int} (hk : C.ord[k]? = some i) :
    Calls Try.prog 68 #[ov, .int .i64 k, .int .i64 ((k : Int) + 1)] w fun e w' => DelPost ov (C.ord.filter (fun x => decide (x ≠ i))) w e w' := by
  have hkl := (List.getElem?_eq_some_iff.1 hk).1
  rcases h.ord.2 with ⟨e, hn⟩ | ⟨g, cap, cur, e, _, hh, h1, h2, h3, h4⟩
  · omega
  · subst e
    have hH : Sort.Holds (Value.int .i64) w g 0 C.ord.toArray := fun j hj => by
      have hj' : j < C.ord.length := by simpa using hj
      refine ⟨?_, by simp [World.frozen?, hh]⟩
      rw [h.ordCell rfl j hj']
      simp [List.getD_eq_getElem?_getD, hj']
    have := Try.slices_Delete_int g 0 cap k (k + 1) C.ord w hH h1 (by unfold maxLen at h2; omega) (by omega) (by omega)
    rw [show ((k + 1 : Nat) : Int) = (k : Int) + 1 by omega] at this
    refine this.mono ?_
    rintro e w' ⟨rfl, q, rfl⟩
    have hts : C.ord.take k ++ C.ord.drop (k + 1) ++ List.replicate (k + 1 - k) 0 = C.ord.filter (fun x => decide (x ≠ i)) ++ [0] := by rw [filter_at hnd hk]; simp
    rw [hts]
    have hl1 : (C.ord.filter (fun x => decide (x ≠ i))).length = C.ord.length - 1 := by
      rw [← filter_at hnd hk]; simp; omega
    generalize C.ord.filter (fun x => decide (x ≠ i)) = L at *
    have hn1 : C.ord.length - (k + 1 - k) = L.length := by omega
    rw [hn1]
    have hblk : (Sort.putRow (Value.int .i64) (Sort.ahead w q) g 0 (L ++ [0]).toArray).heap[g]? = some (.cells (Sort.putCells (Value.int .i64) 0 (L ++ [0]).toArray cur) 3 (0, 0)) := by
      simp [Sort.putRow, Sort.mapBlock, Sort.ahead, Array.getElem?_modify, hh, Sort.onCells]
    have htk := take_putCells_i cur (L ++ [0]) (by simp; omega)
    refine ⟨g, _, cap, rfl, rfl, ⟨by simp, .inr ⟨g, cap, _, rfl, Nat.zero_le _, hblk, by omega, h2, by simp [Sort.putCells]; omega, ?_⟩⟩, ⟨rfl, rfl, rfl, by simp [Sort.putRow, Sort.mapBlock, Sort.ahead], fun x hx hne => ?_⟩⟩
    · have h9 := congrArg (List.take L.length) htk
      rw [List.take_take, Nat.min_eq_left (by simp), List.map_append, List.take_append_of_le_length (by simp), List.take_of_length_le (l := L.map encZ) (by simp)] at h9
      rw [Nat.mul_one]
      exact h9
    · simp [Value.ownBlock] at hne
      simp [Sort.putRow, Sort.mapBlock, Sort.ahead, Array.getElem?_modify, Ne.symm hne]
end
end Go.Proofs.Ytoccnaebckcfmaa
end

section
set_option linter.unusedSimpArgs false
set_option linter.unusedVariables false
set_option maxRecDepth 8000
namespace Go.Proofs.Ytoccnaebckcfmaa
open Go.RowKit
open Go.ChangeMaps (setBlock)

section
variable {ops : Array Oper} {rest : List Oper} {o : Oper} {a : Act} {Q : Exit → Act → World → Prop} {w : World}
theorem run_load69 {x : Operand} {g : Nat} {v : Array Value} {t : TypeId} (ho : o.op = .load 69 x) (hx : a.eval x = .pointer (some ⟨g, 0, none⟩)) (hb : w.heap[g]? = some (.cells v t (0, 0))) (hv : v.size = 64) :
    (execOp a.eval o).run Try.prog w = .ok (.value (.agg v)) w := by
  unfold execOp
  simp only [ho, hx, Instr.loadAt, Instr.sureAddr, Sem.run_bind, Sem.run_pure, Result.andThen_ok, run_loadVar_row (P := Try.prog) w g t 69 v (0, 0) (.array 64 5) hb Try.underlying69 rfl (by rw [info69, hv])]
theorem isAgg71 (w : World) : (isAgg 71).run Try.prog w = .ok false w := by kernel_rfl
theorem does_update71 {m x y : Operand} {b : Nat} {f : Int → Option (Array Value)} {k : Int} {v : Array Value} (ho : o.op = .mapUpdate 71 m x y) (hm : a.eval m = .map (some b)) (hx : a.eval x = .int .i64 k) (hy : a.eval y = .agg v) (hf : MapAt w b f) :
    ∃ ob, Does Try.prog o a w undef (setBlock w b ob) ∧ MapAt (setBlock w b ob) b (updF f k v) := by
  obtain ⟨ob, hr, hm'⟩ := hf.update (P := Try.prog) Try.underlying71 Try.underlying3 k v
  refine ⟨ob, .inr (.inl ⟨?_, rfl⟩), hm'⟩
  unfold execOp
  rw [ho]
  simp only [hm, hx, hy, Sem.run_bind, hr, Result.andThen]
  rfl
theorem fr3_update71 {L : World → World → Prop} {K : Act → World → Prop} {r : List Oper} {ks : List Nat} {m x y : Operand} {b : Nat} {f : Int → Option (Array Value)} {k : Int} {v : Array Value} (hw : Region.wanted o (yielded ops a.tmps) = true) (ho : o.op = .mapUpdate 71 m x y) (hm : a.eval m = .map (some b)) (hx : a.eval x = .int .i64 k) (hy : a.eval y = .agg v) (hf : MapAt w b f)
    (h : ∀ ob, MapAt (setBlock w b ob) b (updF f k v) → wpFlowR Try.prog ops L K ks r (a.put o.dst undef) (setBlock w b ob)) : wpFlowR Try.prog ops L K (3 :: ks) (o :: r) a w := by
  obtain ⟨ob, hd, hm'⟩ := does_update71 ho hm hx hy hf
  exact fr3 hw hd (h ob hm')
end

def HoldPost (cb d wb hm pm : Nat) (ov : Value) (C : CaS) (i : Int) (v : Array Value) (w : World) (e : Ending) (w' : World) : Prop :=
  e = .returned (.tuple #[]) ∧ ∃ ov', (∀ g, ov'.ownBlock = some g → ov.ownBlock = some g ∨ w.heap.size ≤ g) ∧ CIs w' cb d wb hm pm ov' { C with ord := useL C.ord i, held := updF C.held i v } ∧ Only (cfoot cb hm pm ov) w w'

set_option maxHeartbeats 4000000 in
theorem hold_any {w : World} {cb d wb hm pm : Nat} {ov : Value} {C : CaS} (h : CIs w cb d wb hm pm ov C) (hnd : C.ord.Nodup) (hlen : C.ord.length ≤ 8192) (i : Int) (v : Array Value) (hv : SecOk v) : Calls Try.prog 39 #[pp cb, .int .i64 i, .agg v] w fun e w' => HoldPost cb d wb hm pm ov C i v w e w' := by
  have lt := h.lt
  obtain ⟨oa, ocap, rfl, oc1, oc2⟩ := h.slice
  have o0 : Only [] w (w.alloc (.cells v 69)) := (Only.refl [] w).alloc _
  have hvb := heap_alloc_last w (.cells v 69)
  have h1 := h.only o0 (by simp)
  obtain ⟨c0, c1, c2, c3, c4, c5, c6, c7, fz⟩ := h1.cells
  have IX := Lib.hid (index_any h1 hlen i)
  have f6 := fz 6
  have hs0 : (w.alloc (.cells v 69)).heap.size = w.heap.size + 1 := by simp
  clear c0 c1 c2 c3 c4 c5 c7 fz
  show Calls Try.prog 39 #[.pointer (some ⟨cb, 0, none⟩), .int .i64 i, .agg v] w _
  have H1 := Lib.hid h1
  have LT := Lib.hid lt
  clear h h1 lt
  go_enter Try.func39, Try.ntmps39
  go_wp2_with fail
  refine IX.out.mono ?_
  rintro e w1' ⟨rfl, rfl⟩
  generalize w.alloc (.cells v 69) = w1 at *
  clear IX
  by_cases hi : i ∈ C.ord
  · obtain ⟨k, hk, hidx, hkl⟩ := idx_in hi
    rw [hidx]
    have DE := Lib.hid (delete_any H1.out hnd hlen hk)
    have hk0 : (0 : Int) ≤ (k : Int) := by omega
    go_wp2_with fail
    refine DE.out.mono ?_
    rintro e w2 ⟨g, n, cap, rfl, hg, hrow, o2⟩
    have h2 := H1.out.setOrd o2 hrow (.inl hg)
    have ltcb : cb < w1.heap.size := H1.out.lt cb (by simp [cfoot])
    have r2 : w2.heap[cb]? = some (.cells (crow d wb C hm pm (.slice oa C.ord.length ocap)) 74 (0, 0)) := (o2.block cb ltcb (fun hx => by
      have := H1.out.apart.2.2.2 cb (by simpa using hx)
      exact this.1 rfl)).trans H1.out.row
    have c62 : w2.cell? ⟨cb, 6, none⟩ = some (.slice oa C.ord.length ocap) := by rw [cell_of_row _ _ _ _ _ _ r2]; rfl
    have f62 : w2.frozen? ⟨cb, 6, none⟩ = false := by simp [World.frozen?, r2]
    have O3 : Only (cfoot cb hm pm (.slice oa C.ord.length ocap)) w (w2.setCell ⟨cb, 6, none⟩ (.slice (some ⟨g, 0, none⟩) n cap)) := ((o0.mono (by simp)).trans o2 (fun x hx => .inl (by simp only [cfoot, List.mem_cons]; right; right; right; exact hx))).setCell (p := ⟨cb, 6, none⟩) (.inl (by simp [cfoot])) _
    have hvb3 : (w2.setCell ⟨cb, 6, none⟩ (.slice (some ⟨g, 0, none⟩) n cap)).heap[w.heap.size]? = some (.cells v 69 (0, 0)) := by
      rw [Below.heap_setCell _ _ _ _ (fun e => by have := LT.out cb (by simp [cfoot]); simp only at e; omega)]
      exact (o2.block _ (by omega) (fun hx => by have := LT.out w.heap.size (by simp only [cfoot, List.mem_cons]; right; right; right; exact hx); omega)).trans hvb
    have hL : C.ord.filter (fun x => decide (x ≠ i)) ++ [i] = useL C.ord i := rfl
    have hLl : (C.ord.filter (fun x => decide (x ≠ i))).length ≤ 8192 := Nat.le_trans (List.length_filter_le _ _) hlen
    have hob : (Value.slice (some ⟨g, 0, none⟩) n cap).ownBlock = (Value.slice oa C.ord.length ocap).ownBlock := hg.symm
    generalize C.ord.filter (fun x => decide (x ≠ i)) = LF at *
    obtain ⟨g4, cap4, w4, hrun, hrow4, o4, hl4⟩ := ord_append h2.ord i (Nat.le_trans hLl (by omega)) 40
    simp only [World.size_setCell] at hrun
    have r3 := h2.row
    have ltcb3 : cb < (w2.setCell ⟨cb, 6, none⟩ (.slice (some ⟨g, 0, none⟩) n cap)).heap.size := h2.lt cb (by simp [cfoot])
    have r4 : w4.heap[cb]? = some (.cells (crow d wb { C with ord := LF } hm pm (.slice (some ⟨g, 0, none⟩) n cap)) 74 (0, 0)) := (o4.block cb ltcb3 (fun hx => by
      have := h2.apart.2.2.2 cb (by simpa using hx)
      exact this.1 rfl)).trans r3
    have c64 : w4.cell? ⟨cb, 6, none⟩ = some (.slice (some ⟨g, 0, none⟩) n cap) := by rw [cell_of_row _ _ _ _ _ _ r4]; rfl
    have f64 : w4.frozen? ⟨cb, 6, none⟩ = false := by simp [World.frozen?, r4]
    have h4 := h2.setOrd o4 hrow4 (by
      rcases hl4 with e | e
      · exact .inl e
      · exact .inr (fun g hg => by simp [Value.ownBlock] at hg; omega))
    have O4 : Only (cfoot cb hm pm (.slice oa C.ord.length ocap)) w (w4.setCell ⟨cb, 6, none⟩ (.slice (some ⟨g4, 0, none⟩) (LF.length + 1) cap4)) := (O3.trans o4 (fun x hx => .inl (by simp only [cfoot, List.mem_cons]; right; right; right; rw [← hob]; exact hx))).setCell (p := ⟨cb, 6, none⟩) (.inl (by simp [cfoot])) _
    have hvb4 : (w4.setCell ⟨cb, 6, none⟩ (.slice (some ⟨g4, 0, none⟩) (LF.length + 1) cap4)).heap[w.heap.size]? = some (.cells v 69 (0, 0)) := by
      rw [Below.heap_setCell _ _ _ _ (fun e => by have := LT.out cb (by simp [cfoot]); simp only at e; omega)]
      exact (o4.block _ (Array.getElem?_eq_some_iff.1 hvb3).1 (fun hx => by have := LT.out w.heap.size (by simp only [cfoot, List.mem_cons]; right; right; right; rw [← hob]; exact hx); omega)).trans hvb3
    have hl4' : (Value.slice oa C.ord.length ocap).ownBlock = some g4 ∨ w.heap.size ≤ g4 := by
      rcases hl4 with e | e
      · exact .inl (hob.symm.trans e)
      · exact .inr (Nat.le_trans O3.size e)
    have RUN := Lib.hid hrun
    have H4 := Lib.hid h4
    have OO4 := Lib.hid O4
    have R4 := Lib.hid r4
    clear hs0 DE hrun h4 O4 r4 h2 r2 r3 hrow hrow4 o2 o4 O3 hvb3 f6 c6
    go_wp2_with (refine wpL_value rfl (run_builtin_append rfl rfl rfl RUN.out) ?_)
    generalize w4.setCell ⟨cb, 6, none⟩ (.slice (some ⟨g4, 0, none⟩) (LF.length + 1) cap4) = w5 at *
    have h5 : CIs w5.drew cb d wb hm pm (.slice (some ⟨g4, 0, none⟩) (LF.length + 1) cap4) { C with ord := LF ++ [i] } := H4.out.congr (fun _ _ => rfl)
    obtain ⟨-, -, -, -, -, d5, -, -, -⟩ := h5.cells
    have hvb5 : w5.drew.heap[w.heap.size]? = some (.cells v 69 (0, 0)) := hvb4
    refine wp_region_flowR Lat [0, 0, 0, 1, 0, 1, 3] (by kernel_rfl) (by kernel_rfl) Lat.refl Lat.trans ?_
    refine fr0 rfl (fun _ => rfl) ?_
    simp only [Act.put, List.setIfInBounds_toArray, List.set_cons_succ, List.set_cons_zero]
    refine fr0 rfl (fun _ => rfl) ?_
    simp only [Act.put, List.setIfInBounds_toArray, List.set_cons_succ, List.set_cons_zero]
    refine fr0 rfl (run_field74 (k := 5) (by omega) rfl rfl) ?_
    simp only [Act.put, List.setIfInBounds_toArray, List.set_cons_succ, List.set_cons_zero]
    refine fr1 (u := .map (some hm)) rfl (fun x hx => run_load1 rfl rfl (hx.cell d5) isAgg71) ?_
    simp only [Act.put, List.setIfInBounds_toArray, List.set_cons_succ, List.set_cons_zero]
    refine fr0 rfl (fun _ => rfl) ?_
    simp only [Act.put, List.setIfInBounds_toArray, List.set_cons_succ, List.set_cons_zero]
    refine fr1 (u := .agg v) rfl (fun x hx => run_load69 rfl rfl (hx.at hvb5) hv.1) ?_
    simp only [Act.put, List.setIfInBounds_toArray, List.set_cons_succ, List.set_cons_zero]
    refine fr3_update71 rfl rfl rfl rfl rfl h5.held ?_
    intro ob6 hob6
    simp only [Act.put, List.setIfInBounds_toArray, List.set_cons_succ, List.set_cons_zero]
    refine frnil ?_
    have h6 := h5.setHeld hob6
    have FIN : Hid (HoldPost cb d wb hm pm (.slice oa C.ord.length ocap) C i v w (.returned (.tuple #[])) (setBlock w5.drew hm ob6)) := (⟨rfl, .slice (some ⟨g4, 0, none⟩) (LF.length + 1) cap4, (fun g hg => by simp [Value.ownBlock] at hg; subst hg; exact hl4'), by rw [← hL]; exact h6, OO4.out.drew.setBlock (.inl (by simp [cfoot])) _⟩ : HoldPost cb d wb hm pm (.slice oa C.ord.length ocap) C i v w (.returned (.tuple #[])) (setBlock w5.drew hm ob6))
    clear h6 h5 d5 hvb5
    go_end0
    exact FIN.out
  · rw [idx_out hi]
    have h2 := H1.out
    have O3 : Only (cfoot cb hm pm (.slice oa C.ord.length ocap)) w w1 := o0.mono (by simp)
    have hvb3 := hvb
    have hL : C.ord ++ [i] = useL C.ord i := by rw [useL, filter_out hi]
    have hLl := hlen
    have hob : (Value.slice oa C.ord.length ocap).ownBlock = (Value.slice oa C.ord.length ocap).ownBlock := rfl
    obtain ⟨g4, cap4, w4, hrun, hrow4, o4, hl4⟩ := ord_append h2.ord i (Nat.le_trans hLl (by omega)) 40
    skip
    have r3 := h2.row
    have ltcb3 : cb < w1.heap.size := h2.lt cb (by simp [cfoot])
    have r4 : w4.heap[cb]? = some (.cells (crow d wb C hm pm (.slice oa C.ord.length ocap)) 74 (0, 0)) := (o4.block cb ltcb3 (fun hx => by
      have := h2.apart.2.2.2 cb (by simpa using hx)
      exact this.1 rfl)).trans r3
    have c64 : w4.cell? ⟨cb, 6, none⟩ = some (.slice oa C.ord.length ocap) := by rw [cell_of_row _ _ _ _ _ _ r4]; rfl
    have f64 : w4.frozen? ⟨cb, 6, none⟩ = false := by simp [World.frozen?, r4]
    have h4 := h2.setOrd o4 hrow4 (by
      rcases hl4 with e | e
      · exact .inl e
      · exact .inr (fun g hg => by simp [Value.ownBlock] at hg; omega))
    have O4 : Only (cfoot cb hm pm (.slice oa C.ord.length ocap)) w (w4.setCell ⟨cb, 6, none⟩ (.slice (some ⟨g4, 0, none⟩) (C.ord.length + 1) cap4)) := (O3.trans o4 (fun x hx => .inl (by simp only [cfoot, List.mem_cons]; right; right; right; rw [← hob]; exact hx))).setCell (p := ⟨cb, 6, none⟩) (.inl (by simp [cfoot])) _
    have hvb4 : (w4.setCell ⟨cb, 6, none⟩ (.slice (some ⟨g4, 0, none⟩) (C.ord.length + 1) cap4)).heap[w.heap.size]? = some (.cells v 69 (0, 0)) := by
      rw [Below.heap_setCell _ _ _ _ (fun e => by have := LT.out cb (by simp [cfoot]); simp only at e; omega)]
      exact (o4.block _ (Array.getElem?_eq_some_iff.1 hvb3).1 (fun hx => by have := LT.out w.heap.size (by simp only [cfoot, List.mem_cons]; right; right; right; rw [← hob]; exact hx); omega)).trans hvb3
    have hl4' : (Value.slice oa C.ord.length ocap).ownBlock = some g4 ∨ w.heap.size ≤ g4 := by
      rcases hl4 with e | e
      · exact .inl (hob.symm.trans e)
      · exact .inr (Nat.le_trans O3.size e)
    have RUN := Lib.hid hrun
    have H4 := Lib.hid h4
    have OO4 := Lib.hid O4
    have R4 := Lib.hid r4
    clear hs0 hrun h4 O4 r4 h2 r3 hrow4 o4 O3 hvb3
    go_wp2_with (refine wpL_value rfl (run_builtin_append rfl rfl rfl RUN.out) ?_)
    generalize w4.setCell ⟨cb, 6, none⟩ (.slice (some ⟨g4, 0, none⟩) (C.ord.length + 1) cap4) = w5 at *
    have h5 : CIs w5.drew cb d wb hm pm (.slice (some ⟨g4, 0, none⟩) (C.ord.length + 1) cap4) { C with ord := C.ord ++ [i] } := H4.out.congr (fun _ _ => rfl)
    obtain ⟨-, -, -, -, -, d5, -, -, -⟩ := h5.cells
    have hvb5 : w5.drew.heap[w.heap.size]? = some (.cells v 69 (0, 0)) := hvb4
    refine wp_region_flowR Lat [0, 0, 0, 1, 0, 1, 3] (by kernel_rfl) (by kernel_rfl) Lat.refl Lat.trans ?_
    refine fr0 rfl (fun _ => rfl) ?_
    simp only [Act.put, List.setIfInBounds_toArray, List.set_cons_succ, List.set_cons_zero]
    refine fr0 rfl (fun _ => rfl) ?_
    simp only [Act.put, List.setIfInBounds_toArray, List.set_cons_succ, List.set_cons_zero]
    refine fr0 rfl (run_field74 (k := 5) (by omega) rfl rfl) ?_
    simp only [Act.put, List.setIfInBounds_toArray, List.set_cons_succ, List.set_cons_zero]
    refine fr1 (u := .map (some hm)) rfl (fun x hx => run_load1 rfl rfl (hx.cell d5) isAgg71) ?_
    simp only [Act.put, List.setIfInBounds_toArray, List.set_cons_succ, List.set_cons_zero]
    refine fr0 rfl (fun _ => rfl) ?_
    simp only [Act.put, List.setIfInBounds_toArray, List.set_cons_succ, List.set_cons_zero]
    refine fr1 (u := .agg v) rfl (fun x hx => run_load69 rfl rfl (hx.at hvb5) hv.1) ?_
    simp only [Act.put, List.setIfInBounds_toArray, List.set_cons_succ, List.set_cons_zero]
    refine fr3_update71 rfl rfl rfl rfl rfl h5.held ?_
    intro ob6 hob6
    simp only [Act.put, List.setIfInBounds_toArray, List.set_cons_succ, List.set_cons_zero]
    refine frnil ?_
    have h6 := h5.setHeld hob6
    have FIN : Hid (HoldPost cb d wb hm pm (.slice oa C.ord.length ocap) C i v w (.returned (.tuple #[])) (setBlock w5.drew hm ob6)) := (⟨rfl, .slice (some ⟨g4, 0, none⟩) (C.ord.length + 1) cap4, (fun g hg => by simp [Value.ownBlock] at hg; subst hg; exact hl4'), by rw [← hL]; exact h6, OO4.out.drew.setBlock (.inl (by simp [cfoot])) _⟩ : HoldPost cb d wb hm pm (.slice oa C.ord.length ocap) C i v w (.returned (.tuple #[])) (setBlock w5.drew hm ob6))
    clear h6 h5 d5 hvb5
    go_end0
    exact FIN.out
end Go.Proofs.Ytoccnaebckcfmaa
end
