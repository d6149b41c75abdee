/- What hold does. -/
import Derived.Test.YtoccnaebckcfmaaK5
set_option linter.unusedSimpArgs false
set_option linter.unusedVariables false
set_option maxRecDepth 8000
namespace Go.Proofs.Ytoccnaebckcfmaa
open Go.RowKit
open Go.ChangeMaps (setBlock)

def useL (l : List Int) (i : Int) : List Int := l.filter (fun x => decide (x ≠ i)) ++ [i]
theorem filter_out {l : List Int} {i : Int} (h : i ∉ l) : l.filter (fun x => decide (x ≠ i)) = l := by
  rw [List.filter_eq_self]
  intro x hx
  simp
  exact fun e => h (e ▸ hx)
theorem filter_at {l : List Int} (hn : l.Nodup) {k : Nat} {i : Int} (hk : l[k]? = some i) : l.take k ++ l.drop (k + 1) = l.filter (fun x => decide (x ≠ i)) := by
  have hl := (List.getElem?_eq_some_iff.1 hk).1
  have h1 : l.drop k = i :: l.drop (k + 1) := by rw [List.drop_eq_getElem_cons hl, (List.getElem?_eq_some_iff.1 hk).2]
  have e : l = l.take k ++ i :: l.drop (k + 1) := by rw [← h1, List.take_append_drop]
  have hn' := hn
  rw [e] at hn'
  obtain ⟨n1, n2, n3⟩ := List.nodup_append.1 hn'
  have a1 : i ∉ l.take k := fun h => n3 i h i (by simp) rfl
  have a2 : i ∉ l.drop (k + 1) := (List.nodup_cons.1 n2).1
  conv => rhs; rw [e]
  rw [List.filter_append, filter_out a1, List.filter_cons_of_neg (by simp), filter_out a2]

theorem info3b : (Try.prog.info? 3).map (fun i => (i.zero, i.size, i.bytes)) = some (some (.int .i64 0), 1, 8) := by kernel_rfl

theorem ord_append {w : World} {ov : Value} {l : List Int} (h : w.ownsRow 0 3 1 ov l.length (l.map (Value.int .i64))) (x : Int) (hn : l.length ≤ 100000) (ty : TypeId) :
    ∃ g cap w', (Builtin.append_ #[40, 40] ty #[ov, .slice (some ⟨w.heap.size, 0, none⟩) 1 1]).run Try.prog (w.alloc (.cells #[.int .i64 x] 3)) = .ok (.slice (some ⟨g, 0, none⟩) (l.length + 1) cap) w' ∧ w'.ownsRow 0 3 1 (.slice (some ⟨g, 0, none⟩) (l.length + 1) cap) (l ++ [x]).length ((l ++ [x]).map (Value.int .i64)) ∧
      Only ov.ownBlock.toList w w' ∧ (ov.ownBlock = some g ∨ w.heap.size ≤ g) := by
  obtain ⟨i0, hi, hz0, hz1, hz2⟩ := info_parts info3b
  have o1 : Only [] w (w.alloc (.cells #[.int .i64 x] 3)) := (Only.refl [] w).alloc _
  have h' := ownsRow_congr' h (w' := w.alloc (.cells #[.int .i64 x] 3)) (fun g hg => o1.block g (ownsRow_own h hg).2.1 (by simp))
  obtain ⟨v', w', hrun, hown, hgrow, hnil, hloc⟩ := run_append_own_at (P := Try.prog) (w.alloc (.cells #[.int .i64 x] 3)) 0 40 ty 3 i0 _ 1 8 Try.underlying40 hi hz0 hz1 hz2 rfl (by omega)
    ov _ _ h' ⟨w.heap.size, 0, none⟩ 1 1 [.int .i64 x] rfl (fun j u hu => by
      have hj : j = 0 := by have := (List.getElem?_eq_some_iff.1 hu).1; simp at this; omega
      subst hj
      simp at hu
      subst hu
      rw [Addr.add_mid, cell_of_row _ _ _ _ _ _ (heap_alloc_last w (.cells #[.int .i64 x] 3))]
      rfl) (by simp [Value.oneCell']) (by unfold maxLen; omega) (by omega) (Nat.zero_le _)
  rcases hown.2 with ⟨_, h0⟩ | ⟨g, cap, cur, e, hb⟩
  · omega
  · subst e
    refine ⟨g, cap, w', hrun, by simpa using hown, (o1.mono (by simp)).grown hgrow (fun k hk => .inl (by rw [hk]; simp)), ?_⟩
    rcases hloc with e | e
    · exact .inl e.symm
    · simp [Value.ownBlock] at e
      exact .inr (by omega)

section
variable {w w' : World} {cb d wb hm pm : Nat} {ov : Value} {C : CaS}

theorem CIs.setOrd (h : CIs w cb d wb hm pm ov C) {w3 : World} (o : Only ov.ownBlock.toList w w3) {v3 : Value} {l' : List Int} (hr : w3.ownsRow 0 3 1 v3 l'.length (l'.map (Value.int .i64))) (hg : ov.ownBlock = v3.ownBlock ∨ ∀ g, v3.ownBlock = some g → w.heap.size ≤ g) :
    CIs (w3.setCell ⟨cb, 6, none⟩ v3) cb d wb hm pm v3 { C with ord := l' } := by
  obtain ⟨a1, a2, a3, a4⟩ := h.apart
  have lt := h.lt
  have hn : ∀ x, x < w.heap.size → (∀ g, ov.ownBlock = some g → g ≠ x) → w3.heap[x]? = w.heap[x]? := fun x hx hne => o.block x hx (by simp only [Option.mem_toList]; exact fun hm => hne x hm rfl)
  have hcb := hn cb (lt cb (by simp [cfoot])) (fun g hg => (a4 g hg).1)
  have hhm := hn hm (lt hm (by simp [cfoot])) (fun g hg => (a4 g hg).2.1)
  have hpm := hn pm (lt pm (by simp [cfoot])) (fun g hg => (a4 g hg).2.2)
  have hv : ∀ g, v3.ownBlock = some g → g ≠ cb := fun g hv3 => by
    rcases hg with e | e
    · exact (a4 g (e.trans hv3)).1
    · have := e g hv3; have := lt cb (by simp [cfoot]); omega
  refine ⟨?_, mapAt_congr h.held ((Below.heap_setCell _ _ _ _ (by simpa using Ne.symm a1)).trans hhm), mapAt_congr h.pinned ((Below.heap_setCell _ _ _ _ (by simpa using Ne.symm a2)).trans hpm), ownsRow_congr' hr (fun g hg => Below.heap_setCell _ _ _ _ (by simpa using hv g hg)), h.ne⟩
  rw [heap_setCell_row (hcb.trans h.row)]
  simp [crow]

theorem CIs.setHeld (h : CIs w cb d wb hm pm ov C) {ob : Obj} {f : Int → Option (Array Value)} (hf : MapAt (setBlock w hm ob) hm f) : CIs (setBlock w hm ob) cb d wb hm pm ov { C with held := f } := by
  obtain ⟨a1, a2, a3, a4⟩ := h.apart
  have hn : ∀ x, x ≠ hm → (setBlock w hm ob).heap[x]? = w.heap[x]? := fun x hx => heap_setBlock_ne w hm ob hx
  exact ⟨(hn cb a1).trans h.row, hf, mapAt_congr h.pinned (hn pm (Ne.symm a3)), ownsRow_congr' h.ord (fun g hg => hn g (a4 g hg).2.1), h.ne⟩

theorem CIs.ordCell (h : CIs w cb d wb hm pm ov C) {g cap : Nat} (e : ov = .slice (some ⟨g, 0, none⟩) C.ord.length cap) : ∀ j, j < C.ord.length → w.cell? ⟨g, 0 + j, none⟩ = some (.int .i64 (C.ord.getD j 0)) := by
  intro j hj
  obtain ⟨cap', cur, _, hb, _, _, _, ht⟩ := h.oblk (g := g) (by rw [e]; rfl)
  have := congrArg (·[j]?) ht
  simp only [List.getElem?_take_of_lt hj, List.getElem?_map] at this
  rw [Nat.zero_add, cell_of_row _ _ _ _ _ _ hb, ← Array.getElem?_toList, this, List.getD_eq_getElem?_getD, List.getElem?_eq_getElem hj]
  rfl

theorem index_any (h : CIs w cb d wb hm pm ov C) (hlen : C.ord.length ≤ 8192) (i : Int) : Calls Try.prog 67 #[ov, .int .i64 i] w fun e w' => e = .returned (.int .i64 (Lib.idxOf C.ord i)) ∧ w' = w := by
  rcases h.ord.2 with ⟨e, hn⟩ | ⟨g, cap, cur, e, _, hh, h1, h2, h3, h4⟩
  · have : C.ord = [] := List.eq_nil_of_length_eq_zero hn
    rw [e, this]
    exact Try.slices_Index_int_empty none 0 i w
  · subst e
    have := Try.slices_Index_int g 0 C.ord.length cap C.ord i w (Nat.le_refl _) (by omega) (h.ordCell rfl)
    rw [List.take_length] at this
    exact this

theorem idx_in {l : List Int} {i : Int} (hi : i ∈ l) : ∃ k : Nat, l[k]? = some i ∧ Lib.idxOf l i = (k : Int) ∧ k < l.length := by
  have hk := List.idxOf_lt_length_of_mem hi
  have hg : l[List.idxOf i l]? = some i := by rw [List.getElem?_eq_getElem hk, List.getElem_idxOf hk]
  refine ⟨List.idxOf i l, hg, ?_, hk⟩
  have := Lib.idxOf_hit l l.length (List.idxOf i l) i hk (Nat.le_refl _) (by rw [List.getD_eq_getElem?_getD, hg]; rfl) (fun j hj e => by
    rw [List.getD_eq_getElem?_getD, List.getElem?_eq_getElem (by omega)] at e
    have h9 := List.not_of_lt_findIdx (p := (· == i)) hj
    rw [show l[j] = i by simpa using e] at h9
    simp at h9)
  rw [List.take_length] at this
  exact this
theorem idx_out {l : List Int} {i : Int} (hi : i ∉ l) : Lib.idxOf l i = -1 := by
  have := Lib.idxOf_miss l l.length i (fun j hj e => hi (by
    rw [List.getD_eq_getElem?_getD, List.getElem?_eq_getElem hj] at e
    simp at e
    rw [← e]
    exact List.getElem_mem hj))
  rw [List.take_length] at this
  exact this

def DelPost (ov : Value) (l : List Int) (w : World) (e : Ending) (w' : World) : Prop := ∃ g n cap, e = .returned (.slice (some ⟨g, 0, none⟩) n cap) ∧ ov.ownBlock = some g ∧ w'.ownsRow 0 3 1 (.slice (some ⟨g, 0, none⟩) n cap) l.length (l.map (Value.int .i64)) ∧ Only ov.ownBlock.toList w w'
theorem delete_any (h : CIs w cb d wb hm pm ov C) (hnd : C.ord.Nodup) (hlen : C.ord.length ≤ 8192) {k : Nat} {i : Int} (hk : C.ord[k]? = some i) :
    Calls Try.prog 68 #[ov, .int .i64 k, .int .i64 ((k : Int) + 1)] w fun e w' => DelPost ov (C.ord.filter (fun x => decide (x ≠ i))) w e w' := by
  have hkl := (List.getElem?_eq_some_iff.1 hk).1
  rcases h.ord.2 with ⟨e, hn⟩ | ⟨g, cap, cur, e, _, hh, h1, h2, h3, h4⟩
  · omega
  · subst e
    have hH : Sort.Holds (Value.int .i64) w g 0 C.ord.toArray := fun j hj => by
      have hj' : j < C.ord.length := by simpa using hj
      refine ⟨?_, by simp [World.frozen?, hh]⟩
      rw [h.ordCell rfl j hj']
      simp [List.getD_eq_getElem?_getD, hj']
    have := Try.slices_Delete_int g 0 cap k (k + 1) C.ord w hH h1 (by unfold maxLen at h2; omega) (by omega) (by omega)
    rw [show ((k + 1 : Nat) : Int) = (k : Int) + 1 by omega] at this
    refine this.mono ?_
    rintro e w' ⟨rfl, q, rfl⟩
    have hts : C.ord.take k ++ C.ord.drop (k + 1) ++ List.replicate (k + 1 - k) 0 = C.ord.filter (fun x => decide (x ≠ i)) ++ [0] := by rw [filter_at hnd hk]; simp
    rw [hts]
    have hl1 : (C.ord.filter (fun x => decide (x ≠ i))).length = C.ord.length - 1 := by
      rw [← filter_at hnd hk]; simp; omega
    generalize C.ord.filter (fun x => decide (x ≠ i)) = L at *
    have hn1 : C.ord.length - (k + 1 - k) = L.length := by omega
    rw [hn1]
    have hblk : (Sort.putRow (Value.int .i64) (Sort.ahead w q) g 0 (L ++ [0]).toArray).heap[g]? = some (.cells (Sort.putCells (Value.int .i64) 0 (L ++ [0]).toArray cur) 3 (0, 0)) := by
      simp [Sort.putRow, Sort.mapBlock, Sort.ahead, Array.getElem?_modify, hh, Sort.onCells]
    have htk := take_putCells_i cur (L ++ [0]) (by simp; omega)
    refine ⟨g, _, cap, rfl, rfl, ⟨by simp, .inr ⟨g, cap, _, rfl, Nat.zero_le _, hblk, by omega, h2, by simp [Sort.putCells]; omega, ?_⟩⟩, ⟨rfl, rfl, rfl, by simp [Sort.putRow, Sort.mapBlock, Sort.ahead], fun x hx hne => ?_⟩⟩
    · have h9 := congrArg (List.take L.length) htk
      rw [List.take_take, Nat.min_eq_left (by simp), List.map_append, List.take_append_of_le_length (by simp), List.take_of_length_le (l := L.map encZ) (by simp)] at h9
      rw [Nat.mul_one]
      exact h9
    · simp [Value.ownBlock] at hne
      simp [Sort.putRow, Sort.mapBlock, Sort.ahead, Array.getElem?_modify, Ne.symm hne]
end
end Go.Proofs.Ytoccnaebckcfmaa
