/- Rows of sectors of a law's own, beside other things; what rows does. -/
import Derived.Test.YtfkpehefofihmaaA0
set_option linter.unusedSimpArgs false
set_option linter.unusedVariables false
set_option maxRecDepth 8000
namespace Go.Proofs.Ytfkpehefofihmaa
open Go.RowKit

/-- The slice v holds the rows vs, each of 64 bytes; all of it lies in the blocks G. -/
def QAt (w : World) (G : List Nat) (v : Value) (vs : List (Array Value)) : Prop :=
  ∃ gs : List (Nat × Nat), gs.length = vs.length ∧ w.ownsRow 0 51 1 v vs.length (gs.map (fun g => Value.slice (some ⟨g.1, 0, none⟩) 64 g.2)) ∧ (∀ g, v.ownBlock = some g → g ∈ G) ∧
    ∀ (i : Nat) (c : Array Value) (g : Nat × Nat), vs[i]? = some c → gs[i]? = some g → g.1 ∈ G ∧ SecOk c ∧ ∃ (t : TypeId) (d : Array Value), t ≠ 51 ∧ w.heap[g.1]? = some (.cells d t (0, 0)) ∧ d.toList.take 64 = c.toList

theorem QAt.congr {w w' : World} {G : List Nat} {v : Value} {vs : List (Array Value)} (h : QAt w G v vs) (he : ∀ x ∈ G, w'.heap[x]? = w.heap[x]?) : QAt w' G v vs := by
  obtain ⟨gs, h1, h2, h3, h4⟩ := h
  refine ⟨gs, h1, ownsRow_congr' h2 (fun g hg => he g (h3 g hg)), h3, fun i p g hp hg => ?_⟩
  obtain ⟨e1, e2, t, d, e3, e4, e5⟩ := h4 i p g hp hg
  exact ⟨e1, e2, t, d, e3, (he g.1 e1).trans e4, e5⟩

def QRes (G : List Nat) (v : Value) (vs : List (Array Value)) : Res := ⟨G, fun w => QAt w G v vs, fun _ _ he h => h.congr he⟩
theorem Has.qat {w0 w : World} {G : List Nat} {v : Value} {vs : List (Array Value)} {Rs : List Res} (h : Has w0 w Rs) (hm : QRes G v vs ∈ Rs) : QAt w G v vs := (h.each _ hm).1

theorem QAt.slice {w : World} {G : List Nat} {v : Value} {vs : List (Array Value)} (h : QAt w G v vs) : ∃ a cap, v = .slice a vs.length cap := by
  obtain ⟨gs, h1, h2, h3, h4⟩ := h
  rcases h2.2 with ⟨e, hn⟩ | ⟨g, cap, cur, e, _⟩
  · exact ⟨none, 0, by rw [e, hn]⟩
  · exact ⟨_, cap, e⟩

/-- The cell of row i. -/
theorem QAt.cells {w : World} {G : List Nat} {v : Value} {vs : List (Array Value)} (h : QAt w G v vs) {i : Nat} {c : Array Value} (hc : vs[i]? = some c) :
    ∃ g cap gb cb t d, v = .slice (some ⟨g, 0, none⟩) vs.length cap ∧ g ∈ G ∧ g < w.heap.size ∧ gb ∈ G ∧ w.cell? ⟨g, i, none⟩ = some (.slice (some ⟨gb, 0, none⟩) 64 cb) ∧ SecOk c ∧ w.heap[gb]? = some (.cells d t (0, 0)) ∧ d.toList.take 64 = c.toList := by
  obtain ⟨gs, h1, h2, h3, h4⟩ := h
  have hi := (List.getElem?_eq_some_iff.1 hc).1
  obtain ⟨gb, hgb⟩ : ∃ g, gs[i]? = some g := ⟨_, List.getElem?_eq_getElem (by omega)⟩
  rcases h2.2 with ⟨e, hn⟩ | ⟨g, cap, cur, e, _, hh, _, _, hcs, hcur⟩
  · omega
  · obtain ⟨e1, e2, t, d, _, e4, e5⟩ := h4 i c gb hc hgb
    refine ⟨g, cap, gb.1, gb.2, t, d, e, h3 g (by rw [e]; rfl), (Array.getElem?_eq_some_iff.1 hh).1, e1, ?_, e2, e4, e5⟩
    have h5 : (cur.toList.take (vs.length * 1))[i]? = some (.slice (some ⟨gb.1, 0, none⟩) 64 gb.2) := by rw [hcur, List.getElem?_map, hgb]; rfl
    rw [List.getElem?_take_of_lt (by omega)] at h5
    rw [cell_of_row _ _ _ _ _ _ hh, ← Array.getElem?_toList]
    exact h5

theorem has_qnil {w0 w : World} {Rs : List Res} (h : Has w0 w Rs) : Has w0 (w.alloc (.cells #[] 51)) (QRes [w.heap.size] (.slice (some ⟨w.heap.size, 0, none⟩) 0 0) [] :: Rs) :=
  h.more ((Only.refl [] w).alloc _) (QRes [w.heap.size] (.slice (some ⟨w.heap.size, 0, none⟩) 0 0) [])
    ⟨[], rfl, ⟨rfl, .inr ⟨w.heap.size, 0, #[], rfl, Nat.zero_le _, heap_alloc_last w _, Nat.le_refl _, by decide, rfl, rfl⟩⟩, fun g hg => by simp [Value.ownBlock] at hg; simp [hg], by simp⟩
    (fun x hx => by simp [QRes] at hx; subst hx; simp)

theorem info51a : (Try.prog.info? 51).map (fun i => (i.zero, i.size, i.bytes)) = some (some (.slice none 0 0), 1, 24) := by kernel_rfl

/-- One row more, whose bytes were read just now. -/
theorem has_qappend {w0 w : World} {G : List Nat} {v : Value} {vs : List (Array Value)} {Rs : List Res} (h : Has w0 w (QRes G v vs :: Rs)) (x : Array Value) (hx : SecOk x) (hn : vs.length ≤ 100000) (ty : TypeId) :
    ∃ v' w', (Builtin.append_ #[29, 29] ty #[v, .slice (some ⟨w.heap.size + 1, 0, none⟩) 1 1]).run Try.prog ((w.alloc (.cells x 88)).alloc (.cells #[.slice (some ⟨w.heap.size, 0, none⟩) 64 64] 51)) = .ok v' w' ∧ ∃ G', Has w0 w' (QRes G' v' (vs ++ [x]) :: Rs) := by
  have hl := h.qat (by simp : QRes G v vs ∈ QRes G v vs :: Rs)
  have hGlt : ∀ y ∈ G, y < w.heap.size := fun y hy => ((h.each (QRes G v vs) (by simp)).2 y hy).2
  obtain ⟨gs, h1, h2, h3, h4⟩ := hl
  obtain ⟨i0, hi, hz0, hz1, hz2⟩ := info_parts info51a
  have hblk := heap_alloc_last (w.alloc (.cells x 88)) (.cells #[.slice (some ⟨w.heap.size, 0, none⟩) 64 64] 51)
  rw [World.size_alloc] at hblk
  have hxb : ((w.alloc (.cells x 88)).alloc (.cells #[.slice (some ⟨w.heap.size, 0, none⟩) 64 64] 51)).heap[w.heap.size]? = some (.cells x 88 (0, 0)) := by
    rw [Below.heap_alloc _ _ _ (by simp)]; exact heap_alloc_last w _
  have o2 : Only [] w ((w.alloc (.cells x 88)).alloc (.cells #[.slice (some ⟨w.heap.size, 0, none⟩) 64 64] 51)) := ((Only.refl [] w).alloc _).alloc _
  have hs2 : ((w.alloc (.cells x 88)).alloc (.cells #[.slice (some ⟨w.heap.size, 0, none⟩) 64 64] 51)).heap.size = w.heap.size + 1 + 1 := by simp
  generalize (w.alloc (.cells x 88)).alloc (.cells #[.slice (some ⟨w.heap.size, 0, none⟩) 64 64] 51) = w2 at *
  have h2' := ownsRow_congr' h2 (w' := w2) (fun g hg => o2.block g (ownsRow_own h2 hg).2.1 (by simp))
  obtain ⟨v', w', hrun, hown, hgrow, hnil, hloc⟩ := run_append_own_at (P := Try.prog) w2 0 29 ty 51 i0 _ 1 24 Try.underlying29 hi hz0 hz1 hz2 rfl (by omega)
    v _ _ h2' ⟨w.heap.size + 1, 0, none⟩ 1 1 [.slice (some ⟨w.heap.size, 0, none⟩) 64 64] rfl (fun j u hu => by
      rw [Addr.add_mid, Nat.zero_add, cell_of_row _ _ _ _ _ _ hblk]
      simpa using hu) (fun u hu => by simp at hu; subst hu; rfl) (by unfold maxLen; omega) (by omega) (Nat.zero_le _)
  have hO : Only G w w' := (o2.mono (by simp)).grown hgrow (fun y hy => .inl (h3 y hy))
  have h5 : ∀ (y : Nat) (c : Array Value) (t : TypeId), t ≠ 51 → w2.heap[y]? = some (.cells c t (0, 0)) → w'.heap[y]? = some (.cells c t (0, 0)) := fun y c t ht hy => by
    rw [hgrow.block y (Array.getElem?_eq_some_iff.1 hy).1 (fun e => ?_)]
    · exact hy
    · obtain ⟨_, _, cur, hcur⟩ := ownsRow_own h2' e.symm
      rw [hcur] at hy
      simp at hy
      exact ht hy.2.symm
  have hgsz := hgrow.size
  refine ⟨v', w', hrun, G ++ v'.ownBlock.toList ++ [w.heap.size], h.turn (r' := QRes (G ++ v'.ownBlock.toList ++ [w.heap.size]) v' (vs ++ [x])) hO ?_ ?_⟩
  · refine ⟨gs ++ [(w.heap.size, 64)], by simp [h1], ?_, fun g hg => by simp [hg], ?_⟩
    · rw [List.map_append, List.length_append]
      simpa using hown
    · intro j p g hp hg
      by_cases hj : j < vs.length
      · rw [List.getElem?_append_left hj] at hp
        rw [List.getElem?_append_left (by omega)] at hg
        obtain ⟨e1, e2, t, d, e3, e4, e5⟩ := h4 j p g hp hg
        exact ⟨by simp [e1], e2, t, d, e3, h5 g.1 _ t e3 ((o2.block g.1 (hGlt g.1 e1) (by simp)).trans e4), e5⟩
      · rw [List.getElem?_append_right (by omega)] at hp hg
        have hj0 : j - vs.length = 0 := by
          have := (List.getElem?_eq_some_iff.1 hp).1
          simp at this; omega
        rw [hj0] at hp
        rw [h1, hj0] at hg
        simp at hp hg
        subst hp hg
        exact ⟨by simp, hx, 88, x, by decide, h5 _ _ 88 (by decide) hxb, List.take_of_length_le (by simp [hx.1])⟩
  · intro y hy
    simp only [QRes, List.mem_append, Option.mem_toList, List.mem_singleton] at hy
    rcases hy with (hy | hy) | hy
    · exact ⟨.inl hy, by have := hGlt y hy; omega⟩
    · rcases hloc with e | e
      · rw [e] at hy
        have := h3 y hy
        exact ⟨.inl this, by have := hGlt y this; omega⟩
      · have hlt := (ownsRow_own hown hy).2.1
        rw [e] at hy
        simp at hy
        exact ⟨.inr (by omega), hlt⟩
    · subst hy
      exact ⟨.inr (Nat.le_refl _), by omega⟩

/-- The sectors below k that are not the log's. -/
def seen (S : St) (a : Int) (k : Nat) : List (Array Value) := ((List.range k).filter (isOut a 40)).map (fun j : Nat => (S.now (j : Int)).getD Z)
theorem seen_in (S : St) (a : Int) (k : Nat) (h : isOut a 40 k = true) : seen S a (k + 1) = seen S a k ++ [(S.now (k : Int)).getD Z] := by
  simp [seen, List.range_succ, List.filter_append, h]
theorem seen_out (S : St) (a : Int) (k : Nat) (h : isOut a 40 k = false) : seen S a (k + 1) = seen S a k := by
  simp [seen, List.range_succ, List.filter_append, h]
theorem seen_len (S : St) (a : Int) (k : Nat) : (seen S a k).length ≤ k := by
  unfold seen
  rw [List.length_map]
  exact Nat.le_trans (List.length_filter_le _ _) (by simp)
theorem buildSlice29_0 (w : World) : (Instr.buildSlice 29 0 #[]).run Try.prog w = .ok (.slice (some ⟨w.heap.size, 0, none⟩) 0 0) (w.alloc (.cells #[] 51)) := by kernel_rfl
def RowsPost (w0 : World) (b : Nat) (F : List Nat) (S : St) (a : Int) (Rs : List Res) (e : Ending) (w' : World) : Prop := ∃ G v, e = .returned (.tuple #[v, .bool true]) ∧ Has w0 w' (QRes G v (seen S a S.n.toNat) :: DRes b F S :: Rs)
theorem RowsPost.mk {w0 : World} {b : Nat} {F : List Nat} {S : St} {a : Int} {Rs : List Res} {w' : World} {G : List Nat} {v : Value} (h : Has w0 w' (QRes G v (seen S a S.n.toNat) :: DRes b F S :: Rs)) : RowsPost w0 b F S a Rs (.returned (.tuple #[v, .bool true])) w' := Exists.intro G (Exists.intro v ⟨rfl, h⟩)

set_option maxHeartbeats 2000000 in
theorem rows_any {w0 w : World} {b : Nat} {F : List Nat} {S : St} {Rs : List Res} (h : Has w0 w (DRes b F S :: Rs)) (hon : S.on = true) (a : Int) (ha : 0 ≤ a) (ha1 : a ≤ 8192) :
    Calls Try.prog 11 #[.pointer (some ⟨b, 0, none⟩), .int .i64 a] w fun e w' => RowsPost w0 b F S a Rs e w' := by
  have ok : StOk S := by obtain ⟨_, _, _, h, _⟩ := h.dat; exact h.ok
  have n0 := ok.n0
  have n1 := ok.n1
  have hbs := buildSlice29_0
  have H := Lib.hid (has_qnil h)
  have OK := Lib.hid ok
  have HON := Lib.hid hon
  clear h ok hon
  go_enter Try.func11, Try.ntmps11
  go_wp2
  go_loopw [7, 6] (fun i c wr => ∃ (k : Nat) (G : List Nat), (k : Int) ≤ S.n ∧ i = .int .i64 k ∧ Has w0 wr (QRes G c (seen S a k) :: DRes b F S :: Rs)) (fun i _ _ => S.n.toNat - (intOf i).toNat)
  case atStart => exact ⟨0, _, by omega, rfl, H.out⟩
  case round =>
    obtain ⟨k, G, hk, rfl, hh⟩ := hrel
    have LE := Lib.hid (len_any hh.swap.dat)
    by_cases hkn : (k : Int) < S.n
    · cases hio : isOut a 40 k with
      | true =>
        have RD := Lib.hid (read_ok hh.swap.dat (k : Int) (by rw [St.reach, if_neg (by simp [HON.out]), if_neg (by omega)]))
        obtain ⟨v3, w3, hrun, G3, h3⟩ := has_qappend hh ((S.now (k : Int)).getD Z) (secOk_getD OK.out.now _) (by have := seen_len S a k; omega) 29
        rw [← seen_in S a k hio] at h3
        have RUN := Lib.hid hrun
        have H3 := Lib.hid h3
        simp only [isOut, decide_eq_true_eq] at hio
        clear hh hrun h3
        by_cases hlow : (k : Int) < a
        · go_wp2_with (first | (go_at_call 15; refine LE.out.mono ?_; rintro e w' ⟨rfl, rfl⟩) | (go_at_call 26; refine RD.out.mono ?_; rintro e w' ⟨rfl, rfl⟩) | (refine wpL_value rfl (run_builtin_append rfl rfl rfl RUN.out) ?_))
          go_roundw
          case rel => exact ⟨k + 1, G3, by omega, by go_num, H3.out⟩
          case measure => simp [intOf]; omega
        · go_wp2_with (first | (go_at_call 15; refine LE.out.mono ?_; rintro e w' ⟨rfl, rfl⟩) | (go_at_call 26; refine RD.out.mono ?_; rintro e w' ⟨rfl, rfl⟩) | (refine wpL_value rfl (run_builtin_append rfl rfl rfl RUN.out) ?_))
          go_roundw
          case rel => exact ⟨k + 1, G3, by omega, by go_num, H3.out⟩
          case measure => simp [intOf]; omega
      | false =>
        rw [← seen_out S a k hio] at hh
        have H3 := Lib.hid hh
        simp only [isOut, decide_eq_false_iff_not] at hio
        clear hh
        go_wp2_with (go_at_call 15; refine LE.out.mono ?_; rintro e w' ⟨rfl, rfl⟩)
        go_roundw
        case rel => exact ⟨k + 1, G, by omega, by go_num, H3.out⟩
        case measure => simp [intOf]; omega
    · have hkl : k = S.n.toNat := by omega
      have H3 : Hid (Has w0 wr (QRes G u6 (seen S a S.n.toNat) :: DRes b F S :: Rs)) := (by rw [← hkl]; exact hh : Has w0 wr (QRes G u6 (seen S a S.n.toNat) :: DRes b F S :: Rs))
      clear hh hkl
      go_wp2_with (go_at_call 15; refine LE.out.mono ?_; rintro e w' ⟨rfl, rfl⟩)
      go_ret2
      exact RowsPost.mk H3.out

end Go.Proofs.Ytfkpehefofihmaa
