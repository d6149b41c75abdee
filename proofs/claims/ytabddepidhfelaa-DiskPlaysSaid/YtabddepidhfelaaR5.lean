/- What Write of the document's own disk does. -/
import Derived.Test.YtabddepidhfelaaR4
set_option linter.unusedSimpArgs false
namespace Go.Proofs.Ytabddepidhfelaa
open Go.RowKit

theorem RS.reach_cases (R : RS) (i : Int) : (R.off = true ∧ R.reach i = 2) ∨ (R.off = false ∧ i < 0 ∧ R.reach i = 10) ∨ (R.off = false ∧ ¬ i < 0 ∧ (R.n : Int) ≤ i ∧ R.reach i = 10) ∨ (R.off = false ∧ ¬ i < 0 ∧ ¬ (R.n : Int) ≤ i ∧ R.reach i = 0) := by
  unfold RS.reach
  cases R.off with
  | true => simp
  | false =>
    by_cases h1 : i < 0
    · simp [h1]
    · by_cases h2 : (R.n : Int) ≤ i
      · simp [h1, h2]
      · simp [h1, h2]

set_option maxHeartbeats 400000 in
theorem rwrite_no {w : World} {r : Nat} {G : List Nat} {R : RS} (h : RAt w r G R) (i : Int) (s : Value) (hr : R.reach i ≠ 0) :
    Calls Try.prog 17 #[.pointer (some ⟨r, 0, none⟩), .int .i64 i, s] w fun e w' => e = .returned (.int .i64 (R.reach i)) ∧ w = w' := by
  obtain ⟨bv, lv, h⟩ := h
  obtain ⟨c0, c1, c2, c3, c4, c5, fz⟩ := h.cells
  obtain ⟨g, cap, rfl, _⟩ := h.b
  clear h
  rcases R.reach_cases i with ⟨h0, e⟩ | ⟨h0, h1, e⟩ | ⟨h0, h1, h2, e⟩ | ⟨_, _, _, e⟩
  · rw [h0] at c2
    rw [e]
    clear hr h0 e
    go_enter Try.func17, Try.ntmps17
    go_wp2
    go_ret
    exact ⟨rfl, rfl⟩
  · rw [h0] at c2
    rw [e]
    clear hr h0 e
    go_enter Try.func17, Try.ntmps17
    go_wp2
    go_ret
    exact ⟨rfl, rfl⟩
  · rw [h0] at c2
    rw [e]
    clear hr h0 e
    go_enter Try.func17, Try.ntmps17
    go_wp2
    go_ret
    exact ⟨rfl, rfl⟩
  · exact absurd e hr

set_option maxHeartbeats 400000 in
theorem rwrite_bytes {w : World} {r : Nat} {G : List Nat} {R : RS} (h : RAt w r G R) (i : Int) (ad : Option Addr) (len cap : Nat) (hr : R.reach i = 0) (hl : len ≠ 64) :
    Calls Try.prog 17 #[.pointer (some ⟨r, 0, none⟩), .int .i64 i, .slice ad len cap] w fun e w' => e = .returned (.int .i64 11) ∧ w = w' := by
  obtain ⟨bv, lv, h⟩ := h
  obtain ⟨c0, c1, c2, c3, c4, c5, fz⟩ := h.cells
  obtain ⟨g, cap', rfl, _⟩ := h.b
  clear h
  have hn : ((len : Int) != 64) = true := by simp; omega
  rcases R.reach_cases i with ⟨h0, e⟩ | ⟨h0, h1, e⟩ | ⟨h0, h1, h2, e⟩ | ⟨h0, h1, h2, e⟩
  · omega
  · omega
  · omega
  · rw [h0] at c2
    clear hr h0 e hl
    go_enter Try.func17, Try.ntmps17
    go_wp2
    go_ret
    exact ⟨rfl, rfl⟩

set_option maxHeartbeats 400000 in
theorem rwrite_fall {w : World} {r : Nat} {G : List Nat} {R : RS} (h : RAt w r G R) (i : Int) (ad : Option Addr) (cap : Nat) (hr : R.reach i = 0) (hf : R.falls) :
    Calls Try.prog 17 #[.pointer (some ⟨r, 0, none⟩), .int .i64 i, .slice ad 64 cap] w fun e w' => e = .returned (.int .i64 2) ∧ RPost w w' r G R.fallen := by
  have ST := Lib.hid (rstep_zero h hf)
  obtain ⟨bv, lv, h⟩ := h
  obtain ⟨c0, c1, c2, c3, c4, c5, fz⟩ := h.cells
  obtain ⟨g, cap', rfl, _⟩ := h.b
  clear h hf
  rcases R.reach_cases i with ⟨h0, e⟩ | ⟨h0, h1, e⟩ | ⟨h0, h1, h2, e⟩ | ⟨h0, h1, h2, e⟩
  · omega
  · omega
  · omega
  · rw [h0] at c2
    clear hr h0 e
    go_enter Try.func17, Try.ntmps17
    go_wp2_with fail
    refine ST.out.mono ?_
    rintro e w1 ⟨rfl, hp⟩
    go_wp2
    go_ret
    exact ⟨rfl, hp⟩

theorem build600 (w : World) : (Instr.buildSlice 60 0 #[]).run Try.prog w = .ok (.slice (some ⟨w.heap.size, 0, none⟩) 0 0) (w.alloc (.cells #[] 71)) := by kernel_rfl
theorem build370 (w : World) : (Instr.buildSlice 37 0 #[]).run Try.prog w = .ok (.slice (some ⟨w.heap.size, 0, none⟩) 0 0) (w.alloc (.cells #[] 5)) := by kernel_rfl
theorem append60nil (w : World) (g : Nat) (t : TypeId) : (Builtin.append_ #[60, 60] t #[.slice (some ⟨g, 0, none⟩) 0 0, .slice none 0 0]).run Try.prog w = .ok (.slice (some ⟨g, 0, none⟩) 0 0) w := by
  kernel_rfl

theorem Puts.to {w w' : World} {G G' : List Nat} {l : List (Int × Array Value)} {xs : List Value} (h : Puts w G l xs) (he : ∀ x ∈ G, w'.heap[x]? = w.heap[x]?) (hG : ∀ x ∈ G, x ∈ G') : Puts w' G' l xs :=
  ⟨h.len, fun k p hp => by
    obtain ⟨h1, sv, h2, h3⟩ := h.cell k p hp
    exact ⟨h1, sv, h2, h3.to he hG⟩⟩

/-- 'append([]Put{}, l...)': a row of its own. -/
theorem append60all {w : World} {G : List Nat} {lv : Value} {L : List (Int × Array Value)} (hl : LAt w G lv L) (hG : ∀ x ∈ G, x < w.heap.size) (hlen : L.length < 1000000000) (t : TypeId) :
    ∃ v' w' xs, (Builtin.append_ #[60, 60] t #[.slice (some ⟨w.heap.size, 0, none⟩) 0 0, lv]).run Try.prog (w.alloc (.cells #[] 71)) = .ok v' w' ∧ w'.ownsRow w.heap.size 71 2 v' L.length xs ∧ Puts w G L xs ∧ Only [] w w' := by
  have hown0 : (w.alloc (.cells #[] 71)).ownsRow w.heap.size 71 2 (.slice (some ⟨w.heap.size, 0, none⟩) 0 0) 0 [] := ⟨rfl, .inr ⟨w.heap.size, 0, #[], rfl, Nat.le_refl _, heap_alloc_last w _, Nat.le_refl _, Nat.zero_le _, rfl, rfl⟩⟩
  rcases hl with ⟨rfl, rfl⟩ | ⟨g, cap, rfl, hg, hput⟩
  · exact ⟨_, _, [], append60nil _ _ t, hown0, Puts.nil _ _, (Only.refl [] w).alloc _⟩
  · obtain ⟨i0, hi, hz0, hz1, hz2⟩ := info_parts info71
    have hcell : ∀ j, j < L.length * 2 → ∃ u, w.cell? ⟨g, j, none⟩ = some u ∧ u.oneCell' = true := fun j hj => by
      obtain ⟨p, hp⟩ : ∃ p, L[j / 2]? = some p := ⟨_, List.getElem?_eq_getElem (by omega)⟩
      obtain ⟨h1, sv, h2, g', cap', c, rfl, _⟩ := hput (j / 2) p hp
      rcases Nat.mod_two_eq_zero_or_one j with h | h
      · exact ⟨_, by rw [show j = j / 2 * 2 by omega]; exact h1, rfl⟩
      · exact ⟨_, by rw [show j = j / 2 * 2 + 1 by omega]; exact h2, rfl⟩
    have hx : ∀ j u, w.cell? ⟨g, j, none⟩ = some u → j < L.length * 2 → ((List.range (L.length * 2)).map (fun j => (w.cell? ⟨g, j, none⟩).getD undef))[j]? = some u := fun j u hu hj => by
      rw [List.getElem?_map, List.getElem?_range hj]
      simp [hu]
    obtain ⟨v', w', hrun, hown, hgrow, hnil, hloc⟩ := run_append_own_at (P := Try.prog) (w.alloc (.cells #[] 71)) w.heap.size 60 t 71 i0 _ 2 32 Try.underlying60 hi hz0 hz1 hz2 (by simp [Value.cells]) (by omega)
      (.slice (some ⟨w.heap.size, 0, none⟩) 0 0) 0 [] hown0 ⟨g, 0, none⟩ L.length cap ((List.range (L.length * 2)).map (fun j => (w.cell? ⟨g, j, none⟩).getD undef)) (by simp)
      (fun j u hu => by
        have hj : j < L.length * 2 := by have := (List.getElem?_eq_some_iff.1 hu).1; simpa using this
        obtain ⟨u', h1, _⟩ := hcell j hj
        rw [hx j u' h1 hj] at hu
        cases hu
        rw [Addr.add_mid, Nat.zero_add, World.cell?_alloc_lt _ _ _ (hG g hg), h1])
      (fun u hu => by
        obtain ⟨j, hj, rfl⟩ := List.mem_map.1 hu
        obtain ⟨u', h1, h2⟩ := hcell j (by simpa using hj)
        rw [h1]
        exact h2) (by unfold maxLen; omega) (by omega) (by simp)
    rw [Nat.zero_add, List.nil_append] at hown
    refine ⟨v', w', _, hrun, hown, ⟨by simp, fun k p hp => ?_⟩, ((Only.refl [] w).alloc (.cells #[] 71)).grown hgrow (fun k hk => ?_)⟩
    · have hk : k < L.length := (List.getElem?_eq_some_iff.1 hp).1
      obtain ⟨h1, sv, h2, h3⟩ := hput k p hp
      exact ⟨hx _ _ h1 (by omega), sv, hx _ _ h2 (by omega), h3⟩
    · simp [Value.ownBlock] at hk
      exact .inr (by omega)

theorem info5 : (Try.prog.info? 5).map (fun i => (i.zero, i.size, i.bytes)) = some (some (.int .u8 0), 1, 1) := by kernel_rfl

/-- 'append([]byte{}, b...)' of 64 equal bytes. -/
theorem append37 {w : World} {gb cap : Nat} {c : Int} (hgb : gb < w.heap.size) (hc : ∀ j, j < 64 → w.cell? ⟨gb, j, none⟩ = some (.int .u8 c)) (t : TypeId) :
    ∃ g cap' w', (Builtin.append_ #[37, 37] t #[.slice (some ⟨w.heap.size, 0, none⟩) 0 0, .slice (some ⟨gb, 0, none⟩) 64 cap]).run Try.prog (w.alloc (.cells #[] 5)) = .ok (.slice (some ⟨g, 0, none⟩) 64 cap') w' ∧ w.heap.size ≤ g ∧ g < w'.heap.size ∧
      (∀ j, j < 64 → w'.cell? ⟨g, j, none⟩ = some (.int .u8 c)) ∧ Only [] w w' := by
  obtain ⟨i0, hi, hz0, hz1, hz2⟩ := info_parts info5
  have hown0 : (w.alloc (.cells #[] 5)).ownsRow w.heap.size 5 1 (.slice (some ⟨w.heap.size, 0, none⟩) 0 0) 0 [] := ⟨rfl, .inr ⟨w.heap.size, 0, #[], rfl, Nat.le_refl _, heap_alloc_last w _, Nat.le_refl _, Nat.zero_le _, rfl, rfl⟩⟩
  obtain ⟨v', w', hrun, hown, hgrow, hnil, hloc⟩ := run_append_own_at (P := Try.prog) (w.alloc (.cells #[] 5)) w.heap.size 37 t 5 i0 _ 1 1 Try.underlying37 hi hz0 hz1 hz2 (by simp [Value.cells]) (by omega)
    (.slice (some ⟨w.heap.size, 0, none⟩) 0 0) 0 [] hown0 ⟨gb, 0, none⟩ 64 cap (List.replicate 64 (.int .u8 c)) (by simp)
    (fun j u hu => by
      rw [List.getElem?_replicate] at hu
      split at hu
      · rename_i hj
        cases hu
        rw [Addr.add_mid, Nat.zero_add, World.cell?_alloc_lt _ _ _ hgb, hc j hj]
      · cases hu)
    (fun u hu => by rw [List.eq_of_mem_replicate hu]; rfl) (by unfold maxLen; omega) (by omega) (by simp)
  rw [Nat.zero_add, List.nil_append] at hown
  rcases hown.2 with ⟨_, h0⟩ | ⟨g, cap', cur, rfl, hb, hcur, _, _, _, htake⟩
  · omega
  refine ⟨g, cap', w', hrun, hb, (Array.getElem?_eq_some_iff.1 hcur).1, fun j hj => ?_, ((Only.refl [] w).alloc (.cells #[] 5)).grown hgrow (fun k hk => ?_)⟩
  · rw [cell_of_row _ _ _ _ _ _ hcur, ← Array.getElem?_toList, ← List.getElem?_take_of_lt (show j < 64 * 1 by omega), htake, List.getElem?_replicate, if_pos hj]
  · simp [Value.ownBlock] at hk
    exact .inr (by omega)

theorem ownsRow_only {w w' : World} {base : Nat} {e : TypeId} {size n : Nat} {v : Value} {xs : List Value} (h : w.ownsRow base e size v n xs) (ho : Only [] w w') : w'.ownsRow base e size v n xs := by
  have hlt := h.lt
  obtain ⟨h1, h2⟩ := h
  refine ⟨h1, ?_⟩
  rcases h2 with h2 | ⟨g, cap, cur, hv, hg, hh, r⟩
  · exact .inl h2
  · exact .inr ⟨g, cap, cur, hv, hg, (ho.block g (hlt g (by rw [hv]; rfl)).2 (by simp)).trans hh, r⟩

/-- One more write behind a row of its own; all other blocks stay. -/
theorem append60k {w : World} {base : Nat} {lv : Value} {n : Nat} {xs : List Value} (hown : w.ownsRow base 71 2 lv n xs) (hn : n < 1000000000) (hb : base ≤ w.heap.size) (i : Int) (sa : Option Addr) (m c : Nat) (t : TypeId) :
    ∃ v' w', (Builtin.append_ #[60, 60] t #[lv, .slice (some ⟨w.heap.size, 0, none⟩) 1 1]).run Try.prog (w.alloc (.cells #[.int .i64 i, .slice sa m c] 71)) = .ok v' w' ∧ w'.ownsRow base 71 2 v' (n + 1) (xs ++ [.int .i64 i, .slice sa m c]) ∧
      Only lv.ownBlock.toList w w' := by
  obtain ⟨i0, hi, hz0, hz1, hz2⟩ := info_parts info71
  obtain ⟨v', w', hrun, hown', hgrow, hnil, hloc⟩ := run_append_own_at (P := Try.prog) (w.alloc (.cells #[.int .i64 i, .slice sa m c] 71)) base 60 t 71 i0 _ 2 32 Try.underlying60 hi hz0 hz1 hz2 (by simp [Value.cells]) (by omega)
    lv n xs (hown.alloc _) ⟨w.heap.size, 0, none⟩ 1 1 [.int .i64 i, .slice sa m c] (by simp)
    (fun j u hu => by
      rw [Addr.add_mid, Nat.zero_add, cell_of_row _ _ _ _ _ _ (heap_alloc_last w _)]
      simpa using hu)
    (fun u hu => by simp at hu; rcases hu with rfl | rfl <;> rfl) (by unfold maxLen; omega) (by omega) (by simp; omega)
  exact ⟨v', w', hrun, hown', ((Only.refl _ w).alloc _).grown hgrow (fun k hk => .inl (by simp [hk]))⟩

theorem build71 (x : Int) (a : Option Addr) (n c : Nat) (w : World) : (Instr.build 71 #[(0, .int .i64 x), (1, .slice a n c)]).run Try.prog w = .ok (.agg #[.int .i64 x, .slice a n c]) w := by kernel_rfl

def RS.written (R : RS) (i : Int) (v : Array Value) : RS := { R.stepped with L := R.L ++ [(i, v)] }

set_option maxHeartbeats 1000000 in
theorem rwrite_ok {w : World} {r : Nat} {G : List Nat} {R : RS} (h : RAt w r G R) (i c : Int) (gb cap : Nat) (hgb : gb < w.heap.size) (hgr : gb ≠ r) (hc : ∀ j, j < 64 → w.cell? ⟨gb, j, none⟩ = some (.int .u8 c)) (hr : R.reach i = 0) (hf : ¬ R.falls) (hN : R.N < 1000000000) (hlen : R.L.length < 1000000000) :
    Calls Try.prog 17 #[.pointer (some ⟨r, 0, none⟩), .int .i64 i, .slice (some ⟨gb, 0, none⟩) 64 cap] w fun e w' => e = .returned (.int .i64 0) ∧ RPost w w' r G (R.written i (fullA c)) := by
  have ST := Lib.hid (rstep_ok h hf hN)
  obtain ⟨bv, lv, h⟩ := h
  obtain ⟨c0, c1, c2, c3, c4, c5, fz⟩ := h.cells
  obtain ⟨g, cap', rfl, _⟩ := h.b
  clear h hf
  rcases R.reach_cases i with ⟨h0, e⟩ | ⟨h0, h1, e⟩ | ⟨h0, h1, h2, e⟩ | ⟨h0, h1, h2, e⟩
  · omega
  · omega
  · omega
  rw [h0] at c2
  clear hr h0 e
  go_enter Try.func17, Try.ntmps17
  go_wp2_with fail
  refine ST.out.mono ?_
  rintro e w1 ⟨rfl, G1, r1, hs1, hf1, o1⟩
  clear c0 c1 c2 c3 c4 c5 fz ST
  obtain ⟨bv1, lv1, r1⟩ := r1
  obtain ⟨c0, c1, c2, c3, c4, c5, fz⟩ := r1.cells
  have hr1 : r < w1.heap.size := (Array.getElem?_eq_some_iff.1 r1.row).1
  have hgb1 : gb < w1.heap.size := Nat.lt_of_lt_of_le hgb o1.size
  have hc1 : ∀ j, j < 64 → w1.cell? ⟨gb, j, none⟩ = some (.int .u8 c) := fun j hj => (World.cell?_of_block (w := w) (o1.block gb hgb (by simpa using hgr))).trans (hc j hj)
  obtain ⟨v2, w2, xs, run2, own2, puts2, o2⟩ := append60all r1.l r1.lt hlen 60
  obtain ⟨g3, cap3, w3, run3, hg3, hg3', hc3, o3⟩ := append37 (w := w2) (gb := gb) (cap := cap) (c := c) (Nat.lt_of_lt_of_le hgb1 o2.size) (fun j hj => (World.cell?_of_block (w := w1) (o2.block gb hgb1 (by simp))).trans (hc1 j hj)) 37
  obtain ⟨v4, w4, run4, own4, o4⟩ := append60k (ownsRow_only own2 o3) hlen (Nat.le_trans o2.size o3.size) i (some ⟨g3, 0, none⟩) 64 cap3 60
  have o23 := o2.trans o3 (by simp)
  have h4r : w4.heap[r]? = w1.heap[r]? := (o4.block r (Nat.lt_of_lt_of_le hr1 o23.size) (fun hx => by
    simp only [Option.mem_toList] at hx
    have := (own2.lt r hx).1
    omega)).trans (o23.block r hr1 (by simp))
  have d1 : w4.cell? ⟨r, 1, none⟩ = some lv1 := (World.cell?_of_block (w := w1) h4r).trans c1
  have f4 : ∀ i, w4.frozen? ⟨r, i, none⟩ = false := fun i => (World.frozen?_of_block (w := w1) h4r).trans (fz i)
  have hb6 := build600
  have hb3 := build370
  have hb7 := build71
  have RUN2 := Lib.hid run2
  have RUN3 := Lib.hid run3
  have RUN4 := Lib.hid run4
  have ROW := Lib.hid (h4r.trans r1.row)
  have O4 := Lib.hid o4
  have OWN4 := Lib.hid own4
  have HV4 : v4.oneCell' = true ∧ v4.cells = #[v4] := by
    rcases own4.2 with ⟨h1, _⟩ | ⟨g', cap', cur', h1, _⟩ <;> rw [h1] <;> exact ⟨rfl, rfl⟩
  obtain ⟨a4, cp4, hv4⟩ : ∃ a cp, v4 = .slice a (R.L.length + 1) cp := by
    rcases own4.2 with ⟨_, h1⟩ | ⟨g', cap', cur', h1, _⟩
    · omega
    · exact ⟨_, _, h1⟩
  subst hv4
  have R1 := Lib.hid r1
  clear run2 run3 run4 h4r r1 o4 own4 HV4
  go_wp2_with (first | (refine wpL_value rfl (run_builtin_append rfl rfl rfl RUN2.out) ?_) | (refine wpL_value rfl (run_builtin_append rfl rfl rfl RUN3.out) ?_) | (refine wpL_value rfl (run_builtin_append rfl rfl rfl RUN4.out) ?_) | (refine wpL_value rfl (run_buildSlice60 rfl rfl) ?_))
  go_ret
  refine ⟨rfl, RPost.trans hs1 hf1 o1 ?_⟩
  have r1 := R1.out
  have inG : ∀ x ∈ G1, w3.heap[x]? = w1.heap[x]? := fun x hx => o23.block x (r1.lt x hx) (by simp)
  have puts3 : Puts w3 (g3 :: G1) (R.L ++ [(i, fullA c)]) (xs ++ [.int .i64 i, .slice (some ⟨g3, 0, none⟩) 64 cap3]) := (puts2.to inG (fun x hx => by simp [hx])).snoc (p := (i, fullA c)) ⟨g3, cap3, c, rfl, by simp, rfl, hc3⟩
  have out4 : ∀ x ∈ g3 :: G1, w4.heap[x]? = w3.heap[x]? := fun x hx => by
    rcases List.mem_cons.1 hx with rfl | hx
    · exact O4.out.block x hg3' (fun h => by
        simp only [Option.mem_toList] at h
        have := (own2.lt x h).2
        omega)
    · exact O4.out.block x (Nat.lt_of_lt_of_le (r1.lt x hx) o23.size) (fun h => by
        simp only [Option.mem_toList] at h
        have := (own2.lt x h).1
        have := r1.lt x hx
        omega)
  obtain ⟨G2, l4, hG2⟩ := puts3.at_own (by rw [List.length_append]; exact OWN4.out) out4
  have o14 : Only [] w1 w4 := o23.trans O4.out (fun x hx => by simp only [Option.mem_toList] at hx; exact .inr (own2.lt x hx).1)
  have o15 : Only [r] w1 (w4.setCell ⟨r, 1, none⟩ (.slice a4 (R.L.length + 1) cp4)) := (o14.mono (by simp)).setCell (by simp) _
  have new : ∀ x ∈ G2 ++ g3 :: G1, x ∈ G1 ∨ w1.heap.size ≤ x := fun x hx => by
    rcases List.mem_append.1 hx with hx | hx
    · exact .inr (hG2 x hx).1
    · rcases List.mem_cons.1 hx with rfl | hx
      · exact .inr (Nat.le_trans o2.size hg3)
      · exact .inl hx
  have hrn : r ∉ G2 ++ g3 :: G1 := fun hx => by
    rcases new r hx with h | h
    · exact r1.out h
    · omega
  have he : ∀ x ∈ G2 ++ g3 :: G1, (w4.setCell ⟨r, 1, none⟩ (.slice a4 (R.L.length + 1) cp4)).heap[x]? = w4.heap[x]? := fun x hx => Below.heap_setCell _ _ _ _ (fun e => hrn (by rw [show r = x from e.symm]; exact hx))
  refine ⟨G2 ++ g3 :: G1, ⟨bv1, .slice a4 (R.L.length + 1) cp4, ?_, ?_, ?_, hrn, fun x hx => ?_, ⟨r1.ok.n1, r1.ok.n2, ?_, r1.ok.left0, r1.ok.N0⟩⟩, fun x hx => by simp [hx], new, o15⟩
  · rw [heap_setCell_row ROW.out]
    rfl
  · exact r1.b.to (fun x hx => o15.block x (r1.lt x hx) (fun h => r1.out (by simp at h; subst h; exact hx))) (fun x hx => by simp [hx])
  · exact l4.to he (fun x hx => hx)
  · rw [World.size_setCell]
    rcases List.mem_append.1 hx with hx | hx
    · exact (hG2 x hx).2
    · rcases List.mem_cons.1 hx with rfl | hx
      · exact Nat.lt_of_lt_of_le hg3' O4.out.size
      · exact Nat.lt_of_lt_of_le (r1.lt x hx) o14.size
  · intro p hp
    simp only [RS.written, List.mem_append, List.mem_singleton] at hp
    rcases hp with hp | rfl
    · exact r1.ok.at' p hp
    · simp only [RS.written, RS.stepped]; omega

end Go.Proofs.Ytabddepidhfelaa
