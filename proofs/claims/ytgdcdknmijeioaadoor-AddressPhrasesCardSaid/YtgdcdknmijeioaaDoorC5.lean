/- isSide, isValid; strings.Cut at the @. -/
import Derived.Test.YtgdcdknmijeioaaDoorC4
set_option linter.unusedSimpArgs false
set_option linter.unusedVariables false
namespace Go.Proofs.YtgdcdknmijeioaaDoor
open Go.RowKit Go.Shelf

/-- internal/bytealg.MaxLen holds a number. -/
def Max (w : World) : Prop := ∃ m : Int, w.cell? ⟨0, 0, none⟩ = some (.int .i64 m)
theorem Max.below {w w' : World} (h : Max w) (hb : Below w.heap.size w w') : Max w' := by
  obtain ⟨m, hm⟩ := h
  refine ⟨m, ?_⟩
  have hlt : 0 < w.heap.size := by
    unfold World.cell? at hm
    by_cases h0 : 0 < w.heap.size
    · exact h0
    · have : w.heap[0]? = none := Array.getElem?_eq_none (by omega)
      simp [this] at hm
  rw [hb.cell (p := ⟨0, 0, none⟩) hlt]
  exact hm
theorem spl_len (l : List UInt8) : ∀ p ∈ spl l, p.length ≤ l.length := by
  induction l with
  | nil => simp [spl]
  | cons c t ih =>
    intro p hp
    rw [spl] at hp
    split at hp
    · rcases List.mem_cons.1 hp with rfl | h
      · simp
      · have := ih p h; simp; omega
    · have hc := spl_cons t
      rcases List.mem_cons.1 hp with rfl | h
      · have := ih ((spl t).headD []) (by rw [hc]; simp)
        simp only [List.length_cons]; omega
      · have := ih p (by rw [hc]; exact List.mem_cons_of_mem _ h)
        simp; omega
theorem spl_cnt (l : List UInt8) : (spl l).length ≤ l.length + 1 := by
  induction l with
  | nil => simp [spl]
  | cons c t ih =>
    rw [spl]
    have h3 : (spl t).tail.length + 1 = (spl t).length := by
      cases h : spl t with
      | nil => exact absurd h (spl_ne t)
      | cons x r => simp
    split
    · simp only [List.length_cons]; omega
    · simp only [List.length_cons]; omega
theorem split_any (s : ByteArray) (hs : s.size ≤ 64) (w : World) (hM : Max w) :
    Calls Tryd.prog 40 #[.string s, .string ⟨#[46]⟩] w fun e w' => ∃ xs : List ByteArray, xs.map (·.data.toList) = spl s.data.toList ∧ e = .returned (.slice (some ⟨w.heap.size, 0, none⟩) xs.length xs.length) ∧ w' = w.alloc (.cells (xs.map Value.string).toArray 9) := by
  obtain ⟨m, hm⟩ := hM
  refine (Tryd.strings_Split s ⟨#[46]⟩ m w (by omega) hm (by decide)).mono ?_
  rintro e w' ⟨rfl, rfl⟩
  refine ⟨_, splitB_spl s, ?_, rfl⟩
  rw [Lib.splitB_all ⟨#[46]⟩ (by decide) 0 _ s rfl]
def SideRes (b : Bool) (w : World) (e : Ending) (w' : World) : Prop := e = .returned (.bool b) ∧ Below w.heap.size w w'
set_option maxHeartbeats 1000000 in
theorem side_28 (s : ByteArray) (hs : s.size ≤ 9223372036854775807) (w : World) (hM : Max w) :
    Calls Tryd.prog 27 #[.string s, .func (.func 28) #[] #[]] w (SideRes (sideP false s.data.toList) w) := by
  have hsz := Lib.size_eq s
  by_cases hlong : 64 < s.size
  · have hf : sideP false s.data.toList = false := by unfold sideP; rw [decide_eq_false (by omega)]; rfl
    rw [hf]
    have h1 : (64 : Int) < s.size := by omega
    clear hsz hlong hf
    unfold SideRes
    go_enter Tryd.func27, Tryd.ntmps27
    go_wp2
    go_ret
    exact ⟨rfl, Below.refl _ _⟩
  · have h1 : ¬ (64 : Int) < s.size := by omega
    have hf : sideP false s.data.toList = (spl s.data.toList).all (pieceP false) := by unfold sideP; rw [decide_eq_true (by omega)]; rfl
    have hq : ∀ p ∈ spl s.data.toList, p.length ≤ 64 := fun p hp => by have := spl_len _ p hp; omega
    rw [hf]
    have c1 := split_any s (by omega) w hM
    clear hsz hf hlong
    unfold SideRes
    go_enter Tryd.func27, Tryd.ntmps27
    go_wp2_with fail
    refine c1.mono ?_
    rintro e w1 ⟨xs, hxs, rfl, rfl⟩
    rw [← hxs] at hq
    have HX := Lib.hid hxs
    have hcell : ∀ (j : Nat) x, xs[j]? = some x → (w.alloc (.cells (xs.map Value.string).toArray 9)).cell? ⟨w.heap.size, j, none⟩ = some (.string x) := by
      intro j x hj
      rw [cell_of_row _ _ _ _ _ _ (heap_alloc_new w _)]
      simp [hj]
    have hlt : w.heap.size < (w.alloc (.cells (xs.map Value.string).toArray 9)).heap.size := by simp
    have hb : Below w.heap.size w (w.alloc (.cells (xs.map Value.string).toArray 9)) := (Below.refl _ _).alloc (Nat.le_refl _) _
    have hlen : xs.length ≤ 9223372036854775807 := by
      have e1 := congrArg List.length hxs
      have e2 := spl_cnt
      have := e2 s.data.toList
      have := Lib.size_eq s
      simp at e1
      omega
    clear hxs c1 h1
    generalize w.alloc (.cells (xs.map Value.string).toArray 9) = w1 at *
    have HQ := Lib.hid hq
    have HB := Lib.hid hb
    have HC := Lib.hid hcell
    clear hq hb hcell
    go_wp2_with fail
    go_loopw [13] (fun i wr => ∃ n : Nat, i = .int .i64 n ∧ n ≤ xs.length ∧ Hid (((xs.take n).map (·.data.toList)).all (pieceP false) = true) ∧ wr = w1) (fun i _ => xs.length - (intOf i).toNat)
    case atStart => exact ⟨0, rfl, Nat.zero_le _, Lib.hid rfl, rfl⟩
    case round =>
      obtain ⟨n, rfl, hn, hR, rfl⟩ := hrel
      by_cases hlt' : n < xs.length
      · have hx : xs[n]? = some xs[n] := List.getElem?_eq_getElem hlt'
        have hc := HC.out n _ hx
        have hz : (xs[n]).size ≤ 9223372036854775807 := by
          have := HQ.out (xs[n]).data.toList (List.mem_map.2 ⟨xs[n], List.getElem_mem hlt', rfl⟩)
          rw [Lib.size_eq]; omega
        have c2 := fun w => isAtom_any xs[n] hz w
        have hR1 : Hid (((xs.take (n + 1)).map (·.data.toList)).all (pieceP false) = pieceP false (xs[n]).data.toList) := Lib.hid (by
          rw [List.take_succ_eq_append_getElem hlt', List.map_append, List.all_append, hR.out]; simp)
        have hR2 : Hid (pieceP false (xs[n]).data.toList = false → (xs.map (·.data.toList)).all (pieceP false) = false) := Lib.hid (fun hf => by
          rw [List.all_eq_false]
          exact ⟨_, List.mem_map.2 ⟨xs[n], List.getElem_mem hlt', rfl⟩, by rw [hf]; decide⟩)
        have hp : pieceP false (xs[n]).data.toList = atomP (xs[n]).data.toList := rfl
        rw [← hp] at c2
        clear hp hx hz
        generalize xs[n] = x at *
        cases hv : pieceP false x.data.toList
        · rw [hv] at c2 hR1
          have HE := Lib.hid (hR2.out hv)
          clear hv hR2 hR1
          go_wp2_with fail
          refine (c2 _).mono ?_; rintro e w2 ⟨rfl, rfl⟩
          go_wp2_with fail
          go_ret
          exact ⟨by rw [← HX.out, HE.out]; rfl, HB.out⟩
        · rw [hv] at c2 hR1
          clear hv hR2
          go_wp2_with fail
          refine (c2 _).mono ?_; rintro e w2 ⟨rfl, rfl⟩
          go_wp2_with fail
          exact ⟨⟨n + 1, by go_num, by omega, hR1, trivial⟩, by simp [intOf]; omega⟩
      · have HE : Hid ((xs.map (·.data.toList)).all (pieceP false) = true) := Lib.hid (by
          have := hR.out
          rwa [List.take_of_length_le (by omega)] at this)
        go_wp2_with fail
        go_ret
        exact ⟨by rw [← HX.out, HE.out]; rfl, HB.out⟩
set_option maxHeartbeats 1000000 in
theorem side_29 (s : ByteArray) (hs : s.size ≤ 9223372036854775807) (w : World) (hM : Max w) :
    Calls Tryd.prog 27 #[.string s, .func (.func 29) #[] #[]] w (SideRes (sideP true s.data.toList) w) := by
  have hsz := Lib.size_eq s
  by_cases hlong : 64 < s.size
  · have hf : sideP true s.data.toList = false := by unfold sideP; rw [decide_eq_false (by omega)]; rfl
    rw [hf]
    have h1 : (64 : Int) < s.size := by omega
    clear hsz hlong hf
    unfold SideRes
    go_enter Tryd.func27, Tryd.ntmps27
    go_wp2
    go_ret
    exact ⟨rfl, Below.refl _ _⟩
  · have h1 : ¬ (64 : Int) < s.size := by omega
    have hf : sideP true s.data.toList = (spl s.data.toList).all (pieceP true) := by unfold sideP; rw [decide_eq_true (by omega)]; rfl
    have hq : ∀ p ∈ spl s.data.toList, p.length ≤ 64 := fun p hp => by have := spl_len _ p hp; omega
    rw [hf]
    have c1 := split_any s (by omega) w hM
    clear hsz hf hlong
    unfold SideRes
    go_enter Tryd.func27, Tryd.ntmps27
    go_wp2_with fail
    refine c1.mono ?_
    rintro e w1 ⟨xs, hxs, rfl, rfl⟩
    rw [← hxs] at hq
    have HX := Lib.hid hxs
    have hcell : ∀ (j : Nat) x, xs[j]? = some x → (w.alloc (.cells (xs.map Value.string).toArray 9)).cell? ⟨w.heap.size, j, none⟩ = some (.string x) := by
      intro j x hj
      rw [cell_of_row _ _ _ _ _ _ (heap_alloc_new w _)]
      simp [hj]
    have hlt : w.heap.size < (w.alloc (.cells (xs.map Value.string).toArray 9)).heap.size := by simp
    have hb : Below w.heap.size w (w.alloc (.cells (xs.map Value.string).toArray 9)) := (Below.refl _ _).alloc (Nat.le_refl _) _
    have hlen : xs.length ≤ 9223372036854775807 := by
      have e1 := congrArg List.length hxs
      have e2 := spl_cnt
      have := e2 s.data.toList
      have := Lib.size_eq s
      simp at e1
      omega
    clear hxs c1 h1
    generalize w.alloc (.cells (xs.map Value.string).toArray 9) = w1 at *
    have HQ := Lib.hid hq
    have HB := Lib.hid hb
    have HC := Lib.hid hcell
    clear hq hb hcell
    go_wp2_with fail
    go_loopw [13] (fun i wr => ∃ n : Nat, i = .int .i64 n ∧ n ≤ xs.length ∧ Hid (((xs.take n).map (·.data.toList)).all (pieceP true) = true) ∧ wr = w1) (fun i _ => xs.length - (intOf i).toNat)
    case atStart => exact ⟨0, rfl, Nat.zero_le _, Lib.hid rfl, rfl⟩
    case round =>
      obtain ⟨n, rfl, hn, hR, rfl⟩ := hrel
      by_cases hlt' : n < xs.length
      · have hx : xs[n]? = some xs[n] := List.getElem?_eq_getElem hlt'
        have hc := HC.out n _ hx
        have hz : (xs[n]).size ≤ 9223372036854775807 := by
          have := HQ.out (xs[n]).data.toList (List.mem_map.2 ⟨xs[n], List.getElem_mem hlt', rfl⟩)
          rw [Lib.size_eq]; omega
        have c2 := fun w => isLabel_any xs[n] hz w
        have hR1 : Hid (((xs.take (n + 1)).map (·.data.toList)).all (pieceP true) = pieceP true (xs[n]).data.toList) := Lib.hid (by
          rw [List.take_succ_eq_append_getElem hlt', List.map_append, List.all_append, hR.out]; simp)
        have hR2 : Hid (pieceP true (xs[n]).data.toList = false → (xs.map (·.data.toList)).all (pieceP true) = false) := Lib.hid (fun hf => by
          rw [List.all_eq_false]
          exact ⟨_, List.mem_map.2 ⟨xs[n], List.getElem_mem hlt', rfl⟩, by rw [hf]; decide⟩)
        have hp : pieceP true (xs[n]).data.toList = labelP (xs[n]).data.toList := rfl
        rw [← hp] at c2
        clear hp hx hz
        generalize xs[n] = x at *
        cases hv : pieceP true x.data.toList
        · rw [hv] at c2 hR1
          have HE := Lib.hid (hR2.out hv)
          clear hv hR2 hR1
          go_wp2_with fail
          refine (c2 _).mono ?_; rintro e w2 ⟨rfl, rfl⟩
          go_wp2_with fail
          go_ret
          exact ⟨by rw [← HX.out, HE.out]; rfl, HB.out⟩
        · rw [hv] at c2 hR1
          clear hv hR2
          go_wp2_with fail
          refine (c2 _).mono ?_; rintro e w2 ⟨rfl, rfl⟩
          go_wp2_with fail
          exact ⟨⟨n + 1, by go_num, by omega, hR1, trivial⟩, by simp [intOf]; omega⟩
      · have HE : Hid ((xs.map (·.data.toList)).all (pieceP true) = true) := Lib.hid (by
          have := hR.out
          rwa [List.take_of_length_le (by omega)] at this)
        go_wp2_with fail
        go_ret
        exact ⟨by rw [← HX.out, HE.out]; rfl, HB.out⟩
end Go.Proofs.YtgdcdknmijeioaaDoor
