/- shown: the document's examples. -/
import Derived.Test.YtdikgifgapbocaaDoorC16
set_option linter.unusedSimpArgs false
set_option linter.unusedVariables false
namespace Go.Proofs.YtdikgifgapbocaaDoor
open Go.RowKit Go.Shelf

/-- A slice of a literal's bytes, marked: '[]byte("..")'. -/
theorem freeze_new (w : World) (cur : Array Value) (a : Addr) (n : Nat) (ha : a.block = w.heap.size) (hn : 0 < n) : Below w.heap.size w ((w.alloc (.cells cur 5)).freeze a n) ∧ (∃ fz, ((w.alloc (.cells cur 5)).freeze a n).heap[w.heap.size]? = some (.cells cur 5 fz)) := by
  have hq := heap_alloc_new w (.cells cur 5)
  unfold World.freeze
  rw [if_neg (by omega)]
  refine ⟨⟨rfl, rfl, rfl, ?_, fun k hk => ?_⟩, ?_⟩
  · show w.heap.size ≤ (Array.modify _ _ _).size
    rw [Array.size_modify]
    simp
  · show (Array.modify _ _ _)[k]? = _
    rw [Array.getElem?_modify, if_neg (by omega)]
    exact Lib.alloc_old w (.cells cur 5) k hk
  · refine ⟨(a.off, a.off + n), ?_⟩
    show (Array.modify _ _ _)[w.heap.size]? = _
    rw [Array.getElem?_modify, if_pos ha, hq]
    rfl
theorem run_mark (w : World) (cur : Array Value) (n cap : Nat) : (convert 22 22 (.slice (some ⟨w.heap.size, 0, none⟩) n cap)).run Tryd.prog (w.alloc (.cells cur 5)) = .ok (.slice (some ⟨w.heap.size, 0, none⟩) n cap) ((w.alloc (.cells cur 5)).freeze ⟨w.heap.size, cur.size, none⟩ 1) := by
  have hq := heap_alloc_new w (.cells cur 5)
  have hsh : (w.alloc (.cells cur 5)).shape? w.heap.size = some (5, cur.size) := by
    unfold World.shape?
    rw [hq]
  simp only [convert, Sem.run_bind, run_underlying Tryd.underlying22, run_underlying Tryd.underlying5, Result.andThen_ok, Sem.run_pure, markStringish, beq_self_eq_true]
  simp only [Sem.run_bind, run_shape, Result.andThen_ok, hsh, run_freeze, Sem.run_pure]
theorem bs_mark (w : World) (l : List UInt8) : Bs ((w.alloc (.cells (Lib.byteCells l).toArray 5)).freeze ⟨w.heap.size, (Lib.byteCells l).toArray.size, none⟩ 1) (some ⟨w.heap.size, 0, none⟩) l := by
  obtain ⟨hb, fz, hf⟩ := freeze_new w (Lib.byteCells l).toArray ⟨w.heap.size, (Lib.byteCells l).toArray.size, none⟩ 1 rfl (by omega)
  intro j c hj
  refine ⟨w.heap.size, 0, rfl, (Array.getElem?_eq_some_iff.1 hf).1, ?_⟩
  rw [Lib.cell_of_heap hf]
  simp [Lib.byteCells, hj]
theorem no_enc {s : List UInt8} (h : (match dec [] 0 0 (Lib.trimRightB s 61) with | some o => decide (enc o ≠ s) | none => true) = true) : ∀ l, enc l ≠ s := by
  intro l e
  have h1 : Lib.trimRightB s 61 = lets l := by rw [← e, trim_enc]
  rw [h1, dec_lets, List.nil_append] at h
  exact of_decide_eq_true h e
theorem dec_bad (s : List UInt8) (hs : s.length ≤ 100) (h : (match dec [] 0 0 (Lib.trimRightB s 61) with | some o => decide (enc o ≠ s) | none => true) = true) (w : World) :
    Calls Tryd.prog 12 #[.string ⟨s.toArray⟩] w fun e w' => e = .returned (.tuple #[.slice none 0 0, .int .i64 70]) ∧ Below w.heap.size w w' := by
  refine (decode_any ⟨s.toArray⟩ w (by rw [arr_size]; omega)).mono ?_
  rintro e w' (⟨l, a, cap, h1, _⟩ | ⟨_, h2, h3⟩)
  · exact absurd (by rw [h1, arr_list]) (no_enc h l)
  · exact ⟨h2, h3⟩
theorem dec_good (s out : List UInt8) (hs : s.length ≤ 100) (h : enc out = s) (w : World) :
    Calls Tryd.prog 12 #[.string ⟨s.toArray⟩] w fun e w' => ∃ a cap, e = .returned (.tuple #[.slice a out.length cap, .int .i64 0]) ∧ OB w w' a cap out := by
  refine (decode_any ⟨s.toArray⟩ w (by rw [arr_size]; omega)).mono ?_
  rintro e w' (⟨l, a, cap, h1, h2, h3⟩ | ⟨h1, _⟩)
  · have : l = out := enc_inj (by rw [h1, arr_list, h])
    subst this
    exact ⟨a, cap, h2, h3⟩
  · exact absurd (by rw [arr_list]; exact h) (h1 out)
theorem num_at (s : List UInt8) (most : Int) (hs : s.length ≤ 100) (v : Value) (h : numRes (number s) most = v) (w : World) :
    Calls Tryd.prog 19 #[.string ⟨s.toArray⟩, .int .i64 most] w fun e w' => e = .returned v ∧ Below w.heap.size w w' := by
  refine (number_any ⟨s.toArray⟩ most w (by rw [arr_size]; omega)).mono ?_
  rintro e w' ⟨h1, h2⟩
  rw [h1, arr_list, h]
  exact ⟨rfl, h2⟩
theorem uns_at (s : List UInt8) (w : World) : Calls Tryd.prog 16 #[.string ⟨s.toArray⟩] w fun e w' => e = .returned (.tuple #[.string ⟨(uns s).toArray⟩, .bool (s == [46])]) ∧ w' = w := by
  have := unstuff_any ⟨s.toArray⟩ w
  rwa [arr_list] at this
theorem quote_at (s r : List UInt8) (hs : s.length < 100) (h : quote s = r) (w : World) : Calls Tryd.prog 21 #[.string ⟨s.toArray⟩] w fun e w' => e = .returned (.string ⟨r.toArray⟩) ∧ Below w.heap.size w w' := by
  have := quote_any ⟨s.toArray⟩ w (by rw [arr_size]; omega) (.inl (by rw [arr_size]; exact hs))
  rwa [arr_list, h] at this
theorem great_at (s r : List UInt8) (hs : s.length < 100) (h : great s = r) (w : World) : Calls Tryd.prog 23 #[.string ⟨s.toArray⟩] w fun e w' => e = .returned (.string ⟨r.toArray⟩) ∧ Below w.heap.size w w' := by
  have := great_any ⟨s.toArray⟩ (by rw [arr_size]; omega) w
  rwa [arr_list, h] at this
theorem small_at (s r : List UInt8) (hs : s.length < 100) (h : small s = r) (w : World) : Calls Tryd.prog 25 #[.string ⟨s.toArray⟩] w fun e w' => e = .returned (.string ⟨r.toArray⟩) ∧ Below w.heap.size w w' := by
  have := small_any ⟨s.toArray⟩ (by rw [arr_size]; omega) w
  rwa [arr_list, h] at this

theorem enc_at (l r : List UInt8) (cur : Array Value) (hcur : cur = (Lib.byteCells l).toArray) (n : Nat) (hn : n = l.length) (hl : l.length ≤ 100) (h : enc l = r) (w : World) :
    Calls Tryd.prog 11 #[.slice (some ⟨w.heap.size, 0, none⟩) n n] ((w.alloc (.cells cur 5)).freeze ⟨w.heap.size, n, none⟩ 1) fun e w' => e = .returned (.string ⟨r.toArray⟩) ∧ Below w.heap.size w w' := by
  subst hcur
  subst hn
  obtain ⟨hb, _⟩ := freeze_new w (Lib.byteCells l).toArray ⟨w.heap.size, l.length, none⟩ 1 rfl (by omega)
  have hB := bs_mark w l
  have hsz : (Lib.byteCells l).toArray.size = l.length := by simp [Lib.byteCells_length]
  rw [hsz] at hB
  refine (encode_any _ l.length l _ (Nat.le_refl _) (by unfold maxLen; omega) (by omega) hB).mono ?_
  rintro e w' ⟨rfl, h2⟩
  exact ⟨by rw [h], hb.trans (h2.mono hb.size)⟩
theorem stuff_at (l r : List UInt8) (cur : Array Value) (hcur : cur = (Lib.byteCells l).toArray) (n : Nat) (hn : n = l.length) (hl : l.length ≤ 100) (h : stuff l = r) (w : World) (hM : Max w) :
    Calls Tryd.prog 15 #[.slice (some ⟨w.heap.size, 0, none⟩) n n] ((w.alloc (.cells cur 5)).freeze ⟨w.heap.size, n, none⟩ 1) fun e w' => ∃ g cap', e = .returned (.slice (some ⟨g, 0, none⟩) r.length cap') ∧ Bs w' (some ⟨g, 0, none⟩) r ∧ Below w.heap.size w w' := by
  subst hcur
  subst hn
  obtain ⟨hb, _⟩ := freeze_new w (Lib.byteCells l).toArray ⟨w.heap.size, l.length, none⟩ 1 rfl (by omega)
  have hB := bs_mark w l
  have hsz : (Lib.byteCells l).toArray.size = l.length := by simp [Lib.byteCells_length]
  rw [hsz] at hB
  have hM2 : Max ((w.alloc (.cells (Lib.byteCells l).toArray 5)).freeze ⟨w.heap.size, l.length, none⟩ 1) := hM.below hb
  refine (stuff_any _ l.length l _ (by omega) hB hM2).mono ?_
  rintro e w' ⟨g, cap', rfl, h2, _, _⟩
  rw [h] at h2 ⊢
  exact ⟨g, cap', rfl, h2.bs, hb.trans (h2.bel.mono hb.size)⟩
theorem stuff_nil (w : World) (hM : Max w) : Calls Tryd.prog 15 #[.slice none 0 0] w fun e w' => ∃ g cap', e = .returned (.slice (some ⟨g, 0, none⟩) 3 cap') ∧ Bs w' (some ⟨g, 0, none⟩) [46, 13, 10] ∧ Below w.heap.size w w' := by
  refine (stuff_any none 0 [] w (by simp) (fun j c hj => by simp at hj) hM).mono ?_
  rintro e w' ⟨g, cap', rfl, h2, _, _⟩
  exact ⟨g, cap', rfl, h2.bs, h2.bel⟩
set_option maxHeartbeats 4000000 in
set_option maxRecDepth 1000000 in
theorem shown_any (w : World) (hM : Max w) : Calls Tryd.prog 10 #[] w fun e w' => e = .returned (.bool true) ∧ Below w.heap.size w w' := by
  have hmark := run_mark
  go_enter Tryd.func10, Tryd.ntmps10
  go_wp2_with fail
  refine (dec_bad [90, 104, 61, 61] (by decide) (by decide +kernel) _).mono ?_; rintro e w1 ⟨rfl, b1⟩
  go_wp2_with fail
  refine (dec_bad [90, 103, 61] (by decide) (by decide +kernel) _).mono ?_; rintro e w2 ⟨rfl, b2⟩
  go_wp2_with fail
  refine (dec_good [90, 109, 56, 61] [102, 111] (by decide) (by decide +kernel) _).mono ?_; rintro e w3 ⟨a3, c3, rfl, o3⟩
  go_wp2_with fail
  refine (num_at [57] 9 (by decide) (.tuple #[.int .i64 9, .bool true]) (by kernel_rfl) _).mono ?_; rintro e w4 ⟨rfl, b4⟩
  go_wp2_with fail
  refine (num_at [48, 48, 55] 9 (by decide) (.tuple #[.int .i64 0, .bool false]) (by kernel_rfl) _).mono ?_; rintro e w5 ⟨rfl, b5⟩
  go_wp2_with fail
  refine (uns_at [46] _).mono ?_; rintro e w6 ⟨rfl, hw⟩; rw [hw]
  go_wp2_with fail
  have bw5 : Below w.heap.size w w5 := (((b1.trans (b2.mono b1.size)).trans (o3.bel.mono (by have := b1.size; have := b2.size; omega))).trans (b4.mono (by have := b1.size; have := b2.size; have := o3.size; omega))).trans (b5.mono (by have := b1.size; have := b2.size; have := o3.size; have := b4.size; omega))
  have bs3 : Bs w5 a3 [102, 111] := (o3.cells.below b4).below b5
  clear b1 b2 o3 b4 b5 hw
  refine (enc_at [102] [90, 103, 61, 61] _ rfl _ rfl (by decide) (by decide +kernel) w5).mono ?_; rintro e w7 ⟨rfl, b7⟩
  go_wp2_with fail
  refine (enc_at [102, 111, 111] [90, 109, 57, 118] _ rfl _ rfl (by decide) (by decide +kernel) w7).mono ?_; rintro e w8 ⟨rfl, b8⟩
  have hs3 := bs_string' (n := 2) c3 ((bs3.below b7).below b8) rfl
  have hM8 : Max w8 := ((hM.below bw5).below b7).below b8
  go_wp2_with fail
  refine (stuff_at [46, 97] [46, 46, 97, 13, 10, 46, 13, 10] _ rfl _ rfl (by decide) (by decide +kernel) w8 hM8).mono ?_; rintro e w9 ⟨g9, c9, rfl, hB9, b9⟩
  have hs9 := bs_string' (n := 8) c9 hB9 rfl
  have hM9 : Max w9 := hM8.below b9
  go_wp2_with fail
  refine (stuff_nil w9 hM9).mono ?_; rintro e w10 ⟨g10, c10, rfl, hB10, b10⟩
  have hs10 := bs_string' (n := 3) c10 hB10 rfl
  go_wp2_with fail
  refine (quote_at [97, 34, 98] [34, 97, 92, 34, 98, 34] (by decide) (by decide +kernel) w10).mono ?_; rintro e w11 ⟨rfl, b11⟩
  go_wp2_with fail
  refine (quote_at [97, 10] [123, 50, 125, 13, 10, 97, 10] (by decide) (by decide +kernel) w11).mono ?_; rintro e w12 ⟨rfl, b12⟩
  go_wp2_with fail
  refine (great_at [97, 90, 49] [65, 90, 49] (by decide) (by decide +kernel) w12).mono ?_; rintro e w13 ⟨rfl, b13⟩
  go_wp2_with fail
  refine (small_at [97, 90, 49] [97, 122, 49] (by decide) (by decide +kernel) w13).mono ?_; rintro e w14 ⟨rfl, b14⟩
  go_wp2
  go_ret
  have z5 := bw5.size
  have z7 := b7.size
  have z8 := b8.size
  have z9 := b9.size
  have z10 := b10.size
  have z11 := b11.size
  have z12 := b12.size
  have z13 := b13.size
  exact ⟨rfl, (((((((((bw5.trans (b7.mono (by omega))).trans (b8.mono (by omega))).trans (b9.mono (by omega))).trans (b10.mono (by omega))).trans (b11.mono (by omega))).trans (b12.mono (by omega))).trans (b13.mono (by omega))).trans (b14.mono (by omega))))⟩
end Go.Proofs.YtdikgifgapbocaaDoor
