/- reader: named, element. -/
import Derived.Test.YtgdcdknmijeioaaDoorC15
set_option linter.unusedSimpArgs false
set_option linter.unusedVariables false
namespace Go.Proofs.YtgdcdknmijeioaaDoor
open Go.RowKit Go.Shelf

theorem frozenA {w : World} {g : Nat} {c : Array Value} {T : TypeId} (h : w.heap[g]? = some (.cells c T)) (i : Nat) : w.frozen? ⟨g, i, none⟩ = false := by
  simp [World.frozen?, h]
theorem setA {w : World} {g : Nat} {x y z : Value} (h : w.heap[g]? = some (.cells #[x, y, z] 23)) (v : Value) :
    (w.setCell ⟨g, 0, none⟩ v).heap[g]? = some (.cells #[v, y, z] 23) ∧ (∀ k, k ≠ g → (w.setCell ⟨g, 0, none⟩ v).heap[k]? = w.heap[k]?) ∧ (w.setCell ⟨g, 0, none⟩ v).heap.size = w.heap.size ∧ Below g w (w.setCell ⟨g, 0, none⟩ v) := by
  have e := setCell_eq_setRow w g 0 _ 23 (0, 0) v h
  rw [e]
  exact ⟨setRow_heap w g _ _ 23 _ h, fun k hk => setRow_other w g k _ hk, by simp [World.setRow], ⟨rfl, rfl, rfl, by simp [World.setRow], fun k hk => setRow_other w g k _ (by omega)⟩⟩
/-- A block of the call's own stands beside the reader. -/
structure Own (w0 w : World) (r g : Nat) (c : Array Value) : Prop where
  heap : w.heap[g]? = some (.cells c 23)
  ge : w0.heap.size ≤ g
  ne : r ≠ g
theorem Own.lt {w0 w : World} {r g : Nat} {c : Array Value} (h : Own w0 w r g c) : g < w.heap.size := (Array.getElem?_eq_some_iff.1 h.heap).1
theorem Own.chg {w0 w w' : World} {r g : Nat} {c : Array Value} (h : Own w0 w r g c) (k : Chg r w w') : Own w0 w' r g c := ⟨(k.other g h.lt (Ne.symm h.ne)).trans h.heap, h.ge, h.ne⟩
theorem Own.below {w0 w w' : World} {r g : Nat} {c : Array Value} (h : Own w0 w r g c) (k : Below w.heap.size w w') : Own w0 w' r g c := ⟨(k.block g h.lt).trans h.heap, h.ge, h.ne⟩
theorem Own.new {w0 w : World} {r : Nat} (c : Array Value) (hr : r < w.heap.size) (h0 : w0.heap.size ≤ w.heap.size) : Own w0 (w.alloc (.cells c 23)) r w.heap.size c := ⟨heap_alloc_new w _, h0, Nat.ne_of_lt hr⟩
theorem chg_alloc {r : Nat} {w0 w : World} (h : Chg r w0 w) (hr : r < w.heap.size) (o : Obj) : Chg r w0 (w.alloc o) := h.trans (Chg.of_below ((Below.refl _ _).alloc (Nat.le_refl _) _) (Nat.le_of_lt hr))
theorem rs_alloc {r : Nat} {w : World} {l : List UInt8} {b : Bool} (h : RS w r l b) (o : Obj) : RS (w.alloc o) r l b := h.below ((Below.refl _ _).alloc (Nat.le_refl _) _)
theorem max_alloc {w : World} (h : Max w) (o : Obj) : Max (w.alloc o) := h.below ((Below.refl _ _).alloc (Nat.le_refl _) _)
theorem own_alloc {w0 w : World} {r g : Nat} {c : Array Value} (h : Own w0 w r g c) (o : Obj) : Own w0 (w.alloc o) r g c := h.below ((Below.refl _ _).alloc (Nat.le_refl _) _)
/-- Behind a store into a block of the call's own. -/
theorem Chg.own {r g : Nat} {w0 w w' : World} (h : Chg r w0 w) (hr : r < w0.heap.size) (hg : w0.heap.size ≤ g) (hs : w'.heap.size = w.heap.size) (hb : Below g w w') (ho : ∀ k, k ≠ g → w'.heap[k]? = w.heap[k]?) : Chg r w0 w' :=
  ⟨h.below.trans (hb.mono (by omega)), fun k hk hkr => (ho k (by omega)).trans (h.other k hk hkr)⟩
theorem addr_nameless (l : List UInt8) (b : Bool) : (addrR l b).1.name = [] := by
  unfold addrR
  split <;> rfl
set_option maxHeartbeats 4000000 in
theorem named_any (r : Nat) (hr : 0 < r) (l : List UInt8) (b : Bool) (hl : l.length ≤ 1000000000) (w : World) (hM : Max w) (h : RS w r l b) :
    Calls Tryd.prog 36 #[.pointer (some ⟨r, 0, none⟩)] w (AddrPost r (namedR l b) w) := by
  have hrl := h.lt
  have l1 : (phraseR l b).2.1.length ≤ l.length := (len_phr (l.length + 1) [] l b).1
  have l2 := len_tkm 60 (phraseR l b).2.1
  have c1 := fun w h => phrase_any r l b hl w h
  have l3 := len_addrR (tkm 60 (phraseR l b).2.1).2 ((phraseR l b).2.2 || !(tkm 60 (phraseR l b).2.1).1)
  have hn := addr_nameless (tkm 60 (phraseR l b).2.1).2 ((phraseR l b).2.2 || !(tkm 60 (phraseR l b).2.1).1)
  have c2 := fun w h => take_any r 60 (phraseR l b).2.1 (phraseR l b).2.2 w h
  have c3 := fun w hM h => address_any r hr (tkm 60 (phraseR l b).2.1).2 ((phraseR l b).2.2 || !(tkm 60 (phraseR l b).2.1).1) (by omega) w hM h
  have c4 := fun w h => take_any r 62 (addrR (tkm 60 (phraseR l b).2.1).2 ((phraseR l b).2.2 || !(tkm 60 (phraseR l b).2.1).1)).2.1 (addrR (tkm 60 (phraseR l b).2.1).2 ((phraseR l b).2.2 || !(tkm 60 (phraseR l b).2.1).1)).2.2 w h
  unfold PhPost at c1
  unfold AddrPost at c3 ⊢
  unfold namedR
  dsimp only
  rw [hn] at c3
  generalize addrR (tkm 60 (phraseR l b).2.1).2 ((phraseR l b).2.2 || !(tkm 60 (phraseR l b).2.1).1) = ar at *
  generalize tkm 60 (phraseR l b).2.1 = t1 at *
  generalize phraseR l b = p at *
  generalize tkm 62 ar.2.1 = t2 at *
  have O0 := Own.new (w0 := w) #[.string ⟨#[]⟩, .string ⟨#[]⟩, .string ⟨#[]⟩] hrl (Nat.le_refl _)
  have h0 := rs_alloc h (.cells #[.string ⟨#[]⟩, .string ⟨#[]⟩, .string ⟨#[]⟩] 23)
  have M0 := max_alloc hM (.cells #[.string ⟨#[]⟩, .string ⟨#[]⟩, .string ⟨#[]⟩] 23)
  have C0 := chg_alloc (Chg.refl r w) hrl (.cells #[.string ⟨#[]⟩, .string ⟨#[]⟩, .string ⟨#[]⟩] 23)
  clear hn l1 l2 l3 hM h
  go_enter Tryd.func36, Tryd.ntmps36
  go_wp2_with fail
  refine (c1 _ h0).mono ?_; rintro e w1 ⟨rfl, h1, g1⟩
  have C1 := C0.trans g1
  have O1 := O0.chg g1
  have M1 := M0.chg g1 hr
  clear g1 C0 O0 M0 h0 c1
  go_wp2_with fail
  refine (c2 _ h1).mono ?_; rintro e w2 ⟨rfl, h2, g2⟩
  have C2 := C1.trans g2
  have O2 := O1.chg g2
  have M2 := M1.chg g2 hr
  clear g2 C1 O1 M1 h1 c2
  go_wp2_with fail
  refine (need_any r _ _ _ _ h2).mono ?_; rintro e w3 ⟨rfl, h3, g3⟩
  have C3 := C2.trans g3
  have O3 := O2.chg g3
  have M3 := M2.chg g3 hr
  clear g3 C2 O2 M2 h2
  go_wp2_with fail
  refine (c3 _ M3 h3).mono ?_; rintro e w4 ⟨rfl, h4, g4⟩
  have C4 := C3.trans g4
  have O4 := O3.chg g4
  clear g4 C3 O3 M3 h3 c3
  have N5 : w4.heap.size ≠ w.heap.size := Nat.ne_of_gt O4.lt
  have A5 := Own.new (w0 := w) #[.string ⟨#[]⟩, .string ⟨ar.1.lo.toArray⟩, .string ⟨ar.1.dm.toArray⟩] h4.lt C4.below.size
  have h5 := rs_alloc h4 (.cells #[.string ⟨#[]⟩, .string ⟨ar.1.lo.toArray⟩, .string ⟨ar.1.dm.toArray⟩] 23)
  have C5 := chg_alloc C4 h4.lt (.cells #[.string ⟨#[]⟩, .string ⟨ar.1.lo.toArray⟩, .string ⟨ar.1.dm.toArray⟩] 23)
  have O5 := own_alloc O4 (.cells #[.string ⟨#[]⟩, .string ⟨ar.1.lo.toArray⟩, .string ⟨ar.1.dm.toArray⟩] 23)
  clear C4 O4 h4
  unfold adV
  go_wp2_with fail
  refine (c4 _ h5).mono ?_; rintro e w6 ⟨rfl, h6, g6⟩
  have C6 := C5.trans g6
  have O6 := O5.chg g6
  have A6 := A5.chg g6
  clear g6 C5 O5 A5 h5 c4
  go_wp2_with fail
  refine (need_any r _ _ _ _ h6).mono ?_; rintro e w7 ⟨rfl, h7, g7⟩
  have C7 := C6.trans g7
  have O7 := O6.chg g7
  have A7 := A6.chg g7
  clear g7 C6 O6 A6 h6
  generalize w4.heap.size = g at *
  have q0 := cellA A7.heap 0 _ rfl
  have f0 := frozenA A7.heap 0
  obtain ⟨s1, s2, s3, s4⟩ := setA A7.heap (.string ⟨p.1.toArray⟩)
  have C8 := Chg.own C7 hrl A7.ge s3 s4 s2
  have O8 : (w7.setCell ⟨g, 0, none⟩ (.string ⟨p.1.toArray⟩)).heap[w.heap.size]? = some (.cells #[.string ⟨#[]⟩, .string ⟨#[]⟩, .string ⟨#[]⟩] 23) := (s2 _ (Ne.symm N5)).trans O7.heap
  have h8 : RS (w7.setCell ⟨g, 0, none⟩ (.string ⟨p.1.toArray⟩)) r t2.2 (ar.2.2 || !t2.1) := by
    unfold RS
    rw [s2 r A7.ne]
    exact h7
  have r0 := cellA s1 0 _ rfl
  have r1 := cellA s1 1 _ rfl
  have r2 := cellA s1 2 _ rfl
  have H8 := Lib.hid h8
  have HC := Lib.hid C8
  clear s1 s2 s3 s4 C7 O7 A7 h7 h8 C8
  go_wp2_with (refine wpL_storeA rfl (.tmp 2) (.tmp 19) rfl rfl rfl O8 rfl rfl (by simp [Value.oneCell']) (Below.refl w.heap.size _) (Nat.le_refl _) ?_; intro w9 h9 b9 o9 s9)
  refine bodyPost_ret (results_A1 Tryd.results36 rfl h9 rfl) rfl ?_
  refine ⟨rfl, ?_, Chg.own HC.out hrl (Nat.le_refl _) s9 b9 o9⟩
  unfold RS
  rw [o9 r (by omega)]
  exact H8.out
set_option maxHeartbeats 4000000 in
theorem element_any (r : Nat) (hr : 0 < r) (l : List UInt8) (b : Bool) (hl : l.length ≤ 1000000000) (w : World) (hM : Max w) (h : RS w r l b) :
    Calls Tryd.prog 22 #[.pointer (some ⟨r, 0, none⟩)] w (AddrPost r (elemR l b) w) := by
  have hrl := h.lt
  have l1 := len_dropWhile blB l
  have l2 := len_addrR (l.dropWhile blB) b
  have l3 := len_namedR (l.dropWhile blB) b
  have c1 := fun w h => blanks_any r l b (by omega) w h
  have c2 := fun w h => isBare_any r (l.dropWhile blB) b (by omega) w h
  have c3 := fun w hM h => address_any r hr (l.dropWhile blB) b (by omega) w hM h
  have c3' := fun w hM h => named_any r hr (l.dropWhile blB) b (by omega) w hM h
  have c4 := fun w h => blanks_any r (addrR (l.dropWhile blB) b).2.1 (addrR (l.dropWhile blB) b).2.2 (by omega) w h
  have c4' := fun w h => blanks_any r (namedR (l.dropWhile blB) b).2.1 (namedR (l.dropWhile blB) b).2.2 (by omega) w h
  unfold AddrPost at c3 c3' ⊢
  unfold elemR
  dsimp only
  generalize addrR (l.dropWhile blB) b = ar at *
  generalize namedR (l.dropWhile blB) b = nr at *
  generalize bareR (l.dropWhile blB) = q at *
  have O0 := Own.new (w0 := w) #[.string ⟨#[]⟩, .string ⟨#[]⟩, .string ⟨#[]⟩] hrl (Nat.le_refl _)
  have h0 := rs_alloc h (.cells #[.string ⟨#[]⟩, .string ⟨#[]⟩, .string ⟨#[]⟩] 23)
  have M0 := max_alloc hM (.cells #[.string ⟨#[]⟩, .string ⟨#[]⟩, .string ⟨#[]⟩] 23)
  have C0 := chg_alloc (Chg.refl r w) hrl (.cells #[.string ⟨#[]⟩, .string ⟨#[]⟩, .string ⟨#[]⟩] 23)
  clear l1 l2 l3 hM h
  go_enter Tryd.func22, Tryd.ntmps22
  go_wp2_with fail
  refine (c1 _ h0).mono ?_; rintro e w1 ⟨rfl, h1, g1⟩
  have C1 := C0.trans g1
  have O1 := O0.chg g1
  have M1 := M0.chg g1 hr
  clear g1 C0 O0 M0 h0 c1
  have N5 : w1.heap.size ≠ w.heap.size := Nat.ne_of_gt O1.lt
  have A2 := Own.new (w0 := w) #[.string ⟨#[]⟩, .string ⟨#[]⟩, .string ⟨#[]⟩] h1.lt C1.below.size
  have h2 := rs_alloc h1 (.cells #[.string ⟨#[]⟩, .string ⟨#[]⟩, .string ⟨#[]⟩] 23)
  have C2 := chg_alloc C1 h1.lt (.cells #[.string ⟨#[]⟩, .string ⟨#[]⟩, .string ⟨#[]⟩] 23)
  have O2 := own_alloc O1 (.cells #[.string ⟨#[]⟩, .string ⟨#[]⟩, .string ⟨#[]⟩] 23)
  have M2 := max_alloc M1 (.cells #[.string ⟨#[]⟩, .string ⟨#[]⟩, .string ⟨#[]⟩] 23)
  clear C1 O1 h1 M1
  go_wp2_with fail
  refine (c2 _ h2).mono ?_; rintro e w3 ⟨rfl, h3, g3⟩
  have C3 := C2.trans g3
  have O3 := O2.chg g3
  have A3 := A2.chg g3
  have M3 := M2.chg g3 hr
  clear g3 C2 O2 A2 h2 c2 M2
  generalize w1.heap.size = g at *
  cases q
  · go_wp2_with fail
    refine (c3' _ M3 h3).mono ?_; rintro e w4 ⟨rfl, h4, g4⟩
    have C4 := C3.trans g4
    have O4 := O3.chg g4
    have A4 := A3.chg g4
    clear g4 C3 O3 A3 M3 h3
    unfold adV
    go_wp2_with (refine wpL_storeA rfl (.tmp 3) (.tmp 11) rfl rfl rfl A4.heap rfl rfl (by simp [Value.oneCell']) (Below.refl g _) (Nat.le_refl _) ?_; intro w5 h5 b5 o5 s5)
    have C5 := Chg.own C4 hrl A4.ge s5 b5 o5
    have O5 : Own w w5 r w.heap.size #[.string ⟨#[]⟩, .string ⟨#[]⟩, .string ⟨#[]⟩] := ⟨(o5 _ (Ne.symm N5)).trans O4.heap, O4.ge, O4.ne⟩
    have A5 : Own w w5 r g #[.string ⟨nr.1.name.toArray⟩, .string ⟨nr.1.lo.toArray⟩, .string ⟨nr.1.dm.toArray⟩] := ⟨h5, A4.ge, A4.ne⟩
    have r5 : RS w5 r nr.2.1 nr.2.2 := by
      unfold RS
      rw [o5 r A4.ne]
      exact h4
    clear C4 O4 A4 h4 h5 b5 o5 s5
    refine (c4' _ r5).mono ?_; rintro e w6 ⟨rfl, h6, g6⟩
    have C6 := C5.trans g6
    have O6 := O5.chg g6
    have A6 := A5.chg g6
    clear g6 C5 O5 A5 r5
    have r0 := cellA A6.heap 0 _ rfl
    have r1 := cellA A6.heap 1 _ rfl
    have r2 := cellA A6.heap 2 _ rfl
    go_wp2_with (refine wpL_storeA rfl (.tmp 2) (.tmp 14) rfl rfl rfl O6.heap rfl rfl (by simp [Value.oneCell']) (Below.refl w.heap.size _) (Nat.le_refl _) ?_; intro w9 h9 b9 o9 s9)
    refine bodyPost_ret (results_A1 Tryd.results22 rfl h9 rfl) rfl ?_
    refine ⟨rfl, ?_, Chg.own C6 hrl (Nat.le_refl _) s9 b9 o9⟩
    unfold RS
    rw [o9 r (by omega)]
    exact h6
  · go_wp2_with fail
    refine (c3 _ M3 h3).mono ?_; rintro e w4 ⟨rfl, h4, g4⟩
    have C4 := C3.trans g4
    have O4 := O3.chg g4
    have A4 := A3.chg g4
    clear g4 C3 O3 A3 M3 h3
    unfold adV
    go_wp2_with (refine wpL_storeA rfl (.tmp 3) (.tmp 9) rfl rfl rfl A4.heap rfl rfl (by simp [Value.oneCell']) (Below.refl g _) (Nat.le_refl _) ?_; intro w5 h5 b5 o5 s5)
    have C5 := Chg.own C4 hrl A4.ge s5 b5 o5
    have O5 : Own w w5 r w.heap.size #[.string ⟨#[]⟩, .string ⟨#[]⟩, .string ⟨#[]⟩] := ⟨(o5 _ (Ne.symm N5)).trans O4.heap, O4.ge, O4.ne⟩
    have A5 : Own w w5 r g #[.string ⟨ar.1.name.toArray⟩, .string ⟨ar.1.lo.toArray⟩, .string ⟨ar.1.dm.toArray⟩] := ⟨h5, A4.ge, A4.ne⟩
    have r5 : RS w5 r ar.2.1 ar.2.2 := by
      unfold RS
      rw [o5 r A4.ne]
      exact h4
    clear C4 O4 A4 h4 h5 b5 o5 s5
    refine (c4 _ r5).mono ?_; rintro e w6 ⟨rfl, h6, g6⟩
    have C6 := C5.trans g6
    have O6 := O5.chg g6
    have A6 := A5.chg g6
    clear g6 C5 O5 A5 r5
    have r0 := cellA A6.heap 0 _ rfl
    have r1 := cellA A6.heap 1 _ rfl
    have r2 := cellA A6.heap 2 _ rfl
    go_wp2_with (refine wpL_storeA rfl (.tmp 2) (.tmp 14) rfl rfl rfl O6.heap rfl rfl (by simp [Value.oneCell']) (Below.refl w.heap.size _) (Nat.le_refl _) ?_; intro w9 h9 b9 o9 s9)
    refine bodyPost_ret (results_A1 Tryd.results22 rfl h9 rfl) rfl ?_
    refine ⟨rfl, ?_, Chg.own C6 hrl (Nat.le_refl _) s9 b9 o9⟩
    unfold RS
    rw [o9 r (by omega)]
    exact h6
end Go.Proofs.YtgdcdknmijeioaaDoor
