/- AddressBack's walk. -/
import Derived.Test.YtgdcdknmijeioaaDoorQ2
import Derived.Test.YtgdcdknmijeioaaDoorL5
import Derived.Deep.AppendLies
set_option linter.unusedSimpArgs false
set_option linter.unusedVariables false
namespace Go.Proofs.YtgdcdknmijeioaaDoor
open Go.RowKit Go.Shelf

theorem drewN_two (w : World) (m n : Nat) : (w.drewN m).drewN n = w.drewN (m + n) := by simp [World.drewN, Nat.add_assoc]
theorem step_ox {B : Nat} {w : World} {v : Value} {e : TypeId} {sz n : Nat} {xs news : List Value} {s x : Operand} {t : TypeId} {z : Value} {bytes : Nat} {cs : Array Value} {ops : Array Oper} {o : Oper} {act : Act} {K : Act → World → Prop} {Q : Exit → Act → World → Prop} {E : Prop}
    (ht : Tryd.prog.underlying t = some (.slice e)) (hi : (Tryd.prog.info? e).map (fun i => (i.zero, i.size, i.bytes)) = some (some z, sz, bytes)) (hzs : z.cells.size = sz) (hsz : 0 < sz)
    (hgd : o.guard = none) (ho : o.op = .call { callee := .builtin .append, args := #[s, x], argTypes := #[t, t] })
    (hs : act.eval s = v) (hob : OX B e sz w v n xs) (hx : act.eval x = .slice (some ⟨w.heap.size, 0, none⟩) 1 1) (hc : cs.toList = news) (hnl : news.length = sz) (h1 : ∀ u ∈ news, u.oneCell' = true) (hn : n + 1 ≤ maxLen) (hb : (n + 1) * bytes ≤ 140737488355328)
    (h : ∀ v' w', OX B e sz w' v' (n + 1) (xs ++ news) → Below B w w' → K (act.put o.dst v') w') :
    if Region.wanted o (yielded ops act.tmps) = true then Oper.wp Tryd.prog o act (w.alloc (.cells cs e)).drew K Q else E := by
  obtain ⟨i0, hi0, hi1⟩ := Option.map_eq_some_iff.1 hi
  have hz0 : i0.zero = some z := congrArg (·.1) hi1
  have hz1 : i0.size = sz := congrArg (·.2.1) hi1
  have hz2 : i0.bytes = bytes := congrArg (·.2.2) hi1
  have hw : Region.wanted o (yielded ops act.tmps) = true := by simp [Region.wanted, hgd]
  rw [if_pos hw]
  have hob2 : OX B e sz (w.alloc (.cells cs e)).drew v n xs := (hob.alloc _).below (Below.refl _ _).drew
  have hsz2 : (w.alloc (.cells cs e)).drew.heap.size = w.heap.size + 1 := by show (w.alloc (.cells cs e)).heap.size = _; simp
  have hat : (w.alloc (.cells cs e)).drew.heap[w.heap.size]? = some (.cells cs e) := heap_alloc_new w _
  refine wp_append_lies _ s x t ho B e i0 z sz bytes ht hi0 hz0 hz1 hz2 hzs hsz v n xs hs hob2.own ⟨w.heap.size, 0, none⟩ 1 1 news hx (by rw [hnl, Nat.one_mul]) ?_ h1 (by omega) hn hb ?_ _ rfl ?_
  · intro j u hj
    have hadd : (⟨w.heap.size, 0, none⟩ : Addr).add j = ⟨w.heap.size, j, none⟩ := by unfold Addr.add; split <;> simp_all
    rw [hadd, cell_of_row _ _ _ _ _ _ hat]
    rw [← hc] at hj
    simpa using hj
  · exact hob2.size
  · intro g cap w' hown hg _ _
    have b1 : Below B w (w.alloc (.cells cs e)).drew := ((Below.refl _ _).alloc hob.size _).drew
    have b2 := b1.grown hg hob2.size (fun k hk => (hob.own.lt k hk).1)
    exact h _ w' ⟨hown, Nat.le_trans hob.size b2.size⟩ b2
/-- A slice of addresses that came in: their texts. -/
def ElsAt (w : World) (a : Option Addr) (es : List (ByteArray × ByteArray × ByteArray)) : Prop := ∀ j e, es[j]? = some e → ∃ b off, a = some ⟨b, off, none⟩ ∧ b < w.heap.size ∧ w.cell? ⟨b, off + j * 3, none⟩ = some (.string e.1) ∧ w.cell? ⟨b, off + j * 3 + 1, none⟩ = some (.string e.2.1) ∧ w.cell? ⟨b, off + j * 3 + 2, none⟩ = some (.string e.2.2) ∧ e.2.1.size ≤ 9223372036854775807 ∧ e.2.2.size ≤ 9223372036854775807
theorem ElsAt.below {w w' : World} {a : Option Addr} {es : List (ByteArray × ByteArray × ByteArray)} (h : ElsAt w a es) (hb : Below w.heap.size w w') : ElsAt w' a es := fun j e hj => by
  obtain ⟨b, off, h1, h2, h3, h4, h5, h6⟩ := h j e hj
  exact ⟨b, off, h1, Nat.lt_of_lt_of_le h2 hb.size, by rw [hb.cell (p := ⟨b, off + j * 3, none⟩) h2]; exact h3, by rw [hb.cell (p := ⟨b, off + j * 3 + 1, none⟩) h2]; exact h4, by rw [hb.cell (p := ⟨b, off + j * 3 + 2, none⟩) h2]; exact h5, h6⟩
theorem flat_at (l : List Ad) : ∀ (j : Nat) (x : Ad), l[j]? = some x → (l.flatMap aC)[j * 3]? = some (sV x.name) ∧ (l.flatMap aC)[j * 3 + 1]? = some (sV x.lo) ∧ (l.flatMap aC)[j * 3 + 2]? = some (sV x.dm) := by
  induction l with
  | nil => simp
  | cons y t ih =>
    intro j x hj
    cases j with
    | zero =>
      simp at hj
      subst hj
      simp [aC]
    | succ j =>
      simp at hj
      have := ih j x hj
      have e : ∀ k, ((y :: t).flatMap aC)[(j + 1) * 3 + k]? = (t.flatMap aC)[j * 3 + k]? := by
        intro k
        rw [List.flatMap_cons, List.getElem?_append_right (by simp [aC]; omega)]
        congr 1
        simp [aC]
        omega
      refine ⟨(e 0).trans this.1, (e 1).trans this.2.1, (e 2).trans this.2.2⟩
theorem join_len (ws : List (List UInt8 × List UInt8)) (hv : ∀ p ∈ ws, validP p.1 p.2 = true) : (Lib.join (ws.map item) [44, 32]).length ≤ ws.length * 131 := by
  induction ws with
  | nil => simp [Lib.join, List.intercalate]
  | cons p t ih =>
    have h1 : 3 ≤ (item p).length ∧ (item p).length ≤ 129 := item_len (hv p (List.mem_cons_self ..))
    have h2 : ∀ r : List (List UInt8 × List UInt8), (∀ q ∈ r, validP q.1 q.2 = true) → (Lib.joinTail [44, 32] (r.map item)).length ≤ r.length * 131 := by
      intro r hr
      induction r with
      | nil => simp [Lib.joinTail]
      | cons q r ih2 =>
        have h3 : 3 ≤ (item q).length ∧ (item q).length ≤ 129 := item_len (hr q (List.mem_cons_self ..))
        have h4 := ih2 (fun x hx => hr x (List.mem_cons_of_mem _ hx))
        have e : Lib.joinTail [44, 32] ((q :: r).map item) = [44, 32] ++ item q ++ Lib.joinTail [44, 32] (r.map item) := by simp [Lib.joinTail]
        rw [e]
        simp at h3 h4 ⊢
        omega
    have h3 := h2 t (fun q hq => hv q (List.mem_cons_of_mem _ hq))
    rw [List.map_cons, Lib.join_cons, List.length_append]
    simp at h1 h3 ⊢
    omega
/-- The loop over the addresses. -/
def BR (w wr : World) (ws : List (List UInt8 × List UInt8)) : Prop := ws.length ≤ 16 ∧ (∀ p ∈ ws, validP p.1 p.2 = true) ∧ Below w.heap.size w wr ∧ Max wr
def tx (ws : List (List UInt8 × List UInt8)) : ByteArray := ⟨(Lib.join (ws.map item) [44, 32]).toArray⟩
theorem priV_yes {a d : List UInt8} (h : validP a d = true) : priV a d = .tuple #[.string ⟨(item (a, d)).toArray⟩, .int .i64 0] := by unfold priV; rw [if_pos h]; rfl
theorem priV_no {a d : List UInt8} (h : validP a d = false) : priV a d = .tuple #[.string ⟨#[]⟩, .int .i64 90] := by unfold priV; rw [if_neg (by rw [h]; decide)]
theorem tx_snoc (ws : List (List UInt8 × List UInt8)) (p : List UInt8 × List UInt8) : tx (ws ++ [p]) = if ws.length = 0 then ⟨(item p).toArray⟩ else tx ws ++ ⟨#[44, 32]⟩ ++ ⟨(item p).toArray⟩ := by
  unfold tx
  rw [List.map_append, List.map_cons, List.map_nil, join_snoc]
  cases ws with
  | nil => rfl
  | cons q r =>
    rw [if_neg (by simp), if_neg (by simp)]
    rw [show (⟨#[44, 32]⟩ : ByteArray) = ⟨[44, 32].toArray⟩ from rfl, str_app, str_app]
set_option maxHeartbeats 8000000 in
set_option maxRecDepth 100000 in
theorem back_law (s : ByteArray) (a0 : Option Addr) (n0 c0 : Nat) (es : List (ByteArray × ByteArray × ByteArray)) (hes : es.length = n0) (hn0 : n0 ≤ 9223372036854775807) (w : World) (hs : s.size ≤ 9223372036854775807) (hE : ElsAt w a0 es) (hM : Max w) :
    Calls Tryd.prog 4 #[.string s, .slice a0 n0 c0] w fun e w' => e = .returned (.bool true) ∧ Below w.heap.size w w' := by
  subst hes
  have k0 := fun w hM => shown_any w hM
  have k1 := fun w hM => parse_any s hs w hM
  have HEL := Lib.hid hE
  clear hE
  cases hp : parseP s.data.toList with
  | none =>
    have hv : parV s.data.toList = .tuple #[adV [] [] [], .int .i64 90] := by unfold parV; rw [hp]
    rw [hv] at k1
    clear hv hp
    unfold adV at k1
    go_enter Tryd.func4, Tryd.ntmps4
    go_wp2_with fail
    refine (k0 _ hM).mono ?_; rintro e w1 ⟨rfl, b1⟩
    have M1 := hM.below b1
    clear hM k0
    go_wp2_with fail
    refine (k1 _ M1).mono ?_; rintro e w2 ⟨rfl, b2⟩
    have B0 := (b1.trans (b2.mono b1.size)).alloc (b1.trans (b2.mono b1.size)).size (.cells #[.string ⟨#[]⟩, .string ⟨#[]⟩, .string ⟨#[]⟩] 23)
    have M0 := max_alloc (M1.below b2) (.cells #[.string ⟨#[]⟩, .string ⟨#[]⟩, .string ⟨#[]⟩] 23)
    clear b1 b2 M1 k1
    have hgz : (w2.alloc (.cells #[.string ⟨#[]⟩, .string ⟨#[]⟩, .string ⟨#[]⟩] 23)).heap.size = w2.heap.size + 1 := by simp
    have BE : Below w.heap.size w ((w2.alloc (.cells #[.string ⟨#[]⟩, .string ⟨#[]⟩, .string ⟨#[]⟩] 23)).alloc (.cells #[] 23)) := B0.alloc B0.size _
    have ME := max_alloc M0 (.cells #[] 23)
    have OE : OX w.heap.size 23 3 ((w2.alloc (.cells #[.string ⟨#[]⟩, .string ⟨#[]⟩, .string ⟨#[]⟩] 23)).alloc (.cells #[] 23)) (.slice (some ⟨(w2.alloc (.cells #[.string ⟨#[]⟩, .string ⟨#[]⟩, .string ⟨#[]⟩] 23)).heap.size, 0, none⟩) 0 0) 0 (([] : List (List UInt8 × List UInt8)).map adOf |>.flatMap aC) := ⟨⟨rfl, .inr ⟨(w2.alloc (.cells #[.string ⟨#[]⟩, .string ⟨#[]⟩, .string ⟨#[]⟩] 23)).heap.size, 0, _, rfl, B0.size, heap_alloc_new (w2.alloc (.cells #[.string ⟨#[]⟩, .string ⟨#[]⟩, .string ⟨#[]⟩] 23)) _, Nat.le_refl _, by unfold maxLen; omega, rfl, rfl⟩⟩, BE.size⟩
    have HB0 : Hid (BR w ((w2.alloc (.cells #[.string ⟨#[]⟩, .string ⟨#[]⟩, .string ⟨#[]⟩] 23)).alloc (.cells #[] 23)) []) := Lib.hid ⟨by simp, by simp, BE, ME⟩
    rw [hgz] at OE
    clear BE ME B0 M0 hgz
    go_wp2_with fail
    generalize (w2.alloc (.cells #[.string ⟨#[]⟩, .string ⟨#[]⟩, .string ⟨#[]⟩] 23)).alloc (.cells #[] 23) = wE at *
    generalize w2.heap.size = gE at *
    go_loopw [12, 13, 14] (fun tv wv iv wr => ∃ (n : Nat) (ws : List (List UInt8 × List UInt8)) (a : Option Addr) (cap : Nat), tv = .string (tx ws) ∧ wv = .slice a ws.length cap ∧ iv = .int .i64 n ∧ n ≤ es.length ∧ OX w.heap.size 23 3 wr (.slice a ws.length cap) ws.length ((ws.map adOf).flatMap aC) ∧ Hid (BR w wr ws)) (fun tv wv iv wr => es.length - (intOf iv).toNat)
    case atStart => exact ⟨0, [], _, 0, rfl, rfl, rfl, Nat.zero_le _, OE, HB0⟩
    case round =>
      obtain ⟨n, ws, a, cap, rfl, rfl, rfl, hn, hO, HB⟩ := hrel
      clear OE HB0
      have hw16 := HB.out.1
      by_cases hlt : n < es.length
      · by_cases h16 : ws.length < 16
        · have g1 : (ws.length : Int) < 16 := by omega
          obtain ⟨b, off, rfl, hbl, e0, e1, e2, z1, z2⟩ := (HEL.out n es[n] (List.getElem?_eq_getElem hlt))
          have BW := HB.out.2.2.1
          have MW := HB.out.2.2.2
          have HV := Lib.hid HB.out.2.1
          have x0 := (BW.cell (p := ⟨b, off + n * 3, none⟩) hbl).trans e0
          have x1 := (BW.cell (p := ⟨b, off + n * 3 + 1, none⟩) hbl).trans e1
          have x2 := (BW.cell (p := ⟨b, off + n * 3 + 2, none⟩) hbl).trans e2
          have c1 := fun w' hM => print_any es[n].1 es[n].2.1 es[n].2.2 z1 z2 w' hM
          clear e0 e1 e2 h16 HB
          generalize es[n].1 = en at *
          generalize es[n].2.1 = ea at *
          generalize es[n].2.2 = ed at *
          cases hv : validP ea.data.toList ed.data.toList
          · rw [priV_no hv] at c1
            clear hv
            go_wp2_with fail
            refine (c1 _ MW).mono ?_; rintro e w4 ⟨rfl, b4⟩
            have O4 := hO.below b4
            have HB4 : Hid (BR w w4 ws) := Lib.hid ⟨hw16, HV.out, BW.trans (b4.mono BW.size), MW.below b4⟩
            clear b4 hO x0 x1 x2 c1 MW BW z1 z2
            go_wp2_with fail
            exact ⟨⟨n + 1, ws, a, cap, rfl, rfl, by go_num, by omega, O4, HB4⟩, by simp [intOf]; omega⟩
          · rw [priV_yes hv] at c1
            have hil := item_len hv
            have hzi : (⟨(item (ea.data.toList, ed.data.toList)).toArray⟩ : ByteArray).size ≤ 129 := by show (item (ea.data.toList, ed.data.toList)).toArray.size ≤ _; rw [List.size_toArray]; exact hil.2
            have hzt : (tx ws).size ≤ 2200 := by have := join_len ws HV.out; show (Lib.join (ws.map item) [44, 32]).toArray.size ≤ _; rw [List.size_toArray]; omega
            have hsn := tx_snoc ws (ea.data.toList, ed.data.toList)
            have HV2 : Hid (∀ p ∈ ws ++ [(ea.data.toList, ed.data.toList)], validP p.1 p.2 = true) := Lib.hid (by
              intro p hp
              rcases List.mem_append.1 hp with h | h
              · exact HV.out p h
              · simp at h; subst h; exact hv)
            have hxs : ((ws ++ [(ea.data.toList, ed.data.toList)]).map adOf).flatMap aC = (ws.map adOf).flatMap aC ++ [.string ⟨#[]⟩, .string ea, .string ed] := by
              rw [List.map_append, List.flatMap_append]
              conv => rhs; rw [of_list ea, of_list ed]
              rfl
            have HXS := Lib.hid hxs
            clear hv hil hxs
            go_wp2_with fail
            refine (c1 _ MW).mono ?_; rintro e w4 ⟨rfl, b4⟩
            have O4 := hO.below b4
            have B4 := BW.trans (b4.mono BW.size)
            have M4 := MW.below b4
            have y1 := (b4.cell (p := ⟨b, off + n * 3 + 1, none⟩) (Nat.lt_of_lt_of_le hbl BW.size)).trans x1
            have y2 := (b4.cell (p := ⟨b, off + n * 3 + 2, none⟩) (Nat.lt_of_lt_of_le hbl BW.size)).trans x2
            have hbl4 : b < w4.heap.size := Nat.lt_of_lt_of_le hbl B4.size
            clear b4 hO x0 x1 x2 c1 MW BW z1 z2
            generalize (⟨(item (ea.data.toList, ed.data.toList)).toArray⟩ : ByteArray) = xi at *
            have HSN := Lib.hid hsn
            have bi0 : (0 : Int) ≤ (n : Int) := by omega
            have bi1 : (n : Int) < (es.length : Int) := by omega
            clear hsn
            by_cases hw0 : ws.length = 0
            · have HS2 : Hid (tx (ws ++ [(ea.data.toList, ed.data.toList)]) = xi) := Lib.hid (by rw [HSN.out, if_pos hw0])
              have q0 : ¬ (0 : Int) < (ws.length : Int) := by omega
              have ht0 : tx ws = ⟨#[]⟩ := by
                have : ws = [] := List.length_eq_zero_iff.1 hw0
                rw [this]; rfl
              have hcat : (⟨#[]⟩ : ByteArray) ++ xi = xi := by apply ByteArray.ext; simp
              rw [ht0]
              clear hw0 HSN ht0 hzt
              go_wp2_with fail
              go_region_held3 (fun W => W.cell? ⟨b, off + n * 3 + 1, none⟩ = some (.string ea) ∧ W.cell? ⟨b, off + n * 3 + 2, none⟩ = some (.string ed)) (go_keep)
                ((refine step_ox (t := 31) (cs := #[.string ⟨#[]⟩, .string ea, .string ed]) (news := [.string ⟨#[]⟩, .string ea, .string ed]) Tryd.underlying31 infoA rfl (by decide) (by rfl) (by rfl) (by rfl) O4 (by rfl) rfl rfl (by intro u hu; simp at hu; rcases hu with rfl | rfl | rfl <;> rfl) (by unfold maxLen; omega) (by omega) ?_; intro v9 w9 O9 b9; have y1' := (b9.cell (p := ⟨b, off + n * 3 + 1, none⟩) hbl).trans y1; have y2' := (b9.cell (p := ⟨b, off + n * 3 + 2, none⟩) hbl).trans y2))
              obtain ⟨a9, cap9, rfl, _⟩ := O9.cells
              have M9 : Max w9 := by
                obtain ⟨m, hm⟩ := M4
                exact ⟨m, by rw [b9.cell (p := ⟨0, 0, none⟩) (Nat.lt_of_le_of_lt (Nat.zero_le _) hbl)]; exact hm⟩
              have HB9 : Hid (BR w w9 (ws ++ [(ea.data.toList, ed.data.toList)])) := Lib.hid ⟨by simp; omega, HV2.out, B4.trans b9, M9⟩
              have O9' : OX w.heap.size 23 3 w9 (.slice a9 (ws ++ [(ea.data.toList, ed.data.toList)]).length cap9) (ws ++ [(ea.data.toList, ed.data.toList)]).length (((ws ++ [(ea.data.toList, ed.data.toList)]).map adOf).flatMap aC) := by
                rw [HXS.out, List.length_append]; exact O9
              clear y1' y2' O9 b9 M9 O4 B4 M4 y1 y2
              go_wp2_with fail
              exact ⟨⟨n + 1, ws ++ [(ea.data.toList, ed.data.toList)], a9, cap9, by rw [HS2.out], by rw [List.length_append]; rfl, by go_num, by omega, O9', HB9⟩, by simp [intOf]; omega⟩
            · have HS2 : Hid (tx (ws ++ [(ea.data.toList, ed.data.toList)]) = tx ws ++ ⟨#[44, 32]⟩ ++ xi) := Lib.hid (by rw [HSN.out, if_neg hw0])
              have q0 : (0 : Int) < (ws.length : Int) := by omega
              have q2 : ((tx ws ++ ⟨#[44, 32]⟩) : ByteArray).size ≤ 2300 := by rw [ByteArray.size_append]; show (tx ws).size + 2 ≤ _; omega
              clear hw0 HSN
              generalize tx ws = tw at *
              go_wp2_with fail
              go_region_held3 (fun W => W.cell? ⟨b, off + n * 3 + 1, none⟩ = some (.string ea) ∧ W.cell? ⟨b, off + n * 3 + 2, none⟩ = some (.string ed)) (go_keep)
                ((refine step_ox (t := 31) (cs := #[.string ⟨#[]⟩, .string ea, .string ed]) (news := [.string ⟨#[]⟩, .string ea, .string ed]) Tryd.underlying31 infoA rfl (by decide) (by rfl) (by rfl) (by rfl) O4 (by rfl) rfl rfl (by intro u hu; simp at hu; rcases hu with rfl | rfl | rfl <;> rfl) (by unfold maxLen; omega) (by omega) ?_; intro v9 w9 O9 b9; have y1' := (b9.cell (p := ⟨b, off + n * 3 + 1, none⟩) hbl).trans y1; have y2' := (b9.cell (p := ⟨b, off + n * 3 + 2, none⟩) hbl).trans y2))
              obtain ⟨a9, cap9, rfl, _⟩ := O9.cells
              have M9 : Max w9 := by
                obtain ⟨m, hm⟩ := M4
                exact ⟨m, by rw [b9.cell (p := ⟨0, 0, none⟩) (Nat.lt_of_le_of_lt (Nat.zero_le _) hbl)]; exact hm⟩
              have HB9 : Hid (BR w w9 (ws ++ [(ea.data.toList, ed.data.toList)])) := Lib.hid ⟨by simp; omega, HV2.out, B4.trans b9, M9⟩
              have O9' : OX w.heap.size 23 3 w9 (.slice a9 (ws ++ [(ea.data.toList, ed.data.toList)]).length cap9) (ws ++ [(ea.data.toList, ed.data.toList)]).length (((ws ++ [(ea.data.toList, ed.data.toList)]).map adOf).flatMap aC) := by
                rw [HXS.out, List.length_append]; exact O9
              clear y1' y2' O9 b9 M9 O4 B4 M4 y1 y2
              go_wp2_with fail
              exact ⟨⟨n + 1, ws ++ [(ea.data.toList, ed.data.toList)], a9, cap9, by rw [HS2.out], by rw [List.length_append]; rfl, by go_num, by omega, O9', HB9⟩, by simp [intOf]; omega⟩
        · have g1 : ¬ (ws.length : Int) < 16 := by omega
          have BW := HB.out.2.2.1
          have MW := HB.out.2.2.2
          have HV := Lib.hid HB.out.2.1
          have hjl := join_len ws HV.out
          have cL := list_any (Lib.join (ws.map item) [44, 32]) (by omega) wr MW
          clear hjl HB
          cases ws with
          | nil => exact absurd (show ([] : List (List UInt8 × List UInt8)).length < 16 by simp) h16
          | cons p0 ws0 =>
            have hne : p0 :: ws0 ≠ [] := by simp
            have hpos : 0 < (p0 :: ws0).length := by simp
            generalize hws : p0 :: ws0 = ws at *
            rw [list_items ws HV.out hne hw16] at cL
            unfold LPost at cL
            have ht : (⟨(Lib.join (ws.map item) [44, 32]).toArray⟩ : ByteArray) = tx ws := rfl
            rw [ht] at cL
            generalize tx ws = t0 at *
            have q1 : ¬ (ws.length : Int) = 0 := by omega
            have q2 : ((ws.length : Int) == 0) = false := beq_no q1
            have hml : (ws.map adOf).length = ws.length := by simp
            dsimp only at cL
            rw [hml] at cL
            clear ht hws hne HV hml
            go_wp2_with fail
            refine cL.mono ?_; rintro e w5 ⟨⟨v, rfl, a7, cap7, rfl, h7, h8⟩, b7⟩
            have B7 := BW.trans (b7.mono BW.size)
            have O7 := hO.below b7
            rcases h8 with h8 | ⟨gm, rfl, hge, hgm, hcm⟩
            · exfalso
              have := congrArg List.length h8
              simp at this
              rw [this] at hpos
              simp at hpos
            · obtain ⟨aw, cw, ew, hcw, hcase⟩ := O7.cells
              injection ew with y1 y2 y3
              subst y1 y3
              rcases hcase with ⟨_, h0⟩ | ⟨gw, rfl, hBw, hgw, hcw'⟩
              · omega
              · have HCM := Lib.hid hcm
                have HCW := Lib.hid hcw'
                clear b7 BW MW hO O7 hge hgm hcm hcw hBw hgw hcw' cL
                go_wp2_with fail
                go_loopw [19] (fun iv wr2 => ∃ k m : Nat, iv = .int .i64 k ∧ k ≤ ws.length ∧ wr2 = w5.drewN m) (fun iv _ => ws.length - (intOf iv).toNat)
                case atStart => exact ⟨0, 0, rfl, Nat.zero_le _, rfl⟩
                case round =>
                  obtain ⟨k, mm, rfl, hk, hwr2⟩ := hrel
                  rw [hwr2]
                  clear hwr2
                  by_cases hkl : k < ws.length
                  · have hx : (ws.map adOf)[k]? = some (adOf ws[k]) := by rw [List.getElem?_map, List.getElem?_eq_getElem hkl]; rfl
                    obtain ⟨f0, f1, f2⟩ := flat_at _ k _ hx
                    have m0 : (w5.drewN mm).cell? ⟨gm, k * 3, none⟩ = some (sV (adOf ws[k]).name) := HCM.out _ _ f0
                    have m1 : (w5.drewN mm).cell? ⟨gm, k * 3 + 1, none⟩ = some (sV (adOf ws[k]).lo) := HCM.out _ _ f1
                    have m2 : (w5.drewN mm).cell? ⟨gm, k * 3 + 2, none⟩ = some (sV (adOf ws[k]).dm) := HCM.out _ _ f2
                    have u0 : (w5.drewN mm).cell? ⟨gw, k * 3, none⟩ = some (sV (adOf ws[k]).name) := HCW.out _ _ f0
                    have u1 : (w5.drewN mm).cell? ⟨gw, k * 3 + 1, none⟩ = some (sV (adOf ws[k]).lo) := HCW.out _ _ f1
                    have u2 : (w5.drewN mm).cell? ⟨gw, k * 3 + 2, none⟩ = some (sV (adOf ws[k]).dm) := HCW.out _ _ f2
                    have bk0 : (0 : Int) ≤ (k : Int) := by omega
                    have bk1 : (k : Int) < (ws.length : Int) := by omega
                    clear f0 f1 f2 hx
                    unfold sV at m0 m1 m2 u0 u1 u2
                    generalize (⟨(adOf ws[k]).name.toArray⟩ : ByteArray) = z0 at *
                    generalize (⟨(adOf ws[k]).lo.toArray⟩ : ByteArray) = z1 at *
                    generalize (⟨(adOf ws[k]).dm.toArray⟩ : ByteArray) = z2 at *
                    obtain ⟨w6, hw6⟩ : ∃ w6, w6 = w5.drewN mm := ⟨_, rfl⟩
                    rw [← hw6] at m0 m1 m2 u0 u1 u2 ⊢
                    have HW6 := Lib.hid hw6
                    clear hw6
                    go_wp2_with fail
                    go_quiet (fail)
                    go_wp2_with fail
                    exact ⟨⟨k + 1, mm + nq, by go_num, by omega, by rw [HW6.out]; exact drewN_two _ _ _⟩, by simp [intOf]; omega⟩
                  · have bk1 : ¬ (k : Int) < (ws.length : Int) := by omega
                    go_wp2_with fail
                    go_ret
                    exact ⟨rfl, below_dN B7 _⟩
      · have g0 : ¬ (n : Int) < (es.length : Int) := by omega
        have BW := HB.out.2.2.1
        have MW := HB.out.2.2.2
        have HV := Lib.hid HB.out.2.1
        have hjl := join_len ws HV.out
        have cL := list_any (Lib.join (ws.map item) [44, 32]) (by omega) wr MW
        clear hjl HB
        cases ws with
        | nil =>
          have hl : listR (Lib.join (([] : List (List UInt8 × List UInt8)).map item) [44, 32]) = ([], 90) := list_nil
          rw [hl] at cL
          unfold LPost at cL
          have ht : (⟨(Lib.join (([] : List (List UInt8 × List UInt8)).map item) [44, 32]).toArray⟩ : ByteArray) = tx [] := rfl
          rw [ht] at cL
          generalize tx [] = t0 at *
          clear ht hl HV
          go_wp2_with fail
          refine cL.mono ?_; rintro e w5 ⟨⟨v, rfl, a7, cap7, rfl, h7, h8⟩, b7⟩
          have B7 := BW.trans (b7.mono BW.size)
          clear h7 h8 b7 BW MW hO
          go_wp2_with fail
          go_ret
          exact ⟨rfl, B7⟩
        | cons p0 ws0 =>
          have hne : p0 :: ws0 ≠ [] := by simp
          have hpos : 0 < (p0 :: ws0).length := by simp
          generalize hws : p0 :: ws0 = ws at *
          rw [list_items ws HV.out hne hw16] at cL
          unfold LPost at cL
          have ht : (⟨(Lib.join (ws.map item) [44, 32]).toArray⟩ : ByteArray) = tx ws := rfl
          rw [ht] at cL
          generalize tx ws = t0 at *
          have q1 : ¬ (ws.length : Int) = 0 := by omega
          have q2 : ((ws.length : Int) == 0) = false := beq_no q1
          have hml : (ws.map adOf).length = ws.length := by simp
          dsimp only at cL
          rw [hml] at cL
          clear ht hws hne HV hml
          go_wp2_with fail
          refine cL.mono ?_; rintro e w5 ⟨⟨v, rfl, a7, cap7, rfl, h7, h8⟩, b7⟩
          have B7 := BW.trans (b7.mono BW.size)
          have O7 := hO.below b7
          rcases h8 with h8 | ⟨gm, rfl, hge, hgm, hcm⟩
          · exfalso
            have := congrArg List.length h8
            simp at this
            rw [this] at hpos
            simp at hpos
          · obtain ⟨aw, cw, ew, hcw, hcase⟩ := O7.cells
            injection ew with y1 y2 y3
            subst y1 y3
            rcases hcase with ⟨_, h0⟩ | ⟨gw, rfl, hBw, hgw, hcw'⟩
            · omega
            · have HCM := Lib.hid hcm
              have HCW := Lib.hid hcw'
              clear b7 BW MW hO O7 hge hgm hcm hcw hBw hgw hcw' cL
              go_wp2_with fail
              go_loopw [19] (fun iv wr2 => ∃ k m : Nat, iv = .int .i64 k ∧ k ≤ ws.length ∧ wr2 = w5.drewN m) (fun iv _ => ws.length - (intOf iv).toNat)
              case atStart => exact ⟨0, 0, rfl, Nat.zero_le _, rfl⟩
              case round =>
                obtain ⟨k, mm, rfl, hk, hwr2⟩ := hrel
                rw [hwr2]
                clear hwr2
                by_cases hkl : k < ws.length
                · have hx : (ws.map adOf)[k]? = some (adOf ws[k]) := by rw [List.getElem?_map, List.getElem?_eq_getElem hkl]; rfl
                  obtain ⟨f0, f1, f2⟩ := flat_at _ k _ hx
                  have m0 : (w5.drewN mm).cell? ⟨gm, k * 3, none⟩ = some (sV (adOf ws[k]).name) := HCM.out _ _ f0
                  have m1 : (w5.drewN mm).cell? ⟨gm, k * 3 + 1, none⟩ = some (sV (adOf ws[k]).lo) := HCM.out _ _ f1
                  have m2 : (w5.drewN mm).cell? ⟨gm, k * 3 + 2, none⟩ = some (sV (adOf ws[k]).dm) := HCM.out _ _ f2
                  have u0 : (w5.drewN mm).cell? ⟨gw, k * 3, none⟩ = some (sV (adOf ws[k]).name) := HCW.out _ _ f0
                  have u1 : (w5.drewN mm).cell? ⟨gw, k * 3 + 1, none⟩ = some (sV (adOf ws[k]).lo) := HCW.out _ _ f1
                  have u2 : (w5.drewN mm).cell? ⟨gw, k * 3 + 2, none⟩ = some (sV (adOf ws[k]).dm) := HCW.out _ _ f2
                  have bk0 : (0 : Int) ≤ (k : Int) := by omega
                  have bk1 : (k : Int) < (ws.length : Int) := by omega
                  clear f0 f1 f2 hx
                  unfold sV at m0 m1 m2 u0 u1 u2
                  generalize (⟨(adOf ws[k]).name.toArray⟩ : ByteArray) = z0 at *
                  generalize (⟨(adOf ws[k]).lo.toArray⟩ : ByteArray) = z1 at *
                  generalize (⟨(adOf ws[k]).dm.toArray⟩ : ByteArray) = z2 at *
                  obtain ⟨w6, hw6⟩ : ∃ w6, w6 = w5.drewN mm := ⟨_, rfl⟩
                  rw [← hw6] at m0 m1 m2 u0 u1 u2 ⊢
                  have HW6 := Lib.hid hw6
                  clear hw6
                  go_wp2_with fail
                  go_quiet (fail)
                  go_wp2_with fail
                  exact ⟨⟨k + 1, mm + nq, by go_num, by omega, by rw [HW6.out]; exact drewN_two _ _ _⟩, by simp [intOf]; omega⟩
                · have bk1 : ¬ (k : Int) < (ws.length : Int) := by omega
                  go_wp2_with fail
                  go_ret
                  exact ⟨rfl, below_dN B7 _⟩
  | some p =>
    obtain ⟨p1, p2⟩ := p
    obtain ⟨hsi, hpv⟩ := parse_some hp
    have hpl := item_len hpv
    have hv : parV s.data.toList = .tuple #[adV [] p1 p2, .int .i64 0] := by unfold parV; rw [hp]
    have hss : (⟨(item (p1, p2)).toArray⟩ : ByteArray) = s := by rw [← hsi]
    have hs129 : s.size ≤ 129 := by rw [Lib.size_eq, hsi]; exact hpl.2
    have hvl := valid_len hpv
    have k2 := fun w hM => print_any ⟨#[]⟩ ⟨p1.toArray⟩ ⟨p2.toArray⟩ (by show p1.toArray.size ≤ _; rw [List.size_toArray]; omega) (by show p2.toArray.size ≤ _; rw [List.size_toArray]; omega) w hM
    simp only [str_data] at k2
    rw [priV_yes hpv, hss] at k2
    have hne : s.data.toList ≠ [] := by
      intro e
      rw [hsi] at e
      rw [e] at hpl
      simp at hpl
    have hang : (⟨#[60]⟩ ++ s ++ ⟨#[62]⟩ : ByteArray).data.toList = 60 :: (s.data.toList ++ [62]) := by
      conv => lhs; rw [of_list s]
      rw [show (⟨#[60]⟩ : ByteArray) = ⟨[60].toArray⟩ from rfl, show (⟨#[62]⟩ : ByteArray) = ⟨[62].toArray⟩ from rfl, str_app, str_app]
      simp
    have k3 := fun w hM => path_any (⟨#[60]⟩ ++ s ++ ⟨#[62]⟩) (by rw [ByteArray.size_append, ByteArray.size_append]; show 1 + s.size + 1 ≤ _; omega) w hM
    rw [hang, path_of _ hne, hv] at k3
    rw [hv] at k1
    have hz60 : (⟨#[60]⟩ ++ s : ByteArray).size ≤ 200 := by rw [ByteArray.size_append]; show 1 + s.size ≤ _; omega
    clear hv hp hsi hpv hpl hss hvl hne hang
    unfold adV at k1 k3
    generalize (⟨p1.toArray⟩ : ByteArray) = x at *
    generalize (⟨p2.toArray⟩ : ByteArray) = y at *
    go_enter Tryd.func4, Tryd.ntmps4
    go_wp2_with fail
    refine (k0 _ hM).mono ?_; rintro e w1 ⟨rfl, b1⟩
    have M1 := hM.below b1
    clear hM k0
    go_wp2_with fail
    refine (k1 _ M1).mono ?_; rintro e w2 ⟨rfl, b2⟩
    have B2 := (b1.trans (b2.mono b1.size)).alloc (b1.trans (b2.mono b1.size)).size (.cells #[.string ⟨#[]⟩, .string x, .string y] 23)
    have M2 := max_alloc (M1.below b2) (.cells #[.string ⟨#[]⟩, .string x, .string y] 23)
    have A2 := heap_alloc_new w2 (.cells #[.string ⟨#[]⟩, .string x, .string y] 23)
    have r0 := cellA A2 0 (.string ⟨#[]⟩) rfl
    have r1 := cellA A2 1 (.string x) rfl
    have r2 := cellA A2 2 (.string y) rfl
    clear b1 b2 M1 k1
    go_wp2_with fail
    generalize w2.alloc (.cells #[.string ⟨#[]⟩, .string x, .string y] 23) = v2 at *
    generalize w2.heap.size = g1 at *
    refine (k2 _ M2).mono ?_; rintro e w3 ⟨rfl, b3⟩
    have B3 := B2.trans (b3.mono B2.size)
    have A3 := Own2.step A2 b3
    have M3 := M2.below b3
    clear b3 B2 A2 M2 k2 r0 r1 r2
    go_wp2_with fail
    refine (k3 _ M3).mono ?_; rintro e w4 ⟨rfl, b4⟩
    have b4' := b4.alloc b4.size (.cells #[.string ⟨#[]⟩, .string x, .string y] 23)
    have B0 := B3.trans (b4'.mono B3.size)
    have M0 := M3.below b4'
    have A4 := Own2.step A3 b4'
    have D4 := heap_alloc_new w4 (.cells #[.string ⟨#[]⟩, .string x, .string y] 23)
    have r0 := cellA A4 0 (.string ⟨#[]⟩) rfl
    have r1 := cellA A4 1 (.string x) rfl
    have r2 := cellA A4 2 (.string y) rfl
    have s0 := cellA D4 0 (.string ⟨#[]⟩) rfl
    have s1 := cellA D4 1 (.string x) rfl
    have s2 := cellA D4 2 (.string y) rfl
    clear b4 b4' B3 M3 A3 k3 A4 D4 hz60
    have hgz : (w4.alloc (.cells #[.string ⟨#[]⟩, .string x, .string y] 23)).heap.size = w4.heap.size + 1 := by simp
    have BE : Below w.heap.size w ((w4.alloc (.cells #[.string ⟨#[]⟩, .string x, .string y] 23)).alloc (.cells #[] 23)) := B0.alloc B0.size _
    have ME := max_alloc M0 (.cells #[] 23)
    have OE : OX w.heap.size 23 3 ((w4.alloc (.cells #[.string ⟨#[]⟩, .string x, .string y] 23)).alloc (.cells #[] 23)) (.slice (some ⟨(w4.alloc (.cells #[.string ⟨#[]⟩, .string x, .string y] 23)).heap.size, 0, none⟩) 0 0) 0 (([] : List (List UInt8 × List UInt8)).map adOf |>.flatMap aC) := ⟨⟨rfl, .inr ⟨(w4.alloc (.cells #[.string ⟨#[]⟩, .string x, .string y] 23)).heap.size, 0, _, rfl, B0.size, heap_alloc_new (w4.alloc (.cells #[.string ⟨#[]⟩, .string x, .string y] 23)) _, Nat.le_refl _, by unfold maxLen; omega, rfl, rfl⟩⟩, BE.size⟩
    have HB0 : Hid (BR w ((w4.alloc (.cells #[.string ⟨#[]⟩, .string x, .string y] 23)).alloc (.cells #[] 23)) []) := Lib.hid ⟨by simp, by simp, BE, ME⟩
    rw [hgz] at OE
    clear BE ME B0 M0 hgz
    go_wp2_with fail
    clear r0 r1 r2 s0 s1 s2
    generalize (w4.alloc (.cells #[.string ⟨#[]⟩, .string x, .string y] 23)).alloc (.cells #[] 23) = wE at *
    generalize w4.heap.size = gE at *
    go_loopw [12, 13, 14] (fun tv wv iv wr => ∃ (n : Nat) (ws : List (List UInt8 × List UInt8)) (a : Option Addr) (cap : Nat), tv = .string (tx ws) ∧ wv = .slice a ws.length cap ∧ iv = .int .i64 n ∧ n ≤ es.length ∧ OX w.heap.size 23 3 wr (.slice a ws.length cap) ws.length ((ws.map adOf).flatMap aC) ∧ Hid (BR w wr ws)) (fun tv wv iv wr => es.length - (intOf iv).toNat)
    case atStart => exact ⟨0, [], _, 0, rfl, rfl, rfl, Nat.zero_le _, OE, HB0⟩
    case round =>
      obtain ⟨n, ws, a, cap, rfl, rfl, rfl, hn, hO, HB⟩ := hrel
      clear OE HB0
      have hw16 := HB.out.1
      by_cases hlt : n < es.length
      · by_cases h16 : ws.length < 16
        · have g1 : (ws.length : Int) < 16 := by omega
          obtain ⟨b, off, rfl, hbl, e0, e1, e2, z1, z2⟩ := (HEL.out n es[n] (List.getElem?_eq_getElem hlt))
          have BW := HB.out.2.2.1
          have MW := HB.out.2.2.2
          have HV := Lib.hid HB.out.2.1
          have x0 := (BW.cell (p := ⟨b, off + n * 3, none⟩) hbl).trans e0
          have x1 := (BW.cell (p := ⟨b, off + n * 3 + 1, none⟩) hbl).trans e1
          have x2 := (BW.cell (p := ⟨b, off + n * 3 + 2, none⟩) hbl).trans e2
          have c1 := fun w' hM => print_any es[n].1 es[n].2.1 es[n].2.2 z1 z2 w' hM
          clear e0 e1 e2 h16 HB
          generalize es[n].1 = en at *
          generalize es[n].2.1 = ea at *
          generalize es[n].2.2 = ed at *
          cases hv : validP ea.data.toList ed.data.toList
          · rw [priV_no hv] at c1
            clear hv
            go_wp2_with fail
            refine (c1 _ MW).mono ?_; rintro e w4 ⟨rfl, b4⟩
            have O4 := hO.below b4
            have HB4 : Hid (BR w w4 ws) := Lib.hid ⟨hw16, HV.out, BW.trans (b4.mono BW.size), MW.below b4⟩
            clear b4 hO x0 x1 x2 c1 MW BW z1 z2
            go_wp2_with fail
            exact ⟨⟨n + 1, ws, a, cap, rfl, rfl, by go_num, by omega, O4, HB4⟩, by simp [intOf]; omega⟩
          · rw [priV_yes hv] at c1
            have hil := item_len hv
            have hzi : (⟨(item (ea.data.toList, ed.data.toList)).toArray⟩ : ByteArray).size ≤ 129 := by show (item (ea.data.toList, ed.data.toList)).toArray.size ≤ _; rw [List.size_toArray]; exact hil.2
            have hzt : (tx ws).size ≤ 2200 := by have := join_len ws HV.out; show (Lib.join (ws.map item) [44, 32]).toArray.size ≤ _; rw [List.size_toArray]; omega
            have hsn := tx_snoc ws (ea.data.toList, ed.data.toList)
            have HV2 : Hid (∀ p ∈ ws ++ [(ea.data.toList, ed.data.toList)], validP p.1 p.2 = true) := Lib.hid (by
              intro p hp
              rcases List.mem_append.1 hp with h | h
              · exact HV.out p h
              · simp at h; subst h; exact hv)
            have hxs : ((ws ++ [(ea.data.toList, ed.data.toList)]).map adOf).flatMap aC = (ws.map adOf).flatMap aC ++ [.string ⟨#[]⟩, .string ea, .string ed] := by
              rw [List.map_append, List.flatMap_append]
              conv => rhs; rw [of_list ea, of_list ed]
              rfl
            have HXS := Lib.hid hxs
            clear hv hil hxs
            go_wp2_with fail
            refine (c1 _ MW).mono ?_; rintro e w4 ⟨rfl, b4⟩
            have O4 := hO.below b4
            have B4 := BW.trans (b4.mono BW.size)
            have M4 := MW.below b4
            have y1 := (b4.cell (p := ⟨b, off + n * 3 + 1, none⟩) (Nat.lt_of_lt_of_le hbl BW.size)).trans x1
            have y2 := (b4.cell (p := ⟨b, off + n * 3 + 2, none⟩) (Nat.lt_of_lt_of_le hbl BW.size)).trans x2
            have hbl4 : b < w4.heap.size := Nat.lt_of_lt_of_le hbl B4.size
            clear b4 hO x0 x1 x2 c1 MW BW z1 z2
            generalize (⟨(item (ea.data.toList, ed.data.toList)).toArray⟩ : ByteArray) = xi at *
            have HSN := Lib.hid hsn
            have bi0 : (0 : Int) ≤ (n : Int) := by omega
            have bi1 : (n : Int) < (es.length : Int) := by omega
            clear hsn
            by_cases hw0 : ws.length = 0
            · have HS2 : Hid (tx (ws ++ [(ea.data.toList, ed.data.toList)]) = xi) := Lib.hid (by rw [HSN.out, if_pos hw0])
              have q0 : ¬ (0 : Int) < (ws.length : Int) := by omega
              have ht0 : tx ws = ⟨#[]⟩ := by
                have : ws = [] := List.length_eq_zero_iff.1 hw0
                rw [this]; rfl
              have hcat : (⟨#[]⟩ : ByteArray) ++ xi = xi := by apply ByteArray.ext; simp
              rw [ht0]
              clear hw0 HSN ht0 hzt
              go_wp2_with fail
              go_region_held3 (fun W => W.cell? ⟨b, off + n * 3 + 1, none⟩ = some (.string ea) ∧ W.cell? ⟨b, off + n * 3 + 2, none⟩ = some (.string ed)) (go_keep)
                ((refine step_ox (t := 31) (cs := #[.string ⟨#[]⟩, .string ea, .string ed]) (news := [.string ⟨#[]⟩, .string ea, .string ed]) Tryd.underlying31 infoA rfl (by decide) (by rfl) (by rfl) (by rfl) O4 (by rfl) rfl rfl (by intro u hu; simp at hu; rcases hu with rfl | rfl | rfl <;> rfl) (by unfold maxLen; omega) (by omega) ?_; intro v9 w9 O9 b9; have y1' := (b9.cell (p := ⟨b, off + n * 3 + 1, none⟩) hbl).trans y1; have y2' := (b9.cell (p := ⟨b, off + n * 3 + 2, none⟩) hbl).trans y2))
              obtain ⟨a9, cap9, rfl, _⟩ := O9.cells
              have M9 : Max w9 := by
                obtain ⟨m, hm⟩ := M4
                exact ⟨m, by rw [b9.cell (p := ⟨0, 0, none⟩) (Nat.lt_of_le_of_lt (Nat.zero_le _) hbl)]; exact hm⟩
              have HB9 : Hid (BR w w9 (ws ++ [(ea.data.toList, ed.data.toList)])) := Lib.hid ⟨by simp; omega, HV2.out, B4.trans b9, M9⟩
              have O9' : OX w.heap.size 23 3 w9 (.slice a9 (ws ++ [(ea.data.toList, ed.data.toList)]).length cap9) (ws ++ [(ea.data.toList, ed.data.toList)]).length (((ws ++ [(ea.data.toList, ed.data.toList)]).map adOf).flatMap aC) := by
                rw [HXS.out, List.length_append]; exact O9
              clear y1' y2' O9 b9 M9 O4 B4 M4 y1 y2
              go_wp2_with fail
              exact ⟨⟨n + 1, ws ++ [(ea.data.toList, ed.data.toList)], a9, cap9, by rw [HS2.out], by rw [List.length_append]; rfl, by go_num, by omega, O9', HB9⟩, by simp [intOf]; omega⟩
            · have HS2 : Hid (tx (ws ++ [(ea.data.toList, ed.data.toList)]) = tx ws ++ ⟨#[44, 32]⟩ ++ xi) := Lib.hid (by rw [HSN.out, if_neg hw0])
              have q0 : (0 : Int) < (ws.length : Int) := by omega
              have q2 : ((tx ws ++ ⟨#[44, 32]⟩) : ByteArray).size ≤ 2300 := by rw [ByteArray.size_append]; show (tx ws).size + 2 ≤ _; omega
              clear hw0 HSN
              generalize tx ws = tw at *
              go_wp2_with fail
              go_region_held3 (fun W => W.cell? ⟨b, off + n * 3 + 1, none⟩ = some (.string ea) ∧ W.cell? ⟨b, off + n * 3 + 2, none⟩ = some (.string ed)) (go_keep)
                ((refine step_ox (t := 31) (cs := #[.string ⟨#[]⟩, .string ea, .string ed]) (news := [.string ⟨#[]⟩, .string ea, .string ed]) Tryd.underlying31 infoA rfl (by decide) (by rfl) (by rfl) (by rfl) O4 (by rfl) rfl rfl (by intro u hu; simp at hu; rcases hu with rfl | rfl | rfl <;> rfl) (by unfold maxLen; omega) (by omega) ?_; intro v9 w9 O9 b9; have y1' := (b9.cell (p := ⟨b, off + n * 3 + 1, none⟩) hbl).trans y1; have y2' := (b9.cell (p := ⟨b, off + n * 3 + 2, none⟩) hbl).trans y2))
              obtain ⟨a9, cap9, rfl, _⟩ := O9.cells
              have M9 : Max w9 := by
                obtain ⟨m, hm⟩ := M4
                exact ⟨m, by rw [b9.cell (p := ⟨0, 0, none⟩) (Nat.lt_of_le_of_lt (Nat.zero_le _) hbl)]; exact hm⟩
              have HB9 : Hid (BR w w9 (ws ++ [(ea.data.toList, ed.data.toList)])) := Lib.hid ⟨by simp; omega, HV2.out, B4.trans b9, M9⟩
              have O9' : OX w.heap.size 23 3 w9 (.slice a9 (ws ++ [(ea.data.toList, ed.data.toList)]).length cap9) (ws ++ [(ea.data.toList, ed.data.toList)]).length (((ws ++ [(ea.data.toList, ed.data.toList)]).map adOf).flatMap aC) := by
                rw [HXS.out, List.length_append]; exact O9
              clear y1' y2' O9 b9 M9 O4 B4 M4 y1 y2
              go_wp2_with fail
              exact ⟨⟨n + 1, ws ++ [(ea.data.toList, ed.data.toList)], a9, cap9, by rw [HS2.out], by rw [List.length_append]; rfl, by go_num, by omega, O9', HB9⟩, by simp [intOf]; omega⟩
        · have g1 : ¬ (ws.length : Int) < 16 := by omega
          have BW := HB.out.2.2.1
          have MW := HB.out.2.2.2
          have HV := Lib.hid HB.out.2.1
          have hjl := join_len ws HV.out
          have cL := list_any (Lib.join (ws.map item) [44, 32]) (by omega) wr MW
          clear hjl HB
          cases ws with
          | nil => exact absurd (show ([] : List (List UInt8 × List UInt8)).length < 16 by simp) h16
          | cons p0 ws0 =>
            have hne : p0 :: ws0 ≠ [] := by simp
            have hpos : 0 < (p0 :: ws0).length := by simp
            generalize hws : p0 :: ws0 = ws at *
            rw [list_items ws HV.out hne hw16] at cL
            unfold LPost at cL
            have ht : (⟨(Lib.join (ws.map item) [44, 32]).toArray⟩ : ByteArray) = tx ws := rfl
            rw [ht] at cL
            generalize tx ws = t0 at *
            have q1 : ¬ (ws.length : Int) = 0 := by omega
            have q2 : ((ws.length : Int) == 0) = false := beq_no q1
            have hml : (ws.map adOf).length = ws.length := by simp
            dsimp only at cL
            rw [hml] at cL
            clear ht hws hne HV hml
            go_wp2_with fail
            refine cL.mono ?_; rintro e w5 ⟨⟨v, rfl, a7, cap7, rfl, h7, h8⟩, b7⟩
            have B7 := BW.trans (b7.mono BW.size)
            have O7 := hO.below b7
            rcases h8 with h8 | ⟨gm, rfl, hge, hgm, hcm⟩
            · exfalso
              have := congrArg List.length h8
              simp at this
              rw [this] at hpos
              simp at hpos
            · obtain ⟨aw, cw, ew, hcw, hcase⟩ := O7.cells
              injection ew with y1 y2 y3
              subst y1 y3
              rcases hcase with ⟨_, h0⟩ | ⟨gw, rfl, hBw, hgw, hcw'⟩
              · omega
              · have HCM := Lib.hid hcm
                have HCW := Lib.hid hcw'
                clear b7 BW MW hO O7 hge hgm hcm hcw hBw hgw hcw' cL
                go_wp2_with fail
                go_loopw [19] (fun iv wr2 => ∃ k m : Nat, iv = .int .i64 k ∧ k ≤ ws.length ∧ wr2 = w5.drewN m) (fun iv _ => ws.length - (intOf iv).toNat)
                case atStart => exact ⟨0, 0, rfl, Nat.zero_le _, rfl⟩
                case round =>
                  obtain ⟨k, mm, rfl, hk, hwr2⟩ := hrel
                  rw [hwr2]
                  clear hwr2
                  by_cases hkl : k < ws.length
                  · have hx : (ws.map adOf)[k]? = some (adOf ws[k]) := by rw [List.getElem?_map, List.getElem?_eq_getElem hkl]; rfl
                    obtain ⟨f0, f1, f2⟩ := flat_at _ k _ hx
                    have m0 : (w5.drewN mm).cell? ⟨gm, k * 3, none⟩ = some (sV (adOf ws[k]).name) := HCM.out _ _ f0
                    have m1 : (w5.drewN mm).cell? ⟨gm, k * 3 + 1, none⟩ = some (sV (adOf ws[k]).lo) := HCM.out _ _ f1
                    have m2 : (w5.drewN mm).cell? ⟨gm, k * 3 + 2, none⟩ = some (sV (adOf ws[k]).dm) := HCM.out _ _ f2
                    have u0 : (w5.drewN mm).cell? ⟨gw, k * 3, none⟩ = some (sV (adOf ws[k]).name) := HCW.out _ _ f0
                    have u1 : (w5.drewN mm).cell? ⟨gw, k * 3 + 1, none⟩ = some (sV (adOf ws[k]).lo) := HCW.out _ _ f1
                    have u2 : (w5.drewN mm).cell? ⟨gw, k * 3 + 2, none⟩ = some (sV (adOf ws[k]).dm) := HCW.out _ _ f2
                    have bk0 : (0 : Int) ≤ (k : Int) := by omega
                    have bk1 : (k : Int) < (ws.length : Int) := by omega
                    clear f0 f1 f2 hx
                    unfold sV at m0 m1 m2 u0 u1 u2
                    generalize (⟨(adOf ws[k]).name.toArray⟩ : ByteArray) = z0 at *
                    generalize (⟨(adOf ws[k]).lo.toArray⟩ : ByteArray) = z1 at *
                    generalize (⟨(adOf ws[k]).dm.toArray⟩ : ByteArray) = z2 at *
                    obtain ⟨w6, hw6⟩ : ∃ w6, w6 = w5.drewN mm := ⟨_, rfl⟩
                    rw [← hw6] at m0 m1 m2 u0 u1 u2 ⊢
                    have HW6 := Lib.hid hw6
                    clear hw6
                    go_wp2_with fail
                    go_quiet (fail)
                    go_wp2_with fail
                    exact ⟨⟨k + 1, mm + nq, by go_num, by omega, by rw [HW6.out]; exact drewN_two _ _ _⟩, by simp [intOf]; omega⟩
                  · have bk1 : ¬ (k : Int) < (ws.length : Int) := by omega
                    go_wp2_with fail
                    go_ret
                    exact ⟨rfl, below_dN B7 _⟩
      · have g0 : ¬ (n : Int) < (es.length : Int) := by omega
        have BW := HB.out.2.2.1
        have MW := HB.out.2.2.2
        have HV := Lib.hid HB.out.2.1
        have hjl := join_len ws HV.out
        have cL := list_any (Lib.join (ws.map item) [44, 32]) (by omega) wr MW
        clear hjl HB
        cases ws with
        | nil =>
          have hl : listR (Lib.join (([] : List (List UInt8 × List UInt8)).map item) [44, 32]) = ([], 90) := list_nil
          rw [hl] at cL
          unfold LPost at cL
          have ht : (⟨(Lib.join (([] : List (List UInt8 × List UInt8)).map item) [44, 32]).toArray⟩ : ByteArray) = tx [] := rfl
          rw [ht] at cL
          generalize tx [] = t0 at *
          clear ht hl HV
          go_wp2_with fail
          refine cL.mono ?_; rintro e w5 ⟨⟨v, rfl, a7, cap7, rfl, h7, h8⟩, b7⟩
          have B7 := BW.trans (b7.mono BW.size)
          clear h7 h8 b7 BW MW hO
          go_wp2_with fail
          go_ret
          exact ⟨rfl, B7⟩
        | cons p0 ws0 =>
          have hne : p0 :: ws0 ≠ [] := by simp
          have hpos : 0 < (p0 :: ws0).length := by simp
          generalize hws : p0 :: ws0 = ws at *
          rw [list_items ws HV.out hne hw16] at cL
          unfold LPost at cL
          have ht : (⟨(Lib.join (ws.map item) [44, 32]).toArray⟩ : ByteArray) = tx ws := rfl
          rw [ht] at cL
          generalize tx ws = t0 at *
          have q1 : ¬ (ws.length : Int) = 0 := by omega
          have q2 : ((ws.length : Int) == 0) = false := beq_no q1
          have hml : (ws.map adOf).length = ws.length := by simp
          dsimp only at cL
          rw [hml] at cL
          clear ht hws hne HV hml
          go_wp2_with fail
          refine cL.mono ?_; rintro e w5 ⟨⟨v, rfl, a7, cap7, rfl, h7, h8⟩, b7⟩
          have B7 := BW.trans (b7.mono BW.size)
          have O7 := hO.below b7
          rcases h8 with h8 | ⟨gm, rfl, hge, hgm, hcm⟩
          · exfalso
            have := congrArg List.length h8
            simp at this
            rw [this] at hpos
            simp at hpos
          · obtain ⟨aw, cw, ew, hcw, hcase⟩ := O7.cells
            injection ew with y1 y2 y3
            subst y1 y3
            rcases hcase with ⟨_, h0⟩ | ⟨gw, rfl, hBw, hgw, hcw'⟩
            · omega
            · have HCM := Lib.hid hcm
              have HCW := Lib.hid hcw'
              clear b7 BW MW hO O7 hge hgm hcm hcw hBw hgw hcw' cL
              go_wp2_with fail
              go_loopw [19] (fun iv wr2 => ∃ k m : Nat, iv = .int .i64 k ∧ k ≤ ws.length ∧ wr2 = w5.drewN m) (fun iv _ => ws.length - (intOf iv).toNat)
              case atStart => exact ⟨0, 0, rfl, Nat.zero_le _, rfl⟩
              case round =>
                obtain ⟨k, mm, rfl, hk, hwr2⟩ := hrel
                rw [hwr2]
                clear hwr2
                by_cases hkl : k < ws.length
                · have hx : (ws.map adOf)[k]? = some (adOf ws[k]) := by rw [List.getElem?_map, List.getElem?_eq_getElem hkl]; rfl
                  obtain ⟨f0, f1, f2⟩ := flat_at _ k _ hx
                  have m0 : (w5.drewN mm).cell? ⟨gm, k * 3, none⟩ = some (sV (adOf ws[k]).name) := HCM.out _ _ f0
                  have m1 : (w5.drewN mm).cell? ⟨gm, k * 3 + 1, none⟩ = some (sV (adOf ws[k]).lo) := HCM.out _ _ f1
                  have m2 : (w5.drewN mm).cell? ⟨gm, k * 3 + 2, none⟩ = some (sV (adOf ws[k]).dm) := HCM.out _ _ f2
                  have u0 : (w5.drewN mm).cell? ⟨gw, k * 3, none⟩ = some (sV (adOf ws[k]).name) := HCW.out _ _ f0
                  have u1 : (w5.drewN mm).cell? ⟨gw, k * 3 + 1, none⟩ = some (sV (adOf ws[k]).lo) := HCW.out _ _ f1
                  have u2 : (w5.drewN mm).cell? ⟨gw, k * 3 + 2, none⟩ = some (sV (adOf ws[k]).dm) := HCW.out _ _ f2
                  have bk0 : (0 : Int) ≤ (k : Int) := by omega
                  have bk1 : (k : Int) < (ws.length : Int) := by omega
                  clear f0 f1 f2 hx
                  unfold sV at m0 m1 m2 u0 u1 u2
                  generalize (⟨(adOf ws[k]).name.toArray⟩ : ByteArray) = z0 at *
                  generalize (⟨(adOf ws[k]).lo.toArray⟩ : ByteArray) = z1 at *
                  generalize (⟨(adOf ws[k]).dm.toArray⟩ : ByteArray) = z2 at *
                  obtain ⟨w6, hw6⟩ : ∃ w6, w6 = w5.drewN mm := ⟨_, rfl⟩
                  rw [← hw6] at m0 m1 m2 u0 u1 u2 ⊢
                  have HW6 := Lib.hid hw6
                  clear hw6
                  go_wp2_with fail
                  go_quiet (fail)
                  go_wp2_with fail
                  exact ⟨⟨k + 1, mm + nq, by go_num, by omega, by rw [HW6.out]; exact drewN_two _ _ _⟩, by simp [intOf]; omega⟩
                · have bk1 : ¬ (k : Int) < (ws.length : Int) := by omega
                  go_wp2_with fail
                  go_ret
                  exact ⟨rfl, below_dN B7 _⟩
end Go.Proofs.YtgdcdknmijeioaaDoor
