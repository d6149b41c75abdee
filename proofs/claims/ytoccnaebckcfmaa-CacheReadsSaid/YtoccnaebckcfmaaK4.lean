/- What drop does, by either choice. -/
import Derived.Test.YtoccnaebckcfmaaK3
set_option linter.unusedSimpArgs false
set_option linter.unusedVariables false
set_option maxRecDepth 8000
namespace Go.Proofs.Ytoccnaebckcfmaa
open Go.RowKit
open Go.ChangeMaps (setBlock)

def pickD (m : Bool) (pin : List Int) (ex x : Int) : Bool := if m then evPick ex pin x else decide (x ∈ pin)
def stepD (m : Bool) (pin : List Int) (s : List Int × Int) (x : Int) : List Int × Int := if pickD m pin s.2 x then (s.1, s.2 - 1) else (s.1 ++ [x], s.2)
def runD (m : Bool) (pin l : List Int) (ex : Int) : List Int × Int := l.foldl (stepD m pin) ([], ex)

theorem runD_snoc (m : Bool) (pin l : List Int) (ex x : Int) : runD m pin (l ++ [x]) ex = stepD m pin (runD m pin l ex) x := by simp [runD]
theorem runD_nil (m : Bool) (pin : List Int) (ex : Int) : runD m pin [] ex = ([], ex) := rfl

/-- By lists that grow at their end. -/
theorem snoc_ind {P : List Int → Prop} (h0 : P []) (h1 : ∀ l x, P l → P (l ++ [x])) (l : List Int) : P l := by
  rw [← List.reverse_reverse l]
  induction l.reverse with
  | nil => exact h0
  | cons x l ih => rw [List.reverse_cons]; exact h1 _ _ ih

theorem runD_len (m : Bool) (pin : List Int) (ex : Int) (l : List Int) : (runD m pin l ex).1.length ≤ l.length := by
  refine snoc_ind (P := fun l => (runD m pin l ex).1.length ≤ l.length) (by simp [runD_nil]) (fun l x ih => ?_) l
  rw [runD_snoc, stepD]
  split
  · simp; omega
  · simp; omega
theorem runD_sub (m : Bool) (pin : List Int) (ex : Int) (l : List Int) : (runD m pin l ex).1.Sublist l := by
  refine snoc_ind (P := fun l => (runD m pin l ex).1.Sublist l) (by simp [runD_nil]) (fun l x ih => ?_) l
  rw [runD_snoc, stepD]
  split
  · exact ih.trans (List.sublist_append_left _ _)
  · exact List.Sublist.append ih (List.Sublist.refl _)
theorem runD_ex (pin : List Int) {ex : Int} (h : 0 ≤ ex) (l : List Int) : 0 ≤ (runD true pin l ex).2 ∧ (runD true pin l ex).2 ≤ ex := by
  refine snoc_ind (P := fun l => 0 ≤ (runD true pin l ex).2 ∧ (runD true pin l ex).2 ≤ ex) (by simp [runD_nil, h]) (fun l x ih => ?_) l
  rw [runD_snoc, stepD]
  split
  · rename_i hp
    simp [pickD, evPick] at hp
    simp only
    omega
  · exact ih
theorem runD_pin {pin : List Int} {ex : Int} {l : List Int} {x : Int} (hx : x ∈ l) (hp : x ∈ pin) : x ∈ (runD true pin l ex).1 := by
  revert hx
  refine snoc_ind (P := fun l => x ∈ l → x ∈ (runD true pin l ex).1) (by simp) (fun l y ih hx => ?_) l
  rw [runD_snoc, stepD]
  rcases List.mem_append.1 hx with h | h
  · split
    · exact ih h
    · exact List.mem_append.2 (.inl (ih h))
  · simp at h
    subst h
    rw [if_neg (by simp [pickD, evPick, hp])]
    simp
theorem runD_drop (pin : List Int) (ex : Int) (l : List Int) : (runD false pin l ex).1 = l.filter (fun x => !decide (x ∈ pin)) := by
  refine snoc_ind (P := fun l => (runD false pin l ex).1 = l.filter (fun x => !decide (x ∈ pin))) (by simp [runD_nil]) (fun l y ih => ?_) l
  rw [runD_snoc, stepD, List.filter_append, ← ih]
  by_cases hy : y ∈ pin
  · simp [pickD, hy]
  · simp [pickD, hy]

def cutF (held : Int → Option (Array Value)) (l K : List Int) : Int → Option (Array Value) := fun k => if k ∈ l ∧ k ∉ K then none else held k
theorem cutF_nil (held : Int → Option (Array Value)) : cutF held [] [] = held := by funext k; simp [cutF]
theorem cutF_pick {held : Int → Option (Array Value)} {l K : List Int} {x : Int} (hx : x ∉ l) (hK : ∀ y ∈ K, y ∈ l) : delF (cutF held l K) x = cutF held (l ++ [x]) K := by
  funext k
  unfold delF cutF
  by_cases hk : k = x
  · subst hk
    have : k ∉ K := fun h => hx (hK k h)
    simp [this]
  · simp [hk]
theorem cutF_keep {held : Int → Option (Array Value)} {l K : List Int} {x : Int} (hx : x ∉ l) : cutF held l K = cutF held (l ++ [x]) (K ++ [x]) := by
  funext k
  unfold cutF
  by_cases hk : k = x
  · subst hk
    simp [hx]
  · simp [hk]

def DropPost (cb d wb hm pm : Nat) (ov : Value) (C : CaS) (m : Bool) (ex : Int) (E : List Nat) (w : World) (e : Ending) (w' : World) : Prop :=
  e = .returned (.tuple #[]) ∧ ∃ ov', ov'.ownBlock = ov.ownBlock ∧ CIs w' cb d wb hm pm ov' { C with ord := (runD m C.pin C.ord ex).1, held := cutF C.held C.ord (runD m C.pin C.ord ex).1 } ∧ Only (E ++ cfoot cb hm pm ov) w w'

theorem info3s : (Try.prog.info? 3).map (fun i => i.size) = some 1 := by kernel_rfl
theorem run_append_in {w : World} {g n cap : Nat} {cur : Array Value} {x : Int} (hg : w.heap[g]? = some (.cells cur 3 (0, 0))) (hs : cur.size = cap) (hn : n < cap) (ty : TypeId) :
    (Builtin.append_ #[40, 40] ty #[.slice (some ⟨g, 0, none⟩) n cap, .slice (some ⟨w.heap.size, 0, none⟩) 1 1]).run Try.prog (w.alloc (.cells #[.int .i64 x] 3)) =
      .ok (.slice (some ⟨g, 0, none⟩) (n + 1) cap) ((w.alloc (.cells #[.int .i64 x] 3)).setRow g (cur.toList.take n ++ Value.int .i64 x :: cur.toList.drop (n + 1)).toArray) := by
  have hlt := (Array.getElem?_eq_some_iff.1 hg).1
  obtain ⟨i, hi, hz⟩ : ∃ i, Try.prog.info? 3 = some i ∧ i.size = 1 := by
    have := info3s
    cases h : Try.prog.info? 3 with
    | none => rw [h] at this; cases this
    | some i => rw [h] at this; exact ⟨i, rfl, by simpa using this⟩
  have hg' : (w.alloc (.cells #[.int .i64 x] 3)).heap[g]? = some (.cells cur 3 (0, 0)) := by rw [Below.heap_alloc _ _ _ hlt]; exact hg
  have := run_append_room (P := Try.prog) (w.alloc (.cells #[.int .i64 x] 3)) 40 ty 3 i Try.underlying40 hi g n cap cur hg' ⟨w.heap.size, 0, none⟩ 1 1 [.int .i64 x] (by simp [hz]) (fun j u hu => by
    have hj : j = 0 := by have := (List.getElem?_eq_some_iff.1 hu).1; simp at this; omega
    subst hj
    simp at hu
    subst hu
    rw [Addr.add_mid, cell_of_row _ _ _ _ _ _ (heap_alloc_last w (.cells #[.int .i64 x] 3))]
    rfl) (by simp [Value.oneCell']) (by omega) (by simp [hz]; omega)
  simpa [hz] using this
theorem heap_setRow_same {w : World} {g : Nat} {cs cs' : Array Value} {t : TypeId} {fr : Nat × Nat} (h : w.heap[g]? = some (.cells cs t fr)) : (w.setRow g cs').heap[g]? = some (.cells cs' t fr) := by
  obtain ⟨hlt, hk⟩ := Array.getElem?_eq_some_iff.1 h
  unfold World.setRow
  simp only
  rw [Array.getElem?_eq_getElem (by rw [Array.size_modify]; exact hlt), Array.getElem_modify_self, hk]
theorem heap_setRow_ne (w : World) (g : Nat) (cs : Array Value) {x : Nat} (h : x ≠ g) : (w.setRow g cs).heap[x]? = w.heap[x]? := by
  unfold World.setRow
  simp only
  rw [Array.getElem?_modify]
  simp [Ne.symm h]
theorem size_setRow (w : World) (g : Nat) (cs : Array Value) : (w.setRow g cs).heap.size = w.heap.size := by
  unfold World.setRow; simp
theorem Only.setRow {F : List Nat} {a b : World} (h : Only F a b) {g : Nat} (hp : g ∈ F ∨ a.heap.size ≤ g) (cs : Array Value) : Only F a (b.setRow g cs) :=
  ⟨h.os, h.tape, h.output, by rw [size_setRow]; exact h.size, fun k hk hn => by
    rw [heap_setRow_ne _ _ _ (fun e => by subst e; rcases hp with h | h; exact hn h; omega)]
    exact h.block k hk hn⟩

/-- Within drop, i sectors having been asked for. -/
structure DropAt_ev (w wr : World) (cb d wb hm pm g cap n : Nat) (ov : Value) (C : CaS) (ex : Int) (eb xb : Nat) (i : Nat) (cur : Array Value) : Prop where
  row : wr.heap[cb]? = some (.cells (crow d wb C hm pm ov) 74 (0, 0))
  held : MapAt wr hm (cutF C.held (C.ord.take i) (runD true C.pin (C.ord.take i) ex).1)
  pinned : MapAt wr pm (setF C.pin)
  blk : wr.heap[g]? = some (.cells cur 3 (0, 0))
  size : cur.size = cap
  kept : cur.toList.take (runD true C.pin (C.ord.take i) ex).1.length = (runD true C.pin (C.ord.take i) ex).1.map (Value.int .i64)
  rest : ∀ t x, i ≤ t → C.ord[t]? = some x → cur[t]? = some (.int .i64 x)
  eblk : wr.heap[eb]? = some (.cells #[.int .i64 (runD true C.pin (C.ord.take i) ex).2] 3 (0, 0))
  xblk : wr.heap[xb]? = some (.cells #[pp cb] 26 (0, 0))
  only : Only ([eb] ++ cfoot cb hm pm ov) w wr

/-- Within drop, i sectors having been asked for. -/
structure DropAt_pin (w wr : World) (cb d wb hm pm g cap n : Nat) (ov : Value) (C : CaS) (ex : Int) (i : Nat) (cur : Array Value) : Prop where
  row : wr.heap[cb]? = some (.cells (crow d wb C hm pm ov) 74 (0, 0))
  held : MapAt wr hm (cutF C.held (C.ord.take i) (runD false C.pin (C.ord.take i) ex).1)
  pinned : MapAt wr pm (setF C.pin)
  blk : wr.heap[g]? = some (.cells cur 3 (0, 0))
  size : cur.size = cap
  kept : cur.toList.take (runD false C.pin (C.ord.take i) ex).1.length = (runD false C.pin (C.ord.take i) ex).1.map (Value.int .i64)
  rest : ∀ t x, i ≤ t → C.ord[t]? = some x → cur[t]? = some (.int .i64 x)
  only : Only ([] ++ cfoot cb hm pm ov) w wr

set_option maxHeartbeats 4000000 in
theorem drop_pin {w : World} {cb d wb hm pm : Nat} {ov : Value} {C : CaS} (h : CIs w cb d wb hm pm ov C) (hnd : C.ord.Nodup) (hlen : C.ord.length ≤ 8192) :
    Calls Try.prog 51 #[pp cb, .func (.func 52) #[pp cb] #[]] w fun e w' => DropPost cb d wb hm pm ov C false 0 [] w e w' := by
  obtain ⟨c0, c1, c2, c3, c4, c5, c6, c7, fz⟩ := h.cells
  obtain ⟨a1, a2, a3, a4⟩ := h.apart
  show Calls Try.prog 51 #[.pointer (some ⟨cb, 0, none⟩), .func (.func 52) #[pp cb] #[]] w _
  have h0 := h
  rcases h.ord.2 with ⟨e, hn⟩ | ⟨g, cap, cur, e, _, hh, h1, h2, h3, h4⟩
  · have hnil : C.ord = [] := List.eq_nil_of_length_eq_zero hn
    subst e
    have H0 := Lib.hid h0
    have f6 := fz 6
    clear h h0 fz
    go_enter Try.func51, Try.ntmps51
    go_wp2
    go_loopw [17, 4] (fun j c wr => j = .int .i64 0 ∧ c = .slice none 0 0 ∧ wr = w) (fun _ _ _ => 0)
    case atStart => exact ⟨rfl, rfl, rfl⟩
    case round =>
      obtain ⟨rfl, rfl, rfl⟩ := hrel
      have hl0 : ¬ ((0 : Int) < (C.ord.length : Int)) := by omega
      go_wp2
      go_end0
      have hr0 : (runD false C.pin C.ord 0).1 = C.ord := by rw [hnil]; rfl
      have hc0 : cutF C.held C.ord C.ord = C.held := by funext k; simp [cutF]
      refine ⟨rfl, .slice none 0 0, rfl, ?_, (Only.refl _ _).setCell (p := ⟨cb, 6, none⟩) (.inl (by simp [cfoot])) _⟩
      rw [hr0, hc0]
      have hH := H0.out
      refine ⟨?_, mapAt_congr hH.held (Below.heap_setCell _ _ _ _ (by simpa using Ne.symm a1)), mapAt_congr hH.pinned (Below.heap_setCell _ _ _ _ (by simpa using Ne.symm a2)), ownsRow_congr' hH.ord (fun g hg => by cases hg), hH.ne⟩
      rw [heap_setCell_row hH.row]
      simp [crow]
  · subst e
    have hsz : cur.size = cap := by omega
    have h4' : cur.toList.take C.ord.length = C.ord.map (Value.int .i64) := by simpa using h4
    have hcap : (cap : Int) ≤ 9223372036854775807 := by unfold maxLen at h2; omega
    obtain ⟨g1, g2, g3⟩ := a4 g rfl
    have st : DropAt_pin w w cb d wb hm pm g cap C.ord.length (.slice (some ⟨g, 0, none⟩) C.ord.length cap) C 0 0 cur := by
      refine ⟨h0.row, ?_, h0.pinned, hh, hsz, ?_, fun t x _ hx => ?_, Only.refl _ _⟩
      · rw [List.take_zero, runD_nil, cutF_nil]; exact h0.held
      · rw [List.take_zero, runD_nil]; rfl
      · have hlt := (List.getElem?_eq_some_iff.1 hx).1
        have := congrArg (·[t]?) h4'
        simp only [List.getElem?_take_of_lt hlt, List.getElem?_map, hx, Option.map_some] at this
        rw [← this, Array.getElem?_toList]
    have ST := Lib.hid st
    have f6 := fz 6
    clear h h0 fz st hh h4 h4' 
    go_enter Try.func51, Try.ntmps51
    go_wp2
    go_loopw [17, 4] (fun j c wr => ∃ (i : Nat) (cur : Array Value), i ≤ C.ord.length ∧ j = .int .i64 i ∧ c = .slice (some ⟨g, 0, none⟩) (runD false C.pin (C.ord.take i) 0).1.length cap ∧ DropAt_pin w wr cb d wb hm pm g cap C.ord.length (.slice (some ⟨g, 0, none⟩) C.ord.length cap) C 0 i cur) (fun j _ _ => C.ord.length - (RowKit.intOf j).toNat)
    case atStart => exact ⟨0, cur, by omega, rfl, by rw [List.take_zero, runD_nil]; rfl, ST.out⟩
    case round =>
      clear ST hsz
      obtain ⟨i, cur, hi, rfl, rfl, hD⟩ := hrel
      have hkl := runD_len false C.pin 0 (C.ord.take i)
      have hsub := runD_sub false C.pin 0 (C.ord.take i)
      rw [List.length_take, Nat.min_eq_left hi] at hkl
      have ltg := (Array.getElem?_eq_some_iff.1 hD.blk).1
      have ltc := (Array.getElem?_eq_some_iff.1 hD.row).1
      have lth := mapAt_lt hD.held
      have ltp := mapAt_lt hD.pinned
      by_cases hil : i < C.ord.length
      · obtain ⟨x, hx⟩ : ∃ x, C.ord[i]? = some x := ⟨_, List.getElem?_eq_getElem hil⟩
        have htk : C.ord.take (i + 1) = C.ord.take i ++ [x] := by rw [List.take_add_one, hx]; rfl
        have hxn : x ∉ C.ord.take i := by
          have := hnd
          rw [← List.take_append_drop (i + 1) C.ord, htk] at this
          have h1 := (List.nodup_append.1 this).1
          exact fun hm => (List.nodup_append.1 h1).2.2 x hm x (by simp) rfl
        have cx : wr.cell? ⟨g, i, none⟩ = some (.int .i64 x) := by rw [cell_of_row _ _ _ _ _ _ hD.blk]; exact hD.rest i x (Nat.le_refl _) hx
        have c7 : wr.cell? ⟨cb, 7, none⟩ = some (.map (some pm)) := by rw [cell_of_row _ _ _ _ _ _ hD.row]; rfl
        have PI := Lib.hid (isPinned_raw c7 hD.pinned x)
        have HD := Lib.hid hD
        clear hD c7 c5 c6
        go_wp2_with fail
        refine PI.out.mono ?_
        rintro e w1 ⟨rfl, rfl⟩
        have o1 : Only [] wr (wr.alloc (.cells #[] 82)) := (Only.refl [] wr).alloc _
        generalize wr.alloc (.cells #[] 82) = w1 at *
        have r1 : w1.heap[cb]? = some (.cells (crow d wb C hm pm (.slice (some ⟨g, 0, none⟩) C.ord.length cap)) 74 (0, 0)) := (o1.block cb ltc (by simp)).trans HD.out.row
        have m1 := mapAt_congr HD.out.held (o1.block hm lth (by simp))
        have p1 := mapAt_congr HD.out.pinned (o1.block pm ltp (by simp))
        have b1 : w1.heap[g]? = some (.cells cur 3 (0, 0)) := (o1.block g ltg (by simp)).trans HD.out.blk
        skip
        have O1 := HD.out.only.trans o1 (fun y hy => .inl (List.mem_append_left _ hy))
        have c51 : w1.cell? ⟨cb, 5, none⟩ = some (.map (some hm)) := by rw [cell_of_row _ _ _ _ _ _ r1]; rfl
        have hrs : runD false C.pin (C.ord.take (i + 1)) 0 = stepD false C.pin (runD false C.pin (C.ord.take i) 0) x := by rw [htk, runD_snoc]
        by_cases hpk : decide (x ∈ C.pin) = true
        · have M1 := Lib.hid m1
          have hst : runD false C.pin (C.ord.take (i + 1)) 0 = ((runD false C.pin (C.ord.take i) 0).1, (runD false C.pin (C.ord.take i) 0).2 - 1) := by rw [hrs, stepD, if_pos (by simpa [pickD] using hpk)]
          have R1 := Lib.hid r1
          have P1 := Lib.hid p1
          have B1 := Lib.hid b1
          have OO := Lib.hid O1
          skip
          have HST := Lib.hid hst
          have HTK := Lib.hid htk
          clear r1 m1 p1 b1 O1 o1 hst hrs htk cx
          rw [hpk]
          go_wp2_with (refine wpL_delG Try.underlying71 rfl rfl rfl rfl M1.out ?_; intro ob hob)
          go_roundw
          case rel =>
            refine ⟨i + 1, cur, by omega, by go_num, by rw [HST.out], ?_⟩
            have hn1 : ∀ y, y ≠ hm → (setBlock w1 hm ob).heap[y]? = w1.heap[y]? := fun y hy => heap_setBlock_ne w1 hm ob hy
            refine ⟨(hn1 cb a1).trans R1.out, ?_, mapAt_congr P1.out (hn1 pm (Ne.symm a3)), (hn1 g g2).trans B1.out, HD.out.size, by rw [HST.out]; exact HD.out.kept, fun t y ht hy => HD.out.rest t y (by omega) hy, OO.out.setBlock (.inl (by simp [cfoot])) _⟩
            rw [HST.out, HTK.out, ← cutF_pick hxn (fun y hy => hsub.subset hy)]
            exact hob
          case measure => simp [RowKit.intOf]; omega
        · have hst : runD false C.pin (C.ord.take (i + 1)) 0 = ((runD false C.pin (C.ord.take i) 0).1 ++ [x], (runD false C.pin (C.ord.take i) 0).2) := by rw [hrs, stepD, if_neg (by simpa [pickD] using hpk)]
          have hpf : decide (x ∈ C.pin) = false := by simpa using hpk
          have RUN := Lib.hid (run_append_in (x := x) b1 HD.out.size (n := (runD false C.pin (C.ord.take i) 0).1.length) (by omega) 40)
          have R1 := Lib.hid r1
          have M1 := Lib.hid m1
          have P1 := Lib.hid p1
          have B1 := Lib.hid b1
          have OO := Lib.hid O1
          skip
          have HST := Lib.hid hst
          have HTK := Lib.hid htk
          have hsz1 := o1.size
          clear r1 m1 p1 b1 O1 o1 hst hrs htk cx
          rw [hpf]
          go_wp2_with (refine wpL_value rfl (run_builtin_append rfl rfl rfl RUN.out) ?_)
          go_roundw
          case rel =>
            refine ⟨i + 1, (cur.toList.take (runD false C.pin (C.ord.take i) 0).1.length ++ Value.int .i64 x :: cur.toList.drop ((runD false C.pin (C.ord.take i) 0).1.length + 1)).toArray, by omega, by go_num, by rw [HST.out]; simp, ?_⟩
            have hal : ∀ y, y < wr.heap.size → y ≠ g → ∀ cs, (((w1.alloc (.cells #[.int .i64 x] 3)).setRow g cs).heap[y]?) = w1.heap[y]? := fun y hy hyg cs => by
              rw [heap_setRow_ne _ _ _ hyg, Below.heap_alloc _ _ _ (by omega)]
            have hb2 : (w1.alloc (.cells #[.int .i64 x] 3)).heap[g]? = some (.cells cur 3 (0, 0)) := by rw [Below.heap_alloc _ _ _ (by omega)]; exact B1.out
            have hsz2 := HD.out.size
            refine ⟨(hal cb ltc (Ne.symm g1) _).trans R1.out, ?_, mapAt_congr P1.out (hal pm ltp (Ne.symm g3) _), heap_setRow_same hb2, ?_, ?_, fun t y ht hy => ?_, (OO.out.alloc _).setRow (.inl (by simp [cfoot, Value.ownBlock])) _⟩
            · rw [HST.out, HTK.out, ← cutF_keep hxn]
              exact mapAt_congr M1.out (hal hm lth (Ne.symm g2) _)
            · simp; omega
            · rw [HST.out]
              simp only [List.toList_toArray, List.length_append, List.length_singleton, List.map_append, List.map_cons, List.map_nil]
              rw [List.append_cons, List.take_append_of_le_length (by simp; omega), List.take_of_length_le (by simp; omega), HD.out.kept]
            · have hty := HD.out.rest t y (by omega) hy
              rw [← Array.getElem?_toList] at hty
              simp only [List.getElem?_toArray]
              rw [List.append_cons, List.getElem?_append_right (by simp; omega), List.getElem?_drop]
              rw [← hty]
              congr 1
              simp
              omega
          case measure => simp [RowKit.intOf]; omega
      · have hiL : i = C.ord.length := by omega
        subst hiL
        have c6' : wr.cell? ⟨cb, 6, none⟩ = some (.slice (some ⟨g, 0, none⟩) C.ord.length cap) := by rw [cell_of_row _ _ _ _ _ _ hD.row]; rfl
        have f6' : wr.frozen? ⟨cb, 6, none⟩ = false := by simp [World.frozen?, hD.row]
        have HD := Lib.hid hD
        clear hD c6 f6
        go_wp2
        go_end0
        have hH := HD.out
        have hhel := hH.held
        have hkept := hH.kept
        rw [List.take_length] at hhel hkept hkl hsub
        refine ⟨rfl, .slice (some ⟨g, 0, none⟩) (runD false C.pin C.ord 0).1.length cap, rfl, ?_, hH.only.setCell (p := ⟨cb, 6, none⟩) (.inl (by simp [cfoot])) _⟩
        refine ⟨?_, mapAt_congr hhel (Below.heap_setCell _ _ _ _ (by simpa using Ne.symm a1)), mapAt_congr hH.pinned (Below.heap_setCell _ _ _ _ (by simpa using Ne.symm a2)), ⟨by simp, .inr ⟨g, cap, cur, rfl, Nat.zero_le _, (Below.heap_setCell _ _ _ _ (by simpa using g1)).trans hH.blk, by simp only; omega, h2, by have := hH.size; omega, by simpa using hkept⟩⟩, a3⟩
        rw [heap_setCell_row hH.row]
        simp [crow]

set_option maxHeartbeats 4000000 in
theorem drop_ev {w : World} {cb d wb hm pm eb xb : Nat} {ov : Value} {C : CaS} {ex : Int} (h : CIs w cb d wb hm pm ov C) (hnd : C.ord.Nodup) (hlen : C.ord.length ≤ 8192) (he : w.heap[eb]? = some (.cells #[.int .i64 ex] 3 (0, 0))) (hx : w.heap[xb]? = some (.cells #[pp cb] 26 (0, 0))) (hebF : eb ∉ cfoot cb hm pm ov) (hxbF : xb ∉ cfoot cb hm pm ov) (hex : eb ≠ xb) (h0x : 0 ≤ ex) (h1x : ex ≤ 1000000) :
    Calls Try.prog 51 #[pp cb, .func (.func 69) #[] #[pp eb, pp xb]] w fun e w' => DropPost cb d wb hm pm ov C true ex [eb] w e w' := by
  obtain ⟨c0, c1, c2, c3, c4, c5, c6, c7, fz⟩ := h.cells
  obtain ⟨a1, a2, a3, a4⟩ := h.apart
  show Calls Try.prog 51 #[.pointer (some ⟨cb, 0, none⟩), .func (.func 69) #[] #[pp eb, pp xb]] w _
  have h0 := h
  rcases h.ord.2 with ⟨e, hn⟩ | ⟨g, cap, cur, e, _, hh, h1, h2, h3, h4⟩
  · have hnil : C.ord = [] := List.eq_nil_of_length_eq_zero hn
    subst e
    have H0 := Lib.hid h0
    have f6 := fz 6
    clear h h0 fz
    go_enter Try.func51, Try.ntmps51
    go_wp2
    go_loopw [17, 4] (fun j c wr => j = .int .i64 0 ∧ c = .slice none 0 0 ∧ wr = w) (fun _ _ _ => 0)
    case atStart => exact ⟨rfl, rfl, rfl⟩
    case round =>
      obtain ⟨rfl, rfl, rfl⟩ := hrel
      have hl0 : ¬ ((0 : Int) < (C.ord.length : Int)) := by omega
      go_wp2
      go_end0
      have hr0 : (runD true C.pin C.ord ex).1 = C.ord := by rw [hnil]; rfl
      have hc0 : cutF C.held C.ord C.ord = C.held := by funext k; simp [cutF]
      refine ⟨rfl, .slice none 0 0, rfl, ?_, (Only.refl _ _).setCell (p := ⟨cb, 6, none⟩) (.inl (by simp [cfoot])) _⟩
      rw [hr0, hc0]
      have hH := H0.out
      refine ⟨?_, mapAt_congr hH.held (Below.heap_setCell _ _ _ _ (by simpa using Ne.symm a1)), mapAt_congr hH.pinned (Below.heap_setCell _ _ _ _ (by simpa using Ne.symm a2)), ownsRow_congr' hH.ord (fun g hg => by cases hg), hH.ne⟩
      rw [heap_setCell_row hH.row]
      simp [crow]
  · subst e
    have hsz : cur.size = cap := by omega
    have h4' : cur.toList.take C.ord.length = C.ord.map (Value.int .i64) := by simpa using h4
    have hcap : (cap : Int) ≤ 9223372036854775807 := by unfold maxLen at h2; omega
    obtain ⟨g1, g2, g3⟩ := a4 g rfl
    have st : DropAt_ev w w cb d wb hm pm g cap C.ord.length (.slice (some ⟨g, 0, none⟩) C.ord.length cap) C ex eb xb 0 cur := by
      refine ⟨h0.row, ?_, h0.pinned, hh, hsz, ?_, fun t x _ hx => ?_, by rw [List.take_zero, runD_nil]; exact he, hx, Only.refl _ _⟩
      · rw [List.take_zero, runD_nil, cutF_nil]; exact h0.held
      · rw [List.take_zero, runD_nil]; rfl
      · have hlt := (List.getElem?_eq_some_iff.1 hx).1
        have := congrArg (·[t]?) h4'
        simp only [List.getElem?_take_of_lt hlt, List.getElem?_map, hx, Option.map_some] at this
        rw [← this, Array.getElem?_toList]
    have ST := Lib.hid st
    have f6 := fz 6
    clear h h0 fz st hh h4 h4' he hx
    go_enter Try.func51, Try.ntmps51
    go_wp2
    go_loopw [17, 4] (fun j c wr => ∃ (i : Nat) (cur : Array Value), i ≤ C.ord.length ∧ j = .int .i64 i ∧ c = .slice (some ⟨g, 0, none⟩) (runD true C.pin (C.ord.take i) ex).1.length cap ∧ DropAt_ev w wr cb d wb hm pm g cap C.ord.length (.slice (some ⟨g, 0, none⟩) C.ord.length cap) C ex eb xb i cur) (fun j _ _ => C.ord.length - (RowKit.intOf j).toNat)
    case atStart => exact ⟨0, cur, by omega, rfl, by rw [List.take_zero, runD_nil]; rfl, ST.out⟩
    case round =>
      clear ST hsz
      obtain ⟨i, cur, hi, rfl, rfl, hD⟩ := hrel
      have hkl := runD_len true C.pin ex (C.ord.take i)
      have hsub := runD_sub true C.pin ex (C.ord.take i)
      rw [List.length_take, Nat.min_eq_left hi] at hkl
      have ltg := (Array.getElem?_eq_some_iff.1 hD.blk).1
      have ltc := (Array.getElem?_eq_some_iff.1 hD.row).1
      have lth := mapAt_lt hD.held
      have ltp := mapAt_lt hD.pinned
      by_cases hil : i < C.ord.length
      · obtain ⟨x, hx⟩ : ∃ x, C.ord[i]? = some x := ⟨_, List.getElem?_eq_getElem hil⟩
        have htk : C.ord.take (i + 1) = C.ord.take i ++ [x] := by rw [List.take_add_one, hx]; rfl
        have hxn : x ∉ C.ord.take i := by
          have := hnd
          rw [← List.take_append_drop (i + 1) C.ord, htk] at this
          have h1 := (List.nodup_append.1 this).1
          exact fun hm => (List.nodup_append.1 h1).2.2 x hm x (by simp) rfl
        have cx : wr.cell? ⟨g, i, none⟩ = some (.int .i64 x) := by rw [cell_of_row _ _ _ _ _ _ hD.blk]; exact hD.rest i x (Nat.le_refl _) hx
        have c7 : wr.cell? ⟨cb, 7, none⟩ = some (.map (some pm)) := by rw [cell_of_row _ _ _ _ _ _ hD.row]; rfl
        have ltx := (Array.getElem?_eq_some_iff.1 hD.xblk).1
        have lte := (Array.getElem?_eq_some_iff.1 hD.eblk).1
        have hexi := runD_ex C.pin h0x (C.ord.take i)
        have EV := Lib.hid (evict1_raw c7 hD.pinned hD.xblk hD.eblk hexi.1 (by omega) x)
        have HD := Lib.hid hD
        clear hD c7 c5 c6
        go_wp2_with fail
        refine EV.out.mono ?_
        rintro e w1 ⟨rfl, he1, o1⟩
        have r1 : w1.heap[cb]? = some (.cells (crow d wb C hm pm (.slice (some ⟨g, 0, none⟩) C.ord.length cap)) 74 (0, 0)) := (o1.block cb ltc (by simp [cfoot] at hebF ⊢; omega)).trans HD.out.row
        have m1 := mapAt_congr HD.out.held (o1.block hm lth (by simp [cfoot] at hebF ⊢; omega))
        have p1 := mapAt_congr HD.out.pinned (o1.block pm ltp (by simp [cfoot] at hebF ⊢; omega))
        have b1 : w1.heap[g]? = some (.cells cur 3 (0, 0)) := (o1.block g ltg (by simp [cfoot, Value.ownBlock] at hebF ⊢; omega)).trans HD.out.blk
        have x1 : w1.heap[xb]? = some (.cells #[pp cb] 26 (0, 0)) := (o1.block xb ltx (by simpa using Ne.symm hex)).trans HD.out.xblk
        have O1 := HD.out.only.trans o1 (fun y hy => .inl (List.mem_append_left _ hy))
        have c51 : w1.cell? ⟨cb, 5, none⟩ = some (.map (some hm)) := by rw [cell_of_row _ _ _ _ _ _ r1]; rfl
        have hrs : runD true C.pin (C.ord.take (i + 1)) ex = stepD true C.pin (runD true C.pin (C.ord.take i) ex) x := by rw [htk, runD_snoc]
        by_cases hpk : evPick (runD true C.pin (C.ord.take i) ex).2 C.pin x = true
        · have M1 := Lib.hid m1
          have hst : runD true C.pin (C.ord.take (i + 1)) ex = ((runD true C.pin (C.ord.take i) ex).1, (runD true C.pin (C.ord.take i) ex).2 - 1) := by rw [hrs, stepD, if_pos (by simpa [pickD] using hpk)]
          have R1 := Lib.hid r1
          have P1 := Lib.hid p1
          have B1 := Lib.hid b1
          have OO := Lib.hid O1
          have X1 := Lib.hid x1
          have E1 := Lib.hid he1
          have HST := Lib.hid hst
          have HTK := Lib.hid htk
          clear r1 m1 p1 b1 O1 o1 hst hrs htk cx
          rw [hpk]
          go_wp2_with (refine wpL_delG Try.underlying71 rfl rfl rfl rfl M1.out ?_; intro ob hob)
          go_roundw
          case rel =>
            refine ⟨i + 1, cur, by omega, by go_num, by rw [HST.out], ?_⟩
            have hn1 : ∀ y, y ≠ hm → (setBlock w1 hm ob).heap[y]? = w1.heap[y]? := fun y hy => heap_setBlock_ne w1 hm ob hy
            refine ⟨(hn1 cb a1).trans R1.out, ?_, mapAt_congr P1.out (hn1 pm (Ne.symm a3)), (hn1 g g2).trans B1.out, HD.out.size, by rw [HST.out]; exact HD.out.kept, fun t y ht hy => HD.out.rest t y (by omega) hy, by rw [HST.out]; exact (hn1 eb (by simp [cfoot] at hebF; omega)).trans (by have := E1.out; rw [if_pos hpk] at this; exact this), (hn1 xb (by simp [cfoot] at hxbF; omega)).trans X1.out, OO.out.setBlock (.inl (by simp [cfoot])) _⟩
            rw [HST.out, HTK.out, ← cutF_pick hxn (fun y hy => hsub.subset hy)]
            exact hob
          case measure => simp [RowKit.intOf]; omega
        · have hst : runD true C.pin (C.ord.take (i + 1)) ex = ((runD true C.pin (C.ord.take i) ex).1 ++ [x], (runD true C.pin (C.ord.take i) ex).2) := by rw [hrs, stepD, if_neg (by simpa [pickD] using hpk)]
          have hpf : evPick (runD true C.pin (C.ord.take i) ex).2 C.pin x = false := by simpa using hpk
          have RUN := Lib.hid (run_append_in (x := x) b1 HD.out.size (n := (runD true C.pin (C.ord.take i) ex).1.length) (by omega) 40)
          have R1 := Lib.hid r1
          have M1 := Lib.hid m1
          have P1 := Lib.hid p1
          have B1 := Lib.hid b1
          have OO := Lib.hid O1
          have X1 := Lib.hid x1
          have E1 := Lib.hid he1
          have HST := Lib.hid hst
          have HTK := Lib.hid htk
          have hsz1 := o1.size
          clear r1 m1 p1 b1 O1 o1 hst hrs htk cx
          rw [hpf]
          go_wp2_with (refine wpL_value rfl (run_builtin_append rfl rfl rfl RUN.out) ?_)
          go_roundw
          case rel =>
            refine ⟨i + 1, (cur.toList.take (runD true C.pin (C.ord.take i) ex).1.length ++ Value.int .i64 x :: cur.toList.drop ((runD true C.pin (C.ord.take i) ex).1.length + 1)).toArray, by omega, by go_num, by rw [HST.out]; simp, ?_⟩
            have hal : ∀ y, y < wr.heap.size → y ≠ g → ∀ cs, (((w1.alloc (.cells #[.int .i64 x] 3)).setRow g cs).heap[y]?) = w1.heap[y]? := fun y hy hyg cs => by
              rw [heap_setRow_ne _ _ _ hyg, Below.heap_alloc _ _ _ (by omega)]
            have hb2 : (w1.alloc (.cells #[.int .i64 x] 3)).heap[g]? = some (.cells cur 3 (0, 0)) := by rw [Below.heap_alloc _ _ _ (by omega)]; exact B1.out
            have hsz2 := HD.out.size
            refine ⟨(hal cb ltc (Ne.symm g1) _).trans R1.out, ?_, mapAt_congr P1.out (hal pm ltp (Ne.symm g3) _), heap_setRow_same hb2, ?_, ?_, fun t y ht hy => ?_, by rw [HST.out]; exact (hal eb lte (by simp [cfoot, Value.ownBlock] at hebF; omega) _).trans (by have := E1.out; rw [if_neg hpk] at this; exact this), (hal xb ltx (by simp [cfoot, Value.ownBlock] at hxbF; omega) _).trans X1.out, (OO.out.alloc _).setRow (.inl (by simp [cfoot, Value.ownBlock])) _⟩
            · rw [HST.out, HTK.out, ← cutF_keep hxn]
              exact mapAt_congr M1.out (hal hm lth (Ne.symm g2) _)
            · simp; omega
            · rw [HST.out]
              simp only [List.toList_toArray, List.length_append, List.length_singleton, List.map_append, List.map_cons, List.map_nil]
              rw [List.append_cons, List.take_append_of_le_length (by simp; omega), List.take_of_length_le (by simp; omega), HD.out.kept]
            · have hty := HD.out.rest t y (by omega) hy
              rw [← Array.getElem?_toList] at hty
              simp only [List.getElem?_toArray]
              rw [List.append_cons, List.getElem?_append_right (by simp; omega), List.getElem?_drop]
              rw [← hty]
              congr 1
              simp
              omega
          case measure => simp [RowKit.intOf]; omega
      · have hiL : i = C.ord.length := by omega
        subst hiL
        have c6' : wr.cell? ⟨cb, 6, none⟩ = some (.slice (some ⟨g, 0, none⟩) C.ord.length cap) := by rw [cell_of_row _ _ _ _ _ _ hD.row]; rfl
        have f6' : wr.frozen? ⟨cb, 6, none⟩ = false := by simp [World.frozen?, hD.row]
        have HD := Lib.hid hD
        clear hD c6 f6
        go_wp2
        go_end0
        have hH := HD.out
        have hhel := hH.held
        have hkept := hH.kept
        rw [List.take_length] at hhel hkept hkl hsub
        refine ⟨rfl, .slice (some ⟨g, 0, none⟩) (runD true C.pin C.ord ex).1.length cap, rfl, ?_, hH.only.setCell (p := ⟨cb, 6, none⟩) (.inl (by simp [cfoot])) _⟩
        refine ⟨?_, mapAt_congr hhel (Below.heap_setCell _ _ _ _ (by simpa using Ne.symm a1)), mapAt_congr hH.pinned (Below.heap_setCell _ _ _ _ (by simpa using Ne.symm a2)), ⟨by simp, .inr ⟨g, cap, cur, rfl, Nat.zero_le _, (Below.heap_setCell _ _ _ _ (by simpa using g1)).trans hH.blk, by simp only; omega, h2, by have := hH.size; omega, by simpa using hkept⟩⟩, a3⟩
        rw [heap_setCell_row hH.row]
        simp [crow]
end Go.Proofs.Ytoccnaebckcfmaa
