/- AddressPhrases' walk. -/
import Derived.Test.YtgdcdknmijeioaaDoorQ3
import Derived.Test.YtgdcdknmijeioaaDoorL6a
set_option linter.unusedSimpArgs false
set_option linter.unusedVariables false
namespace Go.Proofs.YtgdcdknmijeioaaDoor
open Go.RowKit Go.Shelf

def tx2 (ws : List (List UInt8 × Nat)) : ByteArray := ⟨(Lib.join (ws.map wItem) [32]).toArray⟩
def nm2 (ws : List (List UInt8 × Nat)) : ByteArray := ⟨(Lib.join (ws.map Prod.fst) [32]).toArray⟩
theorem nm2_snoc (ws : List (List UInt8 × Nat)) (u : List UInt8) (m : Nat) : nm2 (ws ++ [(u, m)]) = if ws.length = 0 then ⟨u.toArray⟩ else nm2 ws ++ ⟨#[32]⟩ ++ ⟨u.toArray⟩ := by
  unfold nm2
  rw [List.map_append, List.map_cons, List.map_nil, join_snoc]
  cases ws with
  | nil => rfl
  | cons q r =>
    rw [if_neg (by simp), if_neg (by simp)]
    rw [show (⟨#[32]⟩ : ByteArray) = ⟨[32].toArray⟩ from rfl, str_app, str_app]
theorem tx2_snoc (ws : List (List UInt8 × Nat)) (u : List UInt8) : tx2 (ws ++ [(u, 0)]) = if ws.length = 0 then ⟨u.toArray⟩ else tx2 ws ++ ⟨#[32]⟩ ++ ⟨u.toArray⟩ := by
  unfold tx2
  rw [List.map_append, List.map_cons, List.map_nil, join_snoc]
  have e : wItem (u, 0) = u := by simp [wItem]
  rw [e]
  cases ws with
  | nil => rfl
  | cons q r =>
    rw [if_neg (by simp), if_neg (by simp)]
    rw [show (⟨#[32]⟩ : ByteArray) = ⟨[32].toArray⟩ from rfl, str_app, str_app]
theorem tx2_tab (ws : List (List UInt8 × Nat)) (u : List UInt8) (m : Nat) : tx2 (ws ++ [(u, m + 1)]) = tx2 (ws ++ [(u, m)]) ++ ⟨#[9]⟩ := by
  unfold tx2
  rw [List.map_append, List.map_cons, List.map_nil, join_snoc, List.map_append, List.map_cons, List.map_nil, join_snoc]
  have e : wItem (u, m + 1) = wItem (u, m) ++ [9] := by simp [wItem, List.replicate_succ']
  rw [e, show (⟨#[9]⟩ : ByteArray) = ⟨[9].toArray⟩ from rfl, str_app]
  split <;> simp
theorem good_len {p : List UInt8 × Nat} (h : wGood p) : (wItem p).length ≤ 25 := by
  obtain ⟨_, _, h1, h2⟩ := h
  unfold wItem
  simp
  omega
theorem join_le {α : Type} (f : α → List UInt8) (sep : List UInt8) (N : Nat) (ws : List α) (h : ∀ p ∈ ws, (f p).length ≤ N) : (Lib.join (ws.map f) sep).length ≤ ws.length * (N + sep.length) := by
  cases ws with
  | nil => simp [Lib.join, List.intercalate]
  | cons p t =>
    have h2 : ∀ r : List α, (∀ q ∈ r, (f q).length ≤ N) → (Lib.joinTail sep (r.map f)).length ≤ r.length * (N + sep.length) := by
      intro r hr
      induction r with
      | nil => simp [Lib.joinTail]
      | cons q r ih =>
        have h3 := hr q (List.mem_cons_self ..)
        have h4 := ih (fun x hx => hr x (List.mem_cons_of_mem _ hx))
        have e : Lib.joinTail sep ((q :: r).map f) = sep ++ f q ++ Lib.joinTail sep (r.map f) := by simp [Lib.joinTail]
        rw [e, List.length_append, List.length_append, List.length_cons, Nat.succ_mul]
        omega
    have h3 := h2 t (fun q hq => h q (List.mem_cons_of_mem _ hq))
    have h1 := h p (List.mem_cons_self ..)
    rw [List.map_cons, Lib.join_cons, List.length_append, List.length_cons, Nat.succ_mul]
    omega
/-- The loop over the words. -/
def WR (w wr : World) (ws : List (List UInt8 × Nat)) (n : Nat) : Prop := ws.length ≤ n ∧ (∀ p ∈ ws, wGood p) ∧ Below w.heap.size w wr ∧ Max wr
def UR (w wr : World) (u : List UInt8) : Prop := (∀ c ∈ u, wbB c = true) ∧ Below w.heap.size w wr ∧ Max wr
theorem low_wb {c : UInt8} (h : 97 ≤ (c.toNat : Int) ∧ (c.toNat : Int) ≤ 122) : wbB c = true := by
  have h1 : ldB c = true := by
    unfold ldB
    simp
    omega
  unfold wbB abB
  rw [h1]
  rfl
theorem nm2_empty (ws : List (List UInt8 × Nat)) (h : ∀ p ∈ ws, wGood p) (h0 : ws.length ≠ 0) : (nm2 ws).toList.isEmpty = false := by
  rw [Lib.toList_data]
  unfold nm2
  simp only [str_data]
  cases ws with
  | nil => simp at h0
  | cons p t =>
    obtain ⟨c, r, hc, _⟩ := good_head (h p (List.mem_cons_self ..))
    rw [List.map_cons, Lib.join_cons, hc]
    rfl
theorem bs_one (w : World) (c : UInt8) : (convert 38 9 (.slice (some ⟨w.heap.size, 0, none⟩) 1 1)).run Tryd.prog (w.alloc (.cells #[.int .u8 c.toNat] 5)) = .ok (.string ⟨#[c]⟩) (w.alloc (.cells #[.int .u8 c.toNat] 5)) := by
  refine bs_string' (l := [c]) 1 ?_ rfl
  intro j x hj
  refine ⟨w.heap.size, 0, rfl, by simp, ?_⟩
  rw [cell_of_row _ _ _ _ _ _ (heap_alloc_new w _)]
  cases j with
  | zero => simp at hj; subst hj; rfl
  | succ j => simp at hj
set_option maxHeartbeats 8000000 in
set_option maxRecDepth 100000 in
theorem phrases_law (a0 : Option Addr) (n0 c0 : Nat) (a1 : Option Addr) (n1 c1 : Nat) (es : List ByteArray) (hes : es.length = n0) (hn0 : n0 ≤ 9223372036854775807) (bl : List Int) (hbl : bl.length = n1) (hn1 : n1 ≤ 9223372036854775807) (w : World) (hE : WsAt w a0 es) (hB : NsAt w a1 bl) (hM : Max w) :
    Calls Tryd.prog 6 #[.slice a0 n0 c0, .slice a1 n1 c1] w fun e w' => e = .returned (.bool true) ∧ Below w.heap.size w w' := by
  subst hes hbl
  have k0 := fun w hM => shown_any w hM
  have HEL := Lib.hid hE
  have HBL := Lib.hid hB
  clear hE hB
  go_enter Tryd.func6, Tryd.ntmps6
  go_wp2_with fail
  refine (k0 _ hM).mono ?_; rintro e w1 ⟨rfl, b1⟩
  have HW0 : Hid (WR w w1 [] 0) := Lib.hid ⟨by simp, by simp, b1, hM.below b1⟩
  clear b1 hM k0
  go_wp2_with fail
  go_loopw [6, 7, 8] (fun tv nv iv wr => ∃ (n : Nat) (ws : List (List UInt8 × Nat)), tv = .string (tx2 ws) ∧ nv = .string (nm2 ws) ∧ iv = .int .i64 n ∧ n ≤ es.length ∧ n ≤ 9 ∧ Hid (WR w wr ws n)) (fun tv nv iv wr => 9 - (intOf iv).toNat)
  case atStart => exact ⟨0, [], rfl, rfl, rfl, Nat.zero_le _, by omega, HW0⟩
  case round =>
    obtain ⟨n, ws, rfl, rfl, rfl, hn, hn9, HW⟩ := hrel
    rename World => wA
    clear HW0
    have hwl := HW.out.1
    by_cases hlt : n < es.length
    · by_cases h9 : n < 9
      · have g0 : (n : Int) < (es.length : Int) := by omega
        have g1 : (n : Int) < 9 := by omega
        obtain ⟨b, off, rfl, hbl, e0, hez⟩ := HEL.out n es[n] (List.getElem?_eq_getElem hlt)
        have HEZ := Lib.hid (And.intro hbl e0)
        have BW := HW.out.2.2.1
        have x0 := (BW.cell (p := ⟨b, off + n, none⟩) hbl).trans e0
        have HU0 : Hid (UR w wA []) := Lib.hid ⟨by simp, BW, HW.out.2.2.2⟩
        have HG := Lib.hid HW.out.2.1
        clear e0 HW BW
        generalize es[n] = en at *
        go_wp2_with fail
        go_loopw [9, 10] (fun uv kv wr => ∃ (k : Nat) (u : List UInt8), uv = .string ⟨u.toArray⟩ ∧ kv = .int .i64 k ∧ k ≤ en.size ∧ k ≤ 20 ∧ u.length ≤ k ∧ Hid (UR w wr u)) (fun uv kv wr => 20 - (intOf kv).toNat)
        case atStart => exact ⟨0, [], rfl, rfl, Nat.zero_le _, by omega, by simp, HU0⟩
        case round =>
          obtain ⟨k, u, rfl, rfl, hk, hk20, hul, HU⟩ := hrel
          rename World => wB
          clear HU0 x0
          have BW := HU.out.2.1
          have x0 := (BW.cell (p := ⟨b, off + n, none⟩) hbl).trans HEZ.out.2
          by_cases hke : k < en.size
          · by_cases h20 : k < 20
            · have f0 : (k : Int) < (en.size : Int) := by omega
              have f1 : (k : Int) < 20 := by omega
              have hkl : k < en.data.toList.length := by rw [← Lib.size_eq]; exact hke
              have hx : en[k]'hke = en.data.toList[k]'hkl := rfl
              have hcb := (en.data.toList[k]'hkl).toNat_lt
              generalize en.data.toList[k]'hkl = c at *
              have hzu : (⟨u.toArray⟩ : ByteArray).size ≤ 20 := by show u.toArray.size ≤ _; rw [List.size_toArray]; omega
              by_cases hlow : 97 ≤ (c.toNat : Int) ∧ (c.toNat : Int) ≤ 122
              · obtain ⟨l1, l2⟩ := hlow
                have hwb := low_wb ⟨l1, l2⟩
                have hs1 := bs_one wB c
                have hap : (⟨u.toArray⟩ : ByteArray) ++ ⟨#[c]⟩ = ⟨(u ++ [c]).toArray⟩ := str_app u [c]
                have b3 : Below wB.heap.size wB (wB.alloc (.cells #[.int .u8 c.toNat] 5)) := (Below.refl _ _).alloc (Nat.le_refl _) _
                have HU3 : Hid (UR w (wB.alloc (.cells #[.int .u8 c.toNat] 5)) (u ++ [c])) := Lib.hid ⟨by
                  intro x hx
                  rcases List.mem_append.1 hx with h | h
                  · exact HU.out.1 x h
                  · simp at h; subst h; exact hwb, BW.trans (b3.mono BW.size), HU.out.2.2.below b3⟩
                have HAP := Lib.hid hap
                clear BW HU b3 hwb hap
                go_wp2_with fail
                exact ⟨⟨k + 1, u ++ [c], by rw [← HAP.out], by go_num, by omega, by omega, by simp; omega, HU3⟩, by simp [intOf]; omega⟩
              · by_cases hdot : c = 46
                · have hwb : wbB c = true := by rw [hdot]; decide +kernel
                  have f2 := beq_yes (show (c.toNat : Int) = 46 by rw [hdot]; rfl)
                  have l1 : ¬ 97 ≤ (c.toNat : Int) := by rw [hdot]; decide
                  clear hdot hlow
                  have hs1 := bs_one wB c
                  have hap : (⟨u.toArray⟩ : ByteArray) ++ ⟨#[c]⟩ = ⟨(u ++ [c]).toArray⟩ := str_app u [c]
                  have b3 : Below wB.heap.size wB (wB.alloc (.cells #[.int .u8 c.toNat] 5)) := (Below.refl _ _).alloc (Nat.le_refl _) _
                  have HU3 : Hid (UR w (wB.alloc (.cells #[.int .u8 c.toNat] 5)) (u ++ [c])) := Lib.hid ⟨by
                    intro x hx
                    rcases List.mem_append.1 hx with h | h
                    · exact HU.out.1 x h
                    · simp at h; subst h; exact hwb, BW.trans (b3.mono BW.size), HU.out.2.2.below b3⟩
                  have HAP := Lib.hid hap
                  clear BW HU b3 hwb hap
                  go_wp2_with fail
                  exact ⟨⟨k + 1, u ++ [c], by rw [← HAP.out], by go_num, by omega, by omega, by simp; omega, HU3⟩, by simp [intOf]; omega⟩
                · have f2 := beq_no (show ¬ (c.toNat : Int) = 46 from nat_ne hdot)
                  clear hdot
                  by_cases l1 : 97 ≤ (c.toNat : Int)
                  · have l2 : ¬ (c.toNat : Int) ≤ 122 := fun h => hlow ⟨l1, h⟩
                    clear hlow BW
                    go_wp2_with fail
                    exact ⟨⟨k + 1, u, rfl, by go_num, by omega, by omega, by omega, HU⟩, by simp [intOf]; omega⟩
                  · clear hlow BW
                    go_wp2_with fail
                    exact ⟨⟨k + 1, u, rfl, by go_num, by omega, by omega, by omega, HU⟩, by simp [intOf]; omega⟩
            · have f0 : (k : Int) < (en.size : Int) := by omega
              have f1 : ¬ (k : Int) < 20 := by omega
              have HU' := HU
              cases u with
              | nil =>
                have HW2 : Hid (WR w wB ws (n + 1)) := Lib.hid ⟨by omega, HG.out, BW, HU.out.2.2⟩
                clear BW HU HU'
                go_wp2_with fail
                exact ⟨⟨n + 1, ws, rfl, rfl, by go_num, by omega, by omega, HW2⟩, by simp [intOf]; omega⟩
              | cons cu ru =>
                have hu20 : (cu :: ru).length ≤ 20 := by omega
                have heu : (⟨(cu :: ru).toArray⟩ : ByteArray).toList.isEmpty = false := by rw [Lib.toList_data]; rfl
                have hGu : ∀ m, m ≤ 5 → ∀ p ∈ ws ++ [(cu :: ru, m)], wGood p := by
                  intro m hm p hp
                  rcases List.mem_append.1 hp with h | h
                  · exact HG.out p h
                  · simp at h; subst h; exact ⟨by simp, HU.out.1, hu20, hm⟩
                have HGU := Lib.hid hGu
                have hW2 : ∀ m, m ≤ 5 → WR w wB (ws ++ [(cu :: ru, m)]) (n + 1) := fun m hm => ⟨by simp; omega, hGu m hm, BW, HU.out.2.2⟩
                have HW2 := Lib.hid hW2
                have hn1s := fun m => nm2_snoc ws (cu :: ru) m
                have ht1 := tx2_snoc ws (cu :: ru)
                have htt := fun m => tx2_tab ws (cu :: ru) m
                have HTT := Lib.hid htt
                have hzt : ∀ m, m ≤ 5 → (tx2 (ws ++ [(cu :: ru, m)])).size ≤ 300 := by
                  intro m hm
                  have h := join_le wItem [32] 25 (ws ++ [(cu :: ru, m)]) (fun p hp => good_len (hGu m hm p hp))
                  show (Lib.join ((ws ++ [(cu :: ru, m)]).map wItem) [32]).toArray.size ≤ 300
                  rw [List.size_toArray]
                  simp at h ⊢
                  omega
                have HZT := Lib.hid hzt
                have hz1 : (tx2 ws).size ≤ 300 := by
                  have h := join_le wItem [32] 25 ws (fun p hp => good_len (HG.out p hp))
                  show (Lib.join (ws.map wItem) [32]).toArray.size ≤ 300
                  rw [List.size_toArray]
                  simp at h ⊢
                  omega
                have hz2 : (nm2 ws).size ≤ 300 := by
                  have h := join_le Prod.fst [32] 20 ws (fun p hp => (HG.out p hp).2.2.1)
                  show (Lib.join (ws.map Prod.fst) [32]).toArray.size ≤ 300
                  rw [List.size_toArray]
                  simp at h ⊢
                  omega
                have hz3 : (⟨(cu :: ru).toArray⟩ : ByteArray).size ≤ 20 := by show (cu :: ru).toArray.size ≤ _; rw [List.size_toArray]; exact hu20
                by_cases hw0 : ws.length = 0
                · rw [if_pos hw0] at ht1
                  have HT1 := Lib.hid ht1
                  have HN1 : Hid (∀ m, nm2 (ws ++ [(cu :: ru, m)]) = ⟨(cu :: ru).toArray⟩) := Lib.hid (fun m => by rw [hn1s m, if_pos hw0])
                  have hwn : ws = [] := List.length_eq_zero_iff.1 hw0
                  have hnm0 : nm2 ws = ⟨#[]⟩ := by rw [hwn]; rfl
                  have htx0 : tx2 ws = ⟨#[]⟩ := by rw [hwn]; rfl
                  have hcat : (⟨#[]⟩ : ByteArray) ++ ⟨(cu :: ru).toArray⟩ = ⟨(cu :: ru).toArray⟩ := by apply ByteArray.ext; simp
                  rw [hnm0, htx0]
                  clear hn1s ht1 htt hzt hW2 hGu hwn hnm0 htx0 hw0 hz1 hz2 BW HU HU' hu20
                  generalize (⟨(cu :: ru).toArray⟩ : ByteArray) = uv at *
                  go_wp2_with fail
                  go_loopw [6, 12] (fun tv mv wr => ∃ m : Nat, tv = .string (tx2 (ws ++ [(cu :: ru, m)])) ∧ mv = .int .i64 m ∧ m ≤ 5 ∧ wr = wB) (fun tv mv wr => 5 - (intOf mv).toNat)
                  case atStart => exact ⟨0, by rw [HT1.out], rfl, by omega, rfl⟩
                  case round =>
                    obtain ⟨m, rfl, rfl, hm, hwr⟩ := hrel
                    rw [hwr]
                    clear hwr
                    have hzm := HZT.out m hm
                    have HTM := Lib.hid (HTT.out m)
                    have HWM := Lib.hid (HW2.out m hm)
                    have HNM := Lib.hid (HN1.out m)
                    by_cases hnb : n < bl.length
                    · have gb : (n : Int) < (bl.length : Int) := by omega
                      obtain ⟨b2, off2, rfl, hbl2, y0⟩ := HBL.out n bl[n] (List.getElem?_eq_getElem hnb)
                      have y1 := (HWM.out.2.2.1.cell (p := ⟨b2, off2 + n, none⟩) hbl2).trans y0
                      clear y0
                      generalize bl[n] = z at *
                      by_cases hmz : (m : Int) < z
                      · by_cases h5 : m < 5
                        · have f5 : (m : Int) < 5 := by omega
                          generalize hT : tx2 (ws ++ [(cu :: ru, m)]) = tm at *
                          clear hT
                          go_wp2_with fail
                          exact ⟨⟨m + 1, by rw [HTM.out], by go_num, by omega, trivial⟩, by simp [intOf]; omega⟩
                        · have f5 : ¬ (m : Int) < 5 := by omega
                          go_wp2_with fail
                          exact ⟨⟨n + 1, ws ++ [(cu :: ru, m)], rfl, by rw [HNM.out], by go_num, by omega, by omega, HWM⟩, by simp [intOf]; omega⟩
                      · go_wp2_with fail
                        exact ⟨⟨n + 1, ws ++ [(cu :: ru, m)], rfl, by rw [HNM.out], by go_num, by omega, by omega, HWM⟩, by simp [intOf]; omega⟩
                    · have gb : ¬ (n : Int) < (bl.length : Int) := by omega
                      go_wp2_with fail
                      exact ⟨⟨n + 1, ws ++ [(cu :: ru, m)], rfl, by rw [HNM.out], by go_num, by omega, by omega, HWM⟩, by simp [intOf]; omega⟩
                · rw [if_neg hw0] at ht1
                  have HT1 := Lib.hid ht1
                  have HN1 : Hid (∀ m, nm2 (ws ++ [(cu :: ru, m)]) = nm2 ws ++ ⟨#[32]⟩ ++ ⟨(cu :: ru).toArray⟩) := Lib.hid (fun m => by rw [hn1s m, if_neg hw0])
                  have hen := nm2_empty ws HG.out hw0
                  have hz4 : (nm2 ws ++ ⟨#[32]⟩ : ByteArray).size ≤ 301 := by rw [ByteArray.size_append]; show (nm2 ws).size + 1 ≤ _; omega
                  have hz5 : (tx2 ws ++ ⟨#[32]⟩ : ByteArray).size ≤ 301 := by rw [ByteArray.size_append]; show (tx2 ws).size + 1 ≤ _; omega
                  clear hn1s ht1 htt hzt hW2 hGu hw0 BW HU HU' hu20
                  generalize (⟨(cu :: ru).toArray⟩ : ByteArray) = uv at *
                  generalize nm2 ws = nw at *
                  generalize tx2 ws = tw at *
                  go_wp2_with fail
                  go_loopw [6, 12] (fun tv mv wr => ∃ m : Nat, tv = .string (tx2 (ws ++ [(cu :: ru, m)])) ∧ mv = .int .i64 m ∧ m ≤ 5 ∧ wr = wB) (fun tv mv wr => 5 - (intOf mv).toNat)
                  case atStart => exact ⟨0, by rw [HT1.out], rfl, by omega, rfl⟩
                  case round =>
                    obtain ⟨m, rfl, rfl, hm, hwr⟩ := hrel
                    rw [hwr]
                    clear hwr
                    have hzm := HZT.out m hm
                    have HTM := Lib.hid (HTT.out m)
                    have HWM := Lib.hid (HW2.out m hm)
                    have HNM := Lib.hid (HN1.out m)
                    by_cases hnb : n < bl.length
                    · have gb : (n : Int) < (bl.length : Int) := by omega
                      obtain ⟨b2, off2, rfl, hbl2, y0⟩ := HBL.out n bl[n] (List.getElem?_eq_getElem hnb)
                      have y1 := (HWM.out.2.2.1.cell (p := ⟨b2, off2 + n, none⟩) hbl2).trans y0
                      clear y0
                      generalize bl[n] = z at *
                      by_cases hmz : (m : Int) < z
                      · by_cases h5 : m < 5
                        · have f5 : (m : Int) < 5 := by omega
                          generalize hT : tx2 (ws ++ [(cu :: ru, m)]) = tm at *
                          clear hT
                          go_wp2_with fail
                          exact ⟨⟨m + 1, by rw [HTM.out], by go_num, by omega, trivial⟩, by simp [intOf]; omega⟩
                        · have f5 : ¬ (m : Int) < 5 := by omega
                          go_wp2_with fail
                          exact ⟨⟨n + 1, ws ++ [(cu :: ru, m)], rfl, by rw [HNM.out], by go_num, by omega, by omega, HWM⟩, by simp [intOf]; omega⟩
                      · go_wp2_with fail
                        exact ⟨⟨n + 1, ws ++ [(cu :: ru, m)], rfl, by rw [HNM.out], by go_num, by omega, by omega, HWM⟩, by simp [intOf]; omega⟩
                    · have gb : ¬ (n : Int) < (bl.length : Int) := by omega
                      go_wp2_with fail
                      exact ⟨⟨n + 1, ws ++ [(cu :: ru, m)], rfl, by rw [HNM.out], by go_num, by omega, by omega, HWM⟩, by simp [intOf]; omega⟩
          · have f0 : ¬ (k : Int) < (en.size : Int) := by omega
            have HU' := HU
            cases u with
            | nil =>
              have HW2 : Hid (WR w wB ws (n + 1)) := Lib.hid ⟨by omega, HG.out, BW, HU.out.2.2⟩
              clear BW HU HU'
              go_wp2_with fail
              exact ⟨⟨n + 1, ws, rfl, rfl, by go_num, by omega, by omega, HW2⟩, by simp [intOf]; omega⟩
            | cons cu ru =>
              have hu20 : (cu :: ru).length ≤ 20 := by omega
              have heu : (⟨(cu :: ru).toArray⟩ : ByteArray).toList.isEmpty = false := by rw [Lib.toList_data]; rfl
              have hGu : ∀ m, m ≤ 5 → ∀ p ∈ ws ++ [(cu :: ru, m)], wGood p := by
                intro m hm p hp
                rcases List.mem_append.1 hp with h | h
                · exact HG.out p h
                · simp at h; subst h; exact ⟨by simp, HU.out.1, hu20, hm⟩
              have HGU := Lib.hid hGu
              have hW2 : ∀ m, m ≤ 5 → WR w wB (ws ++ [(cu :: ru, m)]) (n + 1) := fun m hm => ⟨by simp; omega, hGu m hm, BW, HU.out.2.2⟩
              have HW2 := Lib.hid hW2
              have hn1s := fun m => nm2_snoc ws (cu :: ru) m
              have ht1 := tx2_snoc ws (cu :: ru)
              have htt := fun m => tx2_tab ws (cu :: ru) m
              have HTT := Lib.hid htt
              have hzt : ∀ m, m ≤ 5 → (tx2 (ws ++ [(cu :: ru, m)])).size ≤ 300 := by
                intro m hm
                have h := join_le wItem [32] 25 (ws ++ [(cu :: ru, m)]) (fun p hp => good_len (hGu m hm p hp))
                show (Lib.join ((ws ++ [(cu :: ru, m)]).map wItem) [32]).toArray.size ≤ 300
                rw [List.size_toArray]
                simp at h ⊢
                omega
              have HZT := Lib.hid hzt
              have hz1 : (tx2 ws).size ≤ 300 := by
                have h := join_le wItem [32] 25 ws (fun p hp => good_len (HG.out p hp))
                show (Lib.join (ws.map wItem) [32]).toArray.size ≤ 300
                rw [List.size_toArray]
                simp at h ⊢
                omega
              have hz2 : (nm2 ws).size ≤ 300 := by
                have h := join_le Prod.fst [32] 20 ws (fun p hp => (HG.out p hp).2.2.1)
                show (Lib.join (ws.map Prod.fst) [32]).toArray.size ≤ 300
                rw [List.size_toArray]
                simp at h ⊢
                omega
              have hz3 : (⟨(cu :: ru).toArray⟩ : ByteArray).size ≤ 20 := by show (cu :: ru).toArray.size ≤ _; rw [List.size_toArray]; exact hu20
              by_cases hw0 : ws.length = 0
              · rw [if_pos hw0] at ht1
                have HT1 := Lib.hid ht1
                have HN1 : Hid (∀ m, nm2 (ws ++ [(cu :: ru, m)]) = ⟨(cu :: ru).toArray⟩) := Lib.hid (fun m => by rw [hn1s m, if_pos hw0])
                have hwn : ws = [] := List.length_eq_zero_iff.1 hw0
                have hnm0 : nm2 ws = ⟨#[]⟩ := by rw [hwn]; rfl
                have htx0 : tx2 ws = ⟨#[]⟩ := by rw [hwn]; rfl
                have hcat : (⟨#[]⟩ : ByteArray) ++ ⟨(cu :: ru).toArray⟩ = ⟨(cu :: ru).toArray⟩ := by apply ByteArray.ext; simp
                rw [hnm0, htx0]
                clear hn1s ht1 htt hzt hW2 hGu hwn hnm0 htx0 hw0 hz1 hz2 BW HU HU' hu20
                generalize (⟨(cu :: ru).toArray⟩ : ByteArray) = uv at *
                go_wp2_with fail
                go_loopw [6, 12] (fun tv mv wr => ∃ m : Nat, tv = .string (tx2 (ws ++ [(cu :: ru, m)])) ∧ mv = .int .i64 m ∧ m ≤ 5 ∧ wr = wB) (fun tv mv wr => 5 - (intOf mv).toNat)
                case atStart => exact ⟨0, by rw [HT1.out], rfl, by omega, rfl⟩
                case round =>
                  obtain ⟨m, rfl, rfl, hm, hwr⟩ := hrel
                  rw [hwr]
                  clear hwr
                  have hzm := HZT.out m hm
                  have HTM := Lib.hid (HTT.out m)
                  have HWM := Lib.hid (HW2.out m hm)
                  have HNM := Lib.hid (HN1.out m)
                  by_cases hnb : n < bl.length
                  · have gb : (n : Int) < (bl.length : Int) := by omega
                    obtain ⟨b2, off2, rfl, hbl2, y0⟩ := HBL.out n bl[n] (List.getElem?_eq_getElem hnb)
                    have y1 := (HWM.out.2.2.1.cell (p := ⟨b2, off2 + n, none⟩) hbl2).trans y0
                    clear y0
                    generalize bl[n] = z at *
                    by_cases hmz : (m : Int) < z
                    · by_cases h5 : m < 5
                      · have f5 : (m : Int) < 5 := by omega
                        generalize hT : tx2 (ws ++ [(cu :: ru, m)]) = tm at *
                        clear hT
                        go_wp2_with fail
                        exact ⟨⟨m + 1, by rw [HTM.out], by go_num, by omega, trivial⟩, by simp [intOf]; omega⟩
                      · have f5 : ¬ (m : Int) < 5 := by omega
                        go_wp2_with fail
                        exact ⟨⟨n + 1, ws ++ [(cu :: ru, m)], rfl, by rw [HNM.out], by go_num, by omega, by omega, HWM⟩, by simp [intOf]; omega⟩
                    · go_wp2_with fail
                      exact ⟨⟨n + 1, ws ++ [(cu :: ru, m)], rfl, by rw [HNM.out], by go_num, by omega, by omega, HWM⟩, by simp [intOf]; omega⟩
                  · have gb : ¬ (n : Int) < (bl.length : Int) := by omega
                    go_wp2_with fail
                    exact ⟨⟨n + 1, ws ++ [(cu :: ru, m)], rfl, by rw [HNM.out], by go_num, by omega, by omega, HWM⟩, by simp [intOf]; omega⟩
              · rw [if_neg hw0] at ht1
                have HT1 := Lib.hid ht1
                have HN1 : Hid (∀ m, nm2 (ws ++ [(cu :: ru, m)]) = nm2 ws ++ ⟨#[32]⟩ ++ ⟨(cu :: ru).toArray⟩) := Lib.hid (fun m => by rw [hn1s m, if_neg hw0])
                have hen := nm2_empty ws HG.out hw0
                have hz4 : (nm2 ws ++ ⟨#[32]⟩ : ByteArray).size ≤ 301 := by rw [ByteArray.size_append]; show (nm2 ws).size + 1 ≤ _; omega
                have hz5 : (tx2 ws ++ ⟨#[32]⟩ : ByteArray).size ≤ 301 := by rw [ByteArray.size_append]; show (tx2 ws).size + 1 ≤ _; omega
                clear hn1s ht1 htt hzt hW2 hGu hw0 BW HU HU' hu20
                generalize (⟨(cu :: ru).toArray⟩ : ByteArray) = uv at *
                generalize nm2 ws = nw at *
                generalize tx2 ws = tw at *
                go_wp2_with fail
                go_loopw [6, 12] (fun tv mv wr => ∃ m : Nat, tv = .string (tx2 (ws ++ [(cu :: ru, m)])) ∧ mv = .int .i64 m ∧ m ≤ 5 ∧ wr = wB) (fun tv mv wr => 5 - (intOf mv).toNat)
                case atStart => exact ⟨0, by rw [HT1.out], rfl, by omega, rfl⟩
                case round =>
                  obtain ⟨m, rfl, rfl, hm, hwr⟩ := hrel
                  rw [hwr]
                  clear hwr
                  have hzm := HZT.out m hm
                  have HTM := Lib.hid (HTT.out m)
                  have HWM := Lib.hid (HW2.out m hm)
                  have HNM := Lib.hid (HN1.out m)
                  by_cases hnb : n < bl.length
                  · have gb : (n : Int) < (bl.length : Int) := by omega
                    obtain ⟨b2, off2, rfl, hbl2, y0⟩ := HBL.out n bl[n] (List.getElem?_eq_getElem hnb)
                    have y1 := (HWM.out.2.2.1.cell (p := ⟨b2, off2 + n, none⟩) hbl2).trans y0
                    clear y0
                    generalize bl[n] = z at *
                    by_cases hmz : (m : Int) < z
                    · by_cases h5 : m < 5
                      · have f5 : (m : Int) < 5 := by omega
                        generalize hT : tx2 (ws ++ [(cu :: ru, m)]) = tm at *
                        clear hT
                        go_wp2_with fail
                        exact ⟨⟨m + 1, by rw [HTM.out], by go_num, by omega, trivial⟩, by simp [intOf]; omega⟩
                      · have f5 : ¬ (m : Int) < 5 := by omega
                        go_wp2_with fail
                        exact ⟨⟨n + 1, ws ++ [(cu :: ru, m)], rfl, by rw [HNM.out], by go_num, by omega, by omega, HWM⟩, by simp [intOf]; omega⟩
                    · go_wp2_with fail
                      exact ⟨⟨n + 1, ws ++ [(cu :: ru, m)], rfl, by rw [HNM.out], by go_num, by omega, by omega, HWM⟩, by simp [intOf]; omega⟩
                  · have gb : ¬ (n : Int) < (bl.length : Int) := by omega
                    go_wp2_with fail
                    exact ⟨⟨n + 1, ws ++ [(cu :: ru, m)], rfl, by rw [HNM.out], by go_num, by omega, by omega, HWM⟩, by simp [intOf]; omega⟩
      · have g1 : ¬ (n : Int) < 9 := by omega
        have BW := HW.out.2.2.1
        have MW := HW.out.2.2.2
        have HG := Lib.hid HW.out.2.1
        clear HW
        by_cases hw0 : ws.length = 0
        · have hwn : ws = [] := List.length_eq_zero_iff.1 hw0
          have hnm0 : nm2 ws = ⟨#[]⟩ := by rw [hwn]; rfl
          rw [hnm0]
          clear hwn hnm0 hw0
          go_wp2_with fail
          go_ret
          exact ⟨rfl, BW⟩
        · have hne : ws ≠ [] := fun e => hw0 (by rw [e]; rfl)
          have hen := nm2_empty ws HG.out hw0
          have hjl := join_le wItem [32] 25 ws (fun p hp => good_len (HG.out p hp))
          have hz1 : (tx2 ws).size ≤ 300 := by
            show (Lib.join (ws.map wItem) [32]).toArray.size ≤ 300
            rw [List.size_toArray]
            simp at hjl ⊢
            omega
          have cL := list_any (Lib.join (ws.map wItem) [32] ++ [32, 60, 120, 64, 121, 46, 122, 62]) (by simp at hjl ⊢; omega) wA MW
          have hcat : (⟨(Lib.join (ws.map wItem) [32] ++ [32, 60, 120, 64, 121, 46, 122, 62]).toArray⟩ : ByteArray) = tx2 ws ++ ⟨#[32, 60, 120, 64, 121, 46, 122, 62]⟩ := (str_app _ [32, 60, 120, 64, 121, 46, 122, 62]).symm
          rw [list_words ws hne HG.out, hcat] at cL
          unfold LPost at cL
          have hnm : (⟨(Lib.join (ws.map Prod.fst) [32]).toArray⟩ : ByteArray) = nm2 ws := rfl
          have HNM := Lib.hid hnm
          clear hne hw0 hjl hcat hnm HG
          go_wp2_with fail
          refine cL.mono ?_; rintro e w5 ⟨⟨v, rfl, a7, cap7, rfl, h7, h8⟩, b7⟩
          have B7 := BW.trans (b7.mono BW.size)
          rcases h8 with h8 | ⟨gm, rfl, hge, hgm, hcm⟩
          · cases h8
          · have m0 : w5.cell? ⟨gm, 0, none⟩ = some (.string (nm2 ws)) := by rw [← HNM.out]; exact hcm 0 _ rfl
            have m1 : w5.cell? ⟨gm, 1, none⟩ = some (.string ⟨#[120]⟩) := hcm 1 _ rfl
            have m2 : w5.cell? ⟨gm, 2, none⟩ = some (.string ⟨#[121, 46, 122]⟩) := hcm 2 _ rfl
            have b8 : Below w5.heap.size w5 (w5.alloc (.cells #[.string (nm2 ws), .string ⟨#[120]⟩, .string ⟨#[121, 46, 122]⟩] 23)) := (Below.refl _ _).alloc (Nat.le_refl _) _
            have B8 := B7.trans (b8.mono B7.size)
            have x0 := (b8.cell (p := ⟨gm, 0, none⟩) hgm).trans m0
            have x1 := (b8.cell (p := ⟨gm, 1, none⟩) hgm).trans m1
            have x2 := (b8.cell (p := ⟨gm, 2, none⟩) hgm).trans m2
            have A8 := heap_alloc_new w5 (.cells #[.string (nm2 ws), .string ⟨#[120]⟩, .string ⟨#[121, 46, 122]⟩] 23)
            have y0 := cellA A8 0 (.string (nm2 ws)) rfl
            have y1 := cellA A8 1 (.string ⟨#[120]⟩) rfl
            have y2 := cellA A8 2 (.string ⟨#[121, 46, 122]⟩) rfl
            clear b7 b8 hge hgm hcm m0 m1 m2 A8 B7 BW MW cL h7 hen hz1
            go_wp2_with fail
            generalize nm2 ws = nw at *
            generalize w5.alloc (.cells #[.string nw, .string ⟨#[120]⟩, .string ⟨#[121, 46, 122]⟩] 23) = w6 at *
            generalize w5.heap.size = g6 at *
            go_quiet (fail)
            go_wp2_with fail
            go_ret
            exact ⟨rfl, below_dN B8 _⟩
    · have g0 : ¬ (n : Int) < (es.length : Int) := by omega
      have BW := HW.out.2.2.1
      have MW := HW.out.2.2.2
      have HG := Lib.hid HW.out.2.1
      clear HW
      by_cases hw0 : ws.length = 0
      · have hwn : ws = [] := List.length_eq_zero_iff.1 hw0
        have hnm0 : nm2 ws = ⟨#[]⟩ := by rw [hwn]; rfl
        rw [hnm0]
        clear hwn hnm0 hw0
        go_wp2_with fail
        go_ret
        exact ⟨rfl, BW⟩
      · have hne : ws ≠ [] := fun e => hw0 (by rw [e]; rfl)
        have hen := nm2_empty ws HG.out hw0
        have hjl := join_le wItem [32] 25 ws (fun p hp => good_len (HG.out p hp))
        have hz1 : (tx2 ws).size ≤ 300 := by
          show (Lib.join (ws.map wItem) [32]).toArray.size ≤ 300
          rw [List.size_toArray]
          simp at hjl ⊢
          omega
        have cL := list_any (Lib.join (ws.map wItem) [32] ++ [32, 60, 120, 64, 121, 46, 122, 62]) (by simp at hjl ⊢; omega) wA MW
        have hcat : (⟨(Lib.join (ws.map wItem) [32] ++ [32, 60, 120, 64, 121, 46, 122, 62]).toArray⟩ : ByteArray) = tx2 ws ++ ⟨#[32, 60, 120, 64, 121, 46, 122, 62]⟩ := (str_app _ [32, 60, 120, 64, 121, 46, 122, 62]).symm
        rw [list_words ws hne HG.out, hcat] at cL
        unfold LPost at cL
        have hnm : (⟨(Lib.join (ws.map Prod.fst) [32]).toArray⟩ : ByteArray) = nm2 ws := rfl
        have HNM := Lib.hid hnm
        clear hne hw0 hjl hcat hnm HG
        go_wp2_with fail
        refine cL.mono ?_; rintro e w5 ⟨⟨v, rfl, a7, cap7, rfl, h7, h8⟩, b7⟩
        have B7 := BW.trans (b7.mono BW.size)
        rcases h8 with h8 | ⟨gm, rfl, hge, hgm, hcm⟩
        · cases h8
        · have m0 : w5.cell? ⟨gm, 0, none⟩ = some (.string (nm2 ws)) := by rw [← HNM.out]; exact hcm 0 _ rfl
          have m1 : w5.cell? ⟨gm, 1, none⟩ = some (.string ⟨#[120]⟩) := hcm 1 _ rfl
          have m2 : w5.cell? ⟨gm, 2, none⟩ = some (.string ⟨#[121, 46, 122]⟩) := hcm 2 _ rfl
          have b8 : Below w5.heap.size w5 (w5.alloc (.cells #[.string (nm2 ws), .string ⟨#[120]⟩, .string ⟨#[121, 46, 122]⟩] 23)) := (Below.refl _ _).alloc (Nat.le_refl _) _
          have B8 := B7.trans (b8.mono B7.size)
          have x0 := (b8.cell (p := ⟨gm, 0, none⟩) hgm).trans m0
          have x1 := (b8.cell (p := ⟨gm, 1, none⟩) hgm).trans m1
          have x2 := (b8.cell (p := ⟨gm, 2, none⟩) hgm).trans m2
          have A8 := heap_alloc_new w5 (.cells #[.string (nm2 ws), .string ⟨#[120]⟩, .string ⟨#[121, 46, 122]⟩] 23)
          have y0 := cellA A8 0 (.string (nm2 ws)) rfl
          have y1 := cellA A8 1 (.string ⟨#[120]⟩) rfl
          have y2 := cellA A8 2 (.string ⟨#[121, 46, 122]⟩) rfl
          clear b7 b8 hge hgm hcm m0 m1 m2 A8 B7 BW MW cL h7 hen hz1
          go_wp2_with fail
          generalize nm2 ws = nw at *
          generalize w5.alloc (.cells #[.string nw, .string ⟨#[120]⟩, .string ⟨#[121, 46, 122]⟩] 23) = w6 at *
          generalize w5.heap.size = g6 at *
          go_quiet (fail)
          go_wp2_with fail
          go_ret
          exact ⟨rfl, below_dN B8 _⟩
end Go.Proofs.YtgdcdknmijeioaaDoor
