/- What resume does; what Open does where a group is in progress. -/
import Derived.Test.YtoccnaebckcfmaaW22
set_option linter.unusedSimpArgs false
set_option linter.unusedVariables false
set_option maxRecDepth 8000
namespace Go.Proofs.Ytoccnaebckcfmaa
open Go.RowKit

set_option maxHeartbeats 2000000 in
theorem resume_any {w : World} {wb b : Nat} {F : List Nat} {S : St} {a s g : Int} {ps : List (Int × Array Value)} (hd : DAt w b F S) (hw : WalAt w wb b a s g) (hwb : wb ∉ F) (hon : S.on = true) (ha : 0 ≤ a) (hs : 3 ≤ s) (has : a + s ≤ S.n) (hok : GroupOk a s S.n (rawsOf ps)) (hh : Holds S a ps) (hpb : ∀ p ∈ ps, SecOk p.2) (hne : 0 < ps.length) (hg : 0 ≤ g) (hg1 : g ≤ 9223372036854775807)
    (hst : S.steps + ps.length + 100 < 1000000000) (hpd : S.pend.length + ps.length + 100 < 1000000000) :
    Calls Try.prog 61 #[.pointer (some ⟨wb, 0, none⟩), .int .i64 (ps.length : Int)] w fun e w' => e = .returned (.int .i64 (S.finish a s ps g).1) ∧ DPost w w' b F (S.finish a s ps g).2 := by
  have n1 : S.n ≤ 8192 := by obtain ⟨_, _, _, h, _⟩ := hd; exact h.ok.n1
  have hsec : ∀ p ∈ ps, p.1 ≤ 9223372036854775807 := fun p hp => by
    have := (hok.2.1 (p.1, 64) (List.mem_map.2 ⟨p, hp, rfl⟩)).2.1
    simp only at this
    omega
  have RE := Lib.hid (recorded_any hd hw hon ha hs has hok hh hpb hne)
  have KEEP := Lib.hid (And.intro hd (And.intro hw (And.intro hok hsec)))
  clear hd hw hok hh hpb hsec hon
  go_enter Try.func61, Try.ntmps61
  go_wp2_with fail
  refine RE.out.mono ?_
  rintro e w1 ⟨v, rfl, hv, o1⟩
  obtain ⟨ad, cap, rfl, hlen, -⟩ := hv.shape
  obtain ⟨hd, hw, hok, hsec⟩ := KEEP.out
  have VA := Lib.hid (valid_any (hd.only o1 (by simp)) (hw.only o1 (by simp)) (hv.raws hsec) ha (by omega) hs (by omega))
  have HV := Lib.hid (And.intro hv o1)
  clear RE hv o1 hd hw hok hsec
  go_wp2_with fail
  refine VA.out.mono ?_
  rintro e w2 ⟨r, rfl, hr, o2⟩
  obtain ⟨hd, hw, hok, hsec⟩ := KEEP.out
  obtain ⟨hv, o1⟩ := HV.out
  have hrt : r = true := hr.2 hok
  subst hrt
  have o12 := o1.trans o2 (by simp)
  have hw2 := hw.only o12 (by simp)
  obtain ⟨x0, x1, x2, x3, -⟩ := hw2.cells
  have FI := Lib.hid (finish_any (g := g) (hd.only o12 (by simp)) hw2 hwb (hv.only o2 (by simp)) ⟨ha, by omega⟩ ⟨by omega, by omega⟩ ⟨hg, hg1⟩ (by omega) (by omega))
  have HO := Lib.hid o12
  clear VA HV hr o1 o2 o12 hv hd hw hok hsec hw2 KEEP
  go_wp2_with (go_at_call 73; refine FI.out.mono ?_; rintro e w3 ⟨rfl, hp⟩)
  go_ret
  exact ⟨rfl, DPost.trans (HO.out.mono (by simp)) (fun x hx => .inl hx) hp⟩

/-- A log has been opened, and its group completed; or not. -/
def OpenRPost (b : Nat) (F : List Nat) (S : St) (a s g : Int) (ps : List (Int × Array Value)) (w : World) (e : Ending) (w' : World) : Prop :=
  DPost w w' b F (S.finish a s ps g).2 ∧ (((S.finish a s ps g).1 = 0 ∧ ∃ wb, e = .returned (.tuple #[.pointer (some ⟨wb, 0, none⟩), .int .i64 0]) ∧ w.heap.size ≤ wb ∧ WalAt w' wb b a s g) ∨ ((S.finish a s ps g).1 ≠ 0 ∧ e = .returned (.tuple #[.pointer none, .int .i64 (S.finish a s ps g).1])))
theorem OpenRPost.ok {b : Nat} {F : List Nat} {S : St} {a s g : Int} {ps : List (Int × Array Value)} {w w' : World} {wb : Nat} (h : DPost w w' b F (S.finish a s ps g).2) (hz : (S.finish a s ps g).1 = 0) (h1 : w.heap.size ≤ wb) (h2 : WalAt w' wb b a s g) : OpenRPost b F S a s g ps w (.returned (.tuple #[.pointer (some ⟨wb, 0, none⟩), .int .i64 0])) w' := ⟨h, .inl ⟨hz, wb, rfl, h1, h2⟩⟩
theorem OpenRPost.no {b : Nat} {F : List Nat} {S : St} {a s g : Int} {ps : List (Int × Array Value)} {w w' : World} (h : DPost w w' b F (S.finish a s ps g).2) (hz : (S.finish a s ps g).1 ≠ 0) : OpenRPost b F S a s g ps w (.returned (.tuple #[.pointer none, .int .i64 (S.finish a s ps g).1])) w' := ⟨h, .inr ⟨hz, rfl⟩⟩

set_option maxHeartbeats 2000000 in
theorem open_resumed {w : World} {b : Nat} {F : List Nat} {S : St} {a s : Int} {l : List Int} (h : DAt w b F S) (hon : S.on = true) (ha1 : a ≤ 9223372036854775807) (hs1 : s ≤ 9223372036854775807) (hyes : 3 ≤ s ∧ 0 ≤ a ∧ a ≤ S.n - s) (hl : l.length = 64) (hlb : ∀ x ∈ l, 0 ≤ x ∧ x < 256) (hv : (S.now a).getD Z = sec l)
    (heq : decide (l = headLs (rd l 13) (rd l 17) (rd l 21) (rd l 25)) = true) (hat : (rd l 13 != a) = false) (hsz : (rd l 17 != s) = false) {ps : List (Int × Array Value)} (hpz : rd l 25 = (ps.length : Int)) (hrm : rd l 25 ≤ roomF s) (hok : GroupOk a s S.n (rawsOf ps)) (hho : Holds S a ps) (hpb : ∀ p ∈ ps, SecOk p.2) (hne : 0 < ps.length) (hst : S.steps + ps.length + 100 < 1000000000) (hpd : S.pend.length + ps.length + 100 < 1000000000) (hz : (S.finish a s ps (rd l 21)).1 = 0) :
    Calls Try.prog 29 #[.pointer (some ⟨b, 0, none⟩), .int .i64 a, .int .i64 s] w fun e w' => OpenRPost b F S a s (rd l 21) ps w e w' := by
  have n1 : S.n ≤ 8192 := by obtain ⟨_, _, _, h, _⟩ := h; exact h.ok.n1
  have hr : S.reach a = 0 := by rw [St.reach, if_neg (by simp [hon]), if_neg (by omega)]
  have P := possible_any h a s (by omega) ha1 (by omega) hs1
  rw [decide_eq_true hyes] at P
  have P2 := Lib.hid P
  have RD := Lib.hid (read_ok h a hr)
  rw [hv] at RD
  have H := Lib.hid h
  have hblk := heap_alloc_last w (.cells (sec l) 93)
  have PA := Lib.hid (parse_any (w.alloc (.cells (sec l) 93)) w.heap.size 64 (byt l) (fun j hj => by
    rw [cell_of_row _ _ _ _ _ _ hblk]
    exact sec_at _ _ _ (by rw [byt, List.getD_eq_getElem?_getD, List.getElem?_eq_getElem (by omega)]; rfl)) (by simp) (byt_bd hlb))
  rw [parsed_rd] at PA
  have b13 := rd_bd hlb 13
  have b17 := rd_bd hlb 17
  have b21 := rd_bd hlb 21
  have b25 := rd_bd hlb 25
  clear P h hv hblk
  have HEQ := Lib.hid heq
  have HAT := Lib.hid hat
  have HSZ := Lib.hid hsz
  have HPZ := Lib.hid hpz
  have HRM := Lib.hid hrm
  have KP := Lib.hid (And.intro hok (And.intro hho (And.intro hpb hon)))
  have HZ := Lib.hid hz
  clear heq hat hsz hpz hrm hok hho hpb hon hz
  go_enter Try.func29, Try.ntmps29
  go_wp2_with (first | (go_at_call 56; refine P2.out.mono ?_; rintro e w' ⟨rfl, rfl⟩) | (go_at_call 33; refine RD.out.mono ?_; rintro e w' ⟨rfl, rfl⟩) | (go_at_call 57; refine PA.out.mono ?_; rintro e w1 ⟨rfl, o1⟩))
  have o2 : Only [] w (w1.alloc (.cells #[.int .i64 (rd l 13), .int .i64 (rd l 17), .int .i64 (rd l 21), .int .i64 (rd l 25)] 99)) := (((Only.refl [] w).alloc _).trans o1 (by simp)).alloc _
  have hb2 : (w1.alloc (.cells #[.int .i64 (rd l 13), .int .i64 (rd l 17), .int .i64 (rd l 21), .int .i64 (rd l 25)] 99)).heap[w.heap.size]? = some (.cells (sec l) 93 (0, 0)) := by
    have h1 := heap_alloc_last w (.cells (sec l) 93)
    have h2 := (o1.block w.heap.size (by simp) (by simp)).trans h1
    rw [Below.heap_alloc _ _ _ (Array.getElem?_eq_some_iff.1 h2).1]
    exact h2
  have hh2 : (w1.alloc (.cells #[.int .i64 (rd l 13), .int .i64 (rd l 17), .int .i64 (rd l 21), .int .i64 (rd l 25)] 99)).heap[w1.heap.size]? = some (.cells #[.int .i64 (rd l 13), .int .i64 (rd l 17), .int .i64 (rd l 21), .int .i64 (rd l 25)] 99 (0, 0)) := heap_alloc_last w1 _
  generalize w1.alloc (.cells #[.int .i64 (rd l 13), .int .i64 (rd l 17), .int .i64 (rd l 21), .int .i64 (rd l 25)] 99) = w2 at *
  have x0 : w2.drew.cell? ⟨w1.heap.size, 0, none⟩ = some (.int .i64 (rd l 13)) := (cell_of_row w2 _ _ _ _ _ hh2).trans rfl
  have x1 : w2.drew.cell? ⟨w1.heap.size, 1, none⟩ = some (.int .i64 (rd l 17)) := (cell_of_row w2 _ _ _ _ _ hh2).trans rfl
  have x3 : w2.drew.cell? ⟨w1.heap.size, 3, none⟩ = some (.int .i64 (rd l 25)) := (cell_of_row w2 _ _ _ _ _ hh2).trans rfl
  have hh2' : w2.drew.heap[w1.heap.size]? = some (.cells #[.int .i64 (rd l 13), .int .i64 (rd l 17), .int .i64 (rd l 21), .int .i64 (rd l 25)] 99 (0, 0)) := hh2
  have hb2' : w2.drew.heap[w.heap.size]? = some (.cells (sec l) 93 (0, 0)) := hb2
  clear o1
  refine wp_region_flowR Lat [0, 1, 2, 1, 0, 0, 0, 1, 0, 0, 0, 0, 0, 1, 0, 0, 0, 0, 0, 1, 0, 1, 0, 0] (by kernel_rfl) (by kernel_rfl) Lat.refl Lat.trans ?_
  refine fr0 rfl (fun _ => rfl) ?_
  simp only [Act.put, List.setIfInBounds_toArray, List.set_cons_succ, List.set_cons_zero]
  refine fr1 (u := .agg #[.int .i64 (rd l 13), .int .i64 (rd l 17), .int .i64 (rd l 21), .int .i64 (rd l 25)]) rfl (fun x hx => run_load78 rfl rfl (hx.at hh2') rfl) ?_
  simp only [Act.put, List.setIfInBounds_toArray, List.set_cons_succ, List.set_cons_zero]
  refine fr2c rfl (run_enter1 Try.call59 rfl rfl) (bytes_any w2.drew (rd l 13) (rd l 17) (rd l 21) (rd l 25) ⟨b13.1, by omega⟩ ⟨b17.1, by omega⟩ ⟨b21.1, by omega⟩ ⟨b25.1, by omega⟩) ?_
  rintro e w3 ⟨q, rfl, hq, hqb, o3⟩
  rw [headA_sec] at hqb
  refine ⟨_, rfl, o3.lat, ?_⟩
  simp only [Act.put, List.setIfInBounds_toArray, List.set_cons_succ, List.set_cons_zero]
  refine fr1c (u := .bool true) rfl (fun x hx => does_equal hl (headLs_len _ _ _ _) hlb (headLs_bd _ _ _ _) HEQ.out (hx.at (o3.lat.at hb2')) (hx.at hqb) rfl rfl rfl) ?_
  simp only [Act.put, List.setIfInBounds_toArray, List.set_cons_succ, List.set_cons_zero]
  refine fr0 (u := .bool false) rfl (fun w => (run_not (v := true) rfl rfl w).trans rfl) ?_
  simp only [Act.put, List.setIfInBounds_toArray, List.set_cons_succ, List.set_cons_zero]
  refine fr0 (u := .bool false) rfl (fun _ => rfl) ?_
  simp only [Act.put, List.setIfInBounds_toArray, List.set_cons_succ, List.set_cons_zero]
  refine fr0 (by kernel_rfl) (run_field78 (by omega) rfl rfl) ?_
  simp only [Act.put, List.setIfInBounds_toArray, List.set_cons_succ, List.set_cons_zero]
  refine fr1 (u := .int .i64 (rd l 13)) (by kernel_rfl) (fun x hx => run_load1 rfl rfl (hx.cell (o3.lat.cell x0)) isAgg3) ?_
  simp only [Act.put, List.setIfInBounds_toArray, List.set_cons_succ, List.set_cons_zero]
  refine fr0 (by kernel_rfl) (fun _ => rfl) ?_
  simp only [Act.put, List.setIfInBounds_toArray, List.set_cons_succ, List.set_cons_zero]
  refine fr0 (u := .bool false) (by kernel_rfl) (fun w => (run_neq rfl rfl rfl w).trans (by rw [HAT.out])) ?_
  simp only [Act.put, List.setIfInBounds_toArray, List.set_cons_succ, List.set_cons_zero]
  refine fr0 (u := .bool false) rfl (fun _ => rfl) ?_
  simp only [Act.put, List.setIfInBounds_toArray, List.set_cons_succ, List.set_cons_zero]
  refine fr0 (u := .bool false) rfl (fun _ => rfl) ?_
  simp only [Act.put, List.setIfInBounds_toArray, List.set_cons_succ, List.set_cons_zero]
  refine fr0 (by kernel_rfl) (run_field78 (by omega) rfl rfl) ?_
  simp only [Act.put, List.setIfInBounds_toArray, List.set_cons_succ, List.set_cons_zero]
  refine fr1 (u := .int .i64 (rd l 17)) (by kernel_rfl) (fun x hx => run_load1 rfl rfl (hx.cell (o3.lat.cell x1)) isAgg3) ?_
  simp only [Act.put, List.setIfInBounds_toArray, List.set_cons_succ, List.set_cons_zero]
  refine fr0 (by kernel_rfl) (fun _ => rfl) ?_
  simp only [Act.put, List.setIfInBounds_toArray, List.set_cons_succ, List.set_cons_zero]
  refine fr0 (u := .bool false) (by kernel_rfl) (fun w => (run_neq rfl rfl rfl w).trans (by rw [HSZ.out])) ?_
  simp only [Act.put, List.setIfInBounds_toArray, List.set_cons_succ, List.set_cons_zero]
  refine fr0 (u := .bool false) rfl (fun _ => rfl) ?_
  simp only [Act.put, List.setIfInBounds_toArray, List.set_cons_succ, List.set_cons_zero]
  refine fr0 (u := .bool false) rfl (fun _ => rfl) ?_
  simp only [Act.put, List.setIfInBounds_toArray, List.set_cons_succ, List.set_cons_zero]
  refine fr0 (by kernel_rfl) (run_field78 (by omega) rfl rfl) ?_
  simp only [Act.put, List.setIfInBounds_toArray, List.set_cons_succ, List.set_cons_zero]
  refine fr1 (u := .int .i64 (rd l 25)) (by kernel_rfl) (fun x hx => run_load1 rfl rfl (hx.cell (o3.lat.cell x3)) isAgg3) ?_
  simp only [Act.put, List.setIfInBounds_toArray, List.set_cons_succ, List.set_cons_zero]
  refine fr0 (by kernel_rfl) (fun _ => rfl) ?_
  simp only [Act.put, List.setIfInBounds_toArray, List.set_cons_succ, List.set_cons_zero]
  refine fr1c (u := .int .i64 (roomF s)) (by kernel_rfl) (fun x hx => does_room hs1 rfl rfl) ?_
  simp only [Act.put, List.setIfInBounds_toArray, List.set_cons_succ, List.set_cons_zero]
  refine fr0 (u := .bool false) (by kernel_rfl) (fun w => (run_gtr rfl rfl rfl w).trans (by rw [decide_eq_false (Int.not_lt.2 HRM.out)])) ?_
  simp only [Act.put, List.setIfInBounds_toArray, List.set_cons_succ, List.set_cons_zero]
  refine fr0 (u := .bool false) rfl (fun _ => rfl) ?_
  simp only [Act.put, List.setIfInBounds_toArray, List.set_cons_succ, List.set_cons_zero]
  refine frnil ?_
  show Exit.then _ _ _ _ _
  have hO : Only [] w w3 := (o2.drew).trans o3 (by simp)
  have y2 : w3.cell? ⟨w1.heap.size, 2, none⟩ = some (.int .i64 (rd l 21)) := o3.lat.cell ((cell_of_row w2 _ _ _ _ _ hh2).trans rfl)
  have y3 : w3.cell? ⟨w1.heap.size, 3, none⟩ = some (.int .i64 (ps.length : Int)) := by rw [← HPZ.out]; exact o3.lat.cell x3
  have hsz3 : w1.heap.size < w3.heap.size := Nat.lt_of_lt_of_le (Array.getElem?_eq_some_iff.1 hh2').1 o3.size
  have hbx := heap_alloc_last w3 (.cells (wrow b a s (rd l 21)) 104)
  have oX : Only [] w (w3.alloc (.cells (wrow b a s (rd l 21)) 104)) := hO.alloc _
  have hwF : w3.heap.size ∉ F := fun hx => by have := dAt_lt H.out _ hx; have := hO.size; omega
  have RS := Lib.hid (resume_any (H.out.only oX (by simp)) hbx hwF KP.out.2.2.2 hyes.2.1 hyes.1 (by omega) KP.out.1 KP.out.2.1 KP.out.2.2.1 hne b21.1 (by omega) hst hpd)
  have KX := Lib.hid (And.intro oX (And.intro hwF hO.size))
  clear o2 o3 hb2 hb2' hh2 hh2' x0 x1 x3 hqb hbx oX hwF hO
  unfold wrow at RS
  have HZ2 := HZ.out
  go_wp2_with (go_at_call 61; refine RS.out.mono ?_; rintro e w4 ⟨rfl, hp4⟩)
  go_ret2
  obtain ⟨oX, hwF, hsz⟩ := KX.out
  have hwa : WalAt w4 w3.heap.size b a s (rd l 21) := by
    obtain ⟨F4, d4, f4, o4⟩ := hp4
    exact (o4.block _ (by simp) hwF).trans (heap_alloc_last w3 _)
  exact OpenRPost.ok (DPost.trans (oX.mono (by simp)) (fun x hx => .inl hx) hp4) HZ.out hsz hwa

set_option maxHeartbeats 2000000 in
theorem open_fell {w : World} {b : Nat} {F : List Nat} {S : St} {a s : Int} {l : List Int} (h : DAt w b F S) (hon : S.on = true) (ha1 : a ≤ 9223372036854775807) (hs1 : s ≤ 9223372036854775807) (hyes : 3 ≤ s ∧ 0 ≤ a ∧ a ≤ S.n - s) (hl : l.length = 64) (hlb : ∀ x ∈ l, 0 ≤ x ∧ x < 256) (hv : (S.now a).getD Z = sec l)
    (heq : decide (l = headLs (rd l 13) (rd l 17) (rd l 21) (rd l 25)) = true) (hat : (rd l 13 != a) = false) (hsz : (rd l 17 != s) = false) {ps : List (Int × Array Value)} (hpz : rd l 25 = (ps.length : Int)) (hrm : rd l 25 ≤ roomF s) (hok : GroupOk a s S.n (rawsOf ps)) (hho : Holds S a ps) (hpb : ∀ p ∈ ps, SecOk p.2) (hne : 0 < ps.length) (hst : S.steps + ps.length + 100 < 1000000000) (hpd : S.pend.length + ps.length + 100 < 1000000000) (hz : (S.finish a s ps (rd l 21)).1 ≠ 0) :
    Calls Try.prog 29 #[.pointer (some ⟨b, 0, none⟩), .int .i64 a, .int .i64 s] w fun e w' => OpenRPost b F S a s (rd l 21) ps w e w' := by
  have n1 : S.n ≤ 8192 := by obtain ⟨_, _, _, h, _⟩ := h; exact h.ok.n1
  have hr : S.reach a = 0 := by rw [St.reach, if_neg (by simp [hon]), if_neg (by omega)]
  have P := possible_any h a s (by omega) ha1 (by omega) hs1
  rw [decide_eq_true hyes] at P
  have P2 := Lib.hid P
  have RD := Lib.hid (read_ok h a hr)
  rw [hv] at RD
  have H := Lib.hid h
  have hblk := heap_alloc_last w (.cells (sec l) 93)
  have PA := Lib.hid (parse_any (w.alloc (.cells (sec l) 93)) w.heap.size 64 (byt l) (fun j hj => by
    rw [cell_of_row _ _ _ _ _ _ hblk]
    exact sec_at _ _ _ (by rw [byt, List.getD_eq_getElem?_getD, List.getElem?_eq_getElem (by omega)]; rfl)) (by simp) (byt_bd hlb))
  rw [parsed_rd] at PA
  have b13 := rd_bd hlb 13
  have b17 := rd_bd hlb 17
  have b21 := rd_bd hlb 21
  have b25 := rd_bd hlb 25
  clear P h hv hblk
  have HEQ := Lib.hid heq
  have HAT := Lib.hid hat
  have HSZ := Lib.hid hsz
  have HPZ := Lib.hid hpz
  have HRM := Lib.hid hrm
  have KP := Lib.hid (And.intro hok (And.intro hho (And.intro hpb hon)))
  have HZ := Lib.hid hz
  clear heq hat hsz hpz hrm hok hho hpb hon hz
  go_enter Try.func29, Try.ntmps29
  go_wp2_with (first | (go_at_call 56; refine P2.out.mono ?_; rintro e w' ⟨rfl, rfl⟩) | (go_at_call 33; refine RD.out.mono ?_; rintro e w' ⟨rfl, rfl⟩) | (go_at_call 57; refine PA.out.mono ?_; rintro e w1 ⟨rfl, o1⟩))
  have o2 : Only [] w (w1.alloc (.cells #[.int .i64 (rd l 13), .int .i64 (rd l 17), .int .i64 (rd l 21), .int .i64 (rd l 25)] 99)) := (((Only.refl [] w).alloc _).trans o1 (by simp)).alloc _
  have hb2 : (w1.alloc (.cells #[.int .i64 (rd l 13), .int .i64 (rd l 17), .int .i64 (rd l 21), .int .i64 (rd l 25)] 99)).heap[w.heap.size]? = some (.cells (sec l) 93 (0, 0)) := by
    have h1 := heap_alloc_last w (.cells (sec l) 93)
    have h2 := (o1.block w.heap.size (by simp) (by simp)).trans h1
    rw [Below.heap_alloc _ _ _ (Array.getElem?_eq_some_iff.1 h2).1]
    exact h2
  have hh2 : (w1.alloc (.cells #[.int .i64 (rd l 13), .int .i64 (rd l 17), .int .i64 (rd l 21), .int .i64 (rd l 25)] 99)).heap[w1.heap.size]? = some (.cells #[.int .i64 (rd l 13), .int .i64 (rd l 17), .int .i64 (rd l 21), .int .i64 (rd l 25)] 99 (0, 0)) := heap_alloc_last w1 _
  generalize w1.alloc (.cells #[.int .i64 (rd l 13), .int .i64 (rd l 17), .int .i64 (rd l 21), .int .i64 (rd l 25)] 99) = w2 at *
  have x0 : w2.drew.cell? ⟨w1.heap.size, 0, none⟩ = some (.int .i64 (rd l 13)) := (cell_of_row w2 _ _ _ _ _ hh2).trans rfl
  have x1 : w2.drew.cell? ⟨w1.heap.size, 1, none⟩ = some (.int .i64 (rd l 17)) := (cell_of_row w2 _ _ _ _ _ hh2).trans rfl
  have x3 : w2.drew.cell? ⟨w1.heap.size, 3, none⟩ = some (.int .i64 (rd l 25)) := (cell_of_row w2 _ _ _ _ _ hh2).trans rfl
  have hh2' : w2.drew.heap[w1.heap.size]? = some (.cells #[.int .i64 (rd l 13), .int .i64 (rd l 17), .int .i64 (rd l 21), .int .i64 (rd l 25)] 99 (0, 0)) := hh2
  have hb2' : w2.drew.heap[w.heap.size]? = some (.cells (sec l) 93 (0, 0)) := hb2
  clear o1
  refine wp_region_flowR Lat [0, 1, 2, 1, 0, 0, 0, 1, 0, 0, 0, 0, 0, 1, 0, 0, 0, 0, 0, 1, 0, 1, 0, 0] (by kernel_rfl) (by kernel_rfl) Lat.refl Lat.trans ?_
  refine fr0 rfl (fun _ => rfl) ?_
  simp only [Act.put, List.setIfInBounds_toArray, List.set_cons_succ, List.set_cons_zero]
  refine fr1 (u := .agg #[.int .i64 (rd l 13), .int .i64 (rd l 17), .int .i64 (rd l 21), .int .i64 (rd l 25)]) rfl (fun x hx => run_load78 rfl rfl (hx.at hh2') rfl) ?_
  simp only [Act.put, List.setIfInBounds_toArray, List.set_cons_succ, List.set_cons_zero]
  refine fr2c rfl (run_enter1 Try.call59 rfl rfl) (bytes_any w2.drew (rd l 13) (rd l 17) (rd l 21) (rd l 25) ⟨b13.1, by omega⟩ ⟨b17.1, by omega⟩ ⟨b21.1, by omega⟩ ⟨b25.1, by omega⟩) ?_
  rintro e w3 ⟨q, rfl, hq, hqb, o3⟩
  rw [headA_sec] at hqb
  refine ⟨_, rfl, o3.lat, ?_⟩
  simp only [Act.put, List.setIfInBounds_toArray, List.set_cons_succ, List.set_cons_zero]
  refine fr1c (u := .bool true) rfl (fun x hx => does_equal hl (headLs_len _ _ _ _) hlb (headLs_bd _ _ _ _) HEQ.out (hx.at (o3.lat.at hb2')) (hx.at hqb) rfl rfl rfl) ?_
  simp only [Act.put, List.setIfInBounds_toArray, List.set_cons_succ, List.set_cons_zero]
  refine fr0 (u := .bool false) rfl (fun w => (run_not (v := true) rfl rfl w).trans rfl) ?_
  simp only [Act.put, List.setIfInBounds_toArray, List.set_cons_succ, List.set_cons_zero]
  refine fr0 (u := .bool false) rfl (fun _ => rfl) ?_
  simp only [Act.put, List.setIfInBounds_toArray, List.set_cons_succ, List.set_cons_zero]
  refine fr0 (by kernel_rfl) (run_field78 (by omega) rfl rfl) ?_
  simp only [Act.put, List.setIfInBounds_toArray, List.set_cons_succ, List.set_cons_zero]
  refine fr1 (u := .int .i64 (rd l 13)) (by kernel_rfl) (fun x hx => run_load1 rfl rfl (hx.cell (o3.lat.cell x0)) isAgg3) ?_
  simp only [Act.put, List.setIfInBounds_toArray, List.set_cons_succ, List.set_cons_zero]
  refine fr0 (by kernel_rfl) (fun _ => rfl) ?_
  simp only [Act.put, List.setIfInBounds_toArray, List.set_cons_succ, List.set_cons_zero]
  refine fr0 (u := .bool false) (by kernel_rfl) (fun w => (run_neq rfl rfl rfl w).trans (by rw [HAT.out])) ?_
  simp only [Act.put, List.setIfInBounds_toArray, List.set_cons_succ, List.set_cons_zero]
  refine fr0 (u := .bool false) rfl (fun _ => rfl) ?_
  simp only [Act.put, List.setIfInBounds_toArray, List.set_cons_succ, List.set_cons_zero]
  refine fr0 (u := .bool false) rfl (fun _ => rfl) ?_
  simp only [Act.put, List.setIfInBounds_toArray, List.set_cons_succ, List.set_cons_zero]
  refine fr0 (by kernel_rfl) (run_field78 (by omega) rfl rfl) ?_
  simp only [Act.put, List.setIfInBounds_toArray, List.set_cons_succ, List.set_cons_zero]
  refine fr1 (u := .int .i64 (rd l 17)) (by kernel_rfl) (fun x hx => run_load1 rfl rfl (hx.cell (o3.lat.cell x1)) isAgg3) ?_
  simp only [Act.put, List.setIfInBounds_toArray, List.set_cons_succ, List.set_cons_zero]
  refine fr0 (by kernel_rfl) (fun _ => rfl) ?_
  simp only [Act.put, List.setIfInBounds_toArray, List.set_cons_succ, List.set_cons_zero]
  refine fr0 (u := .bool false) (by kernel_rfl) (fun w => (run_neq rfl rfl rfl w).trans (by rw [HSZ.out])) ?_
  simp only [Act.put, List.setIfInBounds_toArray, List.set_cons_succ, List.set_cons_zero]
  refine fr0 (u := .bool false) rfl (fun _ => rfl) ?_
  simp only [Act.put, List.setIfInBounds_toArray, List.set_cons_succ, List.set_cons_zero]
  refine fr0 (u := .bool false) rfl (fun _ => rfl) ?_
  simp only [Act.put, List.setIfInBounds_toArray, List.set_cons_succ, List.set_cons_zero]
  refine fr0 (by kernel_rfl) (run_field78 (by omega) rfl rfl) ?_
  simp only [Act.put, List.setIfInBounds_toArray, List.set_cons_succ, List.set_cons_zero]
  refine fr1 (u := .int .i64 (rd l 25)) (by kernel_rfl) (fun x hx => run_load1 rfl rfl (hx.cell (o3.lat.cell x3)) isAgg3) ?_
  simp only [Act.put, List.setIfInBounds_toArray, List.set_cons_succ, List.set_cons_zero]
  refine fr0 (by kernel_rfl) (fun _ => rfl) ?_
  simp only [Act.put, List.setIfInBounds_toArray, List.set_cons_succ, List.set_cons_zero]
  refine fr1c (u := .int .i64 (roomF s)) (by kernel_rfl) (fun x hx => does_room hs1 rfl rfl) ?_
  simp only [Act.put, List.setIfInBounds_toArray, List.set_cons_succ, List.set_cons_zero]
  refine fr0 (u := .bool false) (by kernel_rfl) (fun w => (run_gtr rfl rfl rfl w).trans (by rw [decide_eq_false (Int.not_lt.2 HRM.out)])) ?_
  simp only [Act.put, List.setIfInBounds_toArray, List.set_cons_succ, List.set_cons_zero]
  refine fr0 (u := .bool false) rfl (fun _ => rfl) ?_
  simp only [Act.put, List.setIfInBounds_toArray, List.set_cons_succ, List.set_cons_zero]
  refine frnil ?_
  show Exit.then _ _ _ _ _
  have hO : Only [] w w3 := (o2.drew).trans o3 (by simp)
  have y2 : w3.cell? ⟨w1.heap.size, 2, none⟩ = some (.int .i64 (rd l 21)) := o3.lat.cell ((cell_of_row w2 _ _ _ _ _ hh2).trans rfl)
  have y3 : w3.cell? ⟨w1.heap.size, 3, none⟩ = some (.int .i64 (ps.length : Int)) := by rw [← HPZ.out]; exact o3.lat.cell x3
  have hsz3 : w1.heap.size < w3.heap.size := Nat.lt_of_lt_of_le (Array.getElem?_eq_some_iff.1 hh2').1 o3.size
  have hbx := heap_alloc_last w3 (.cells (wrow b a s (rd l 21)) 104)
  have oX : Only [] w (w3.alloc (.cells (wrow b a s (rd l 21)) 104)) := hO.alloc _
  have hwF : w3.heap.size ∉ F := fun hx => by have := dAt_lt H.out _ hx; have := hO.size; omega
  have RS := Lib.hid (resume_any (H.out.only oX (by simp)) hbx hwF KP.out.2.2.2 hyes.2.1 hyes.1 (by omega) KP.out.1 KP.out.2.1 KP.out.2.2.1 hne b21.1 (by omega) hst hpd)
  have KX := Lib.hid (And.intro oX (And.intro hwF hO.size))
  clear o2 o3 hb2 hb2' hh2 hh2' x0 x1 x3 hqb hbx oX hwF hO
  unfold wrow at RS
  have HZ2 := HZ.out
  go_wp2_with (go_at_call 61; refine RS.out.mono ?_; rintro e w4 ⟨rfl, hp4⟩)
  go_ret2
  obtain ⟨oX, hwF, hsz⟩ := KX.out
  exact OpenRPost.no (DPost.trans (oX.mono (by simp)) (fun x hx => .inl hx) hp4) HZ.out

end Go.Proofs.Ytoccnaebckcfmaa
