/- What Format does; what Open does where no group is in progress. -/
import Derived.Test.YtoccnaebckcfmaaW13
set_option linter.unusedSimpArgs false
set_option linter.unusedVariables false
set_option maxRecDepth 8000
namespace Go.Proofs.Ytoccnaebckcfmaa
open Go.RowKit

set_option maxHeartbeats 400000 in
theorem format_no {w : World} {b : Nat} {F : List Nat} {S : St} (h : DAt w b F S) (a s : Int) (h0 : -9223372036854775808 ≤ a) (h1 : a ≤ 9223372036854775807) (h2 : -9223372036854775808 ≤ s) (h3 : s ≤ 9223372036854775807) (hno : ¬ (3 ≤ s ∧ 0 ≤ a ∧ a ≤ S.n - s)) :
    Calls Try.prog 36 #[.pointer (some ⟨b, 0, none⟩), .int .i64 a, .int .i64 s] w fun e w' => e = .returned (.int .i64 1) ∧ w = w' := by
  have P := possible_any h a s h0 h1 h2 h3
  rw [decide_eq_false hno] at P
  have P2 := Lib.hid P
  clear P h hno
  go_enter Try.func36, Try.ntmps36
  go_wp2_with (go_at_call 56; refine P2.out.mono ?_; rintro e w' ⟨rfl, rfl⟩)
  go_ret
  exact ⟨rfl, rfl⟩

set_option maxHeartbeats 400000 in
theorem format_any {w : World} {b : Nat} {F : List Nat} {S : St} (h : DAt w b F S) (a s : Int) (h1 : a ≤ 9223372036854775807) (h3 : s ≤ 9223372036854775807) (hyes : 3 ≤ s ∧ 0 ≤ a ∧ a ≤ S.n - s) (hst : S.steps + 10 < 1000000000) (hpd : S.pend.length + 10 < 1000000000) :
    Calls Try.prog 36 #[.pointer (some ⟨b, 0, none⟩), .int .i64 a, .int .i64 s] w fun e w' => e = .returned (.int .i64 (S.writeAll [(a, headA a s 0 0)]).1) ∧ DPost w w' b F (S.writeAll [(a, headA a s 0 0)]).2 := by
  have P := possible_any h a s (by omega) h1 (by omega) h3
  rw [decide_eq_true hyes] at P
  have P2 := Lib.hid P
  have WH := Lib.hid (writeHead_any h a s 0 0 ⟨hyes.2.1, h1⟩ ⟨by omega, h3⟩ (by omega) (by omega) (by omega) (by omega))
  clear P h
  go_enter Try.func36, Try.ntmps36
  go_wp2_with (first | (go_at_call 56; refine P2.out.mono ?_; rintro e w' ⟨rfl, rfl⟩) | (go_at_call 66; refine WH.out.mono ?_; rintro e w' ⟨rfl, hpost⟩))
  go_ret
  exact ⟨rfl, hpost⟩

set_option maxHeartbeats 400000 in
theorem open_no {w : World} {b : Nat} {F : List Nat} {S : St} (h : DAt w b F S) (a s : Int) (h0 : -9223372036854775808 ≤ a) (h1 : a ≤ 9223372036854775807) (h2 : -9223372036854775808 ≤ s) (h3 : s ≤ 9223372036854775807) (hno : ¬ (3 ≤ s ∧ 0 ≤ a ∧ a ≤ S.n - s)) :
    Calls Try.prog 29 #[.pointer (some ⟨b, 0, none⟩), .int .i64 a, .int .i64 s] w fun e w' => e = .returned (.tuple #[.pointer none, .int .i64 1]) ∧ w = w' := by
  have P := possible_any h a s h0 h1 h2 h3
  rw [decide_eq_false hno] at P
  have P2 := Lib.hid P
  clear P h hno
  go_enter Try.func29, Try.ntmps29
  go_wp2_with (go_at_call 56; refine P2.out.mono ?_; rintro e w' ⟨rfl, rfl⟩)
  go_ret2
  exact ⟨rfl, rfl⟩

/-! Heads as lists of bytes. -/
def headLs (a s g p : Int) : List Int := (List.range 64).map (headF a s g p)
theorem headA_sec (a s g p : Int) : headA a s g p = sec (headLs a s g p) := sec_of _ 64 (headA_size a s g p) _ (headA_at a s g p)
theorem headLs_len (a s g p : Int) : (headLs a s g p).length = 64 := by simp [headLs]
theorem headLs_bd (a s g p : Int) : ∀ x ∈ headLs a s g p, 0 ≤ x ∧ x < 256 := fun x hx => by
  obtain ⟨j, _, rfl⟩ := List.mem_map.1 hx
  exact headF_bd a s g p j
def byt (l : List Int) (j : Nat) : Int := l.getD j 0
theorem byt_bd {l : List Int} (h : ∀ x ∈ l, 0 ≤ x ∧ x < 256) (j : Nat) : 0 ≤ byt l j ∧ byt l j < 256 := by
  unfold byt
  rw [List.getD_eq_getElem?_getD]
  cases hj : l[j]? with
  | none => simp
  | some x => exact h x (List.mem_of_getElem? hj)
theorem byt_head (a s g p : Int) (j : Nat) (h : j < 64) : byt (headLs a s g p) j = headF a s g p j := by
  simp [byt, headLs, List.getD_eq_getElem?_getD, h]
/-- What parseHead makes of bytes. -/
def rd (l : List Int) (o : Nat) : Int := ldF (fun j => byt l (o + j)) 4
theorem parsed_rd (l : List Int) : parsed (byt l) 4 = #[.int .i64 (rd l 13), .int .i64 (rd l 17), .int .i64 (rd l 21), .int .i64 (rd l 25)] := rfl
theorem ldF_congr {f f' : Nat → Int} (h : ∀ j, j < 4 → f j = f' j) : ldF f 4 = ldF f' 4 := by
  simp only [ldF, h 0 (by omega), h 1 (by omega), h 2 (by omega), h 3 (by omega)]
theorem rd_bd {l : List Int} (h : ∀ x ∈ l, 0 ≤ x ∧ x < 256) (o : Nat) : 0 ≤ rd l o ∧ rd l o < 4294967296 := by
  have h0 := byt_bd h (o + 0)
  have h1 := byt_bd h (o + 1)
  have h2 := byt_bd h (o + 2)
  have h3 := byt_bd h (o + 3)
  simp only [rd, ldF]
  omega
theorem rd_head {a s g p : Int} (ha : 0 ≤ a ∧ a < 4294967296) (hs : 0 ≤ s ∧ s < 4294967296) (hg : 0 ≤ g ∧ g < 4294967296) (hp : 0 ≤ p ∧ p < 4294967296) :
    rd (headLs a s g p) 13 = a ∧ rd (headLs a s g p) 17 = s ∧ rd (headLs a s g p) 21 = g ∧ rd (headLs a s g p) 25 = p := by
  refine ⟨?_, ?_, ?_, ?_⟩
  · refine Eq.trans (ldF_congr (f' := le a) fun j hj => ?_) (ldF_le4 ha.1 ha.2)
    rw [byt_head _ _ _ _ _ (by omega), headF, if_neg (by omega), if_neg (by omega), if_neg (by omega), if_pos (by omega), show 13 + j - 13 = j by omega]
  · refine Eq.trans (ldF_congr (f' := le s) fun j hj => ?_) (ldF_le4 hs.1 hs.2)
    rw [byt_head _ _ _ _ _ (by omega), headF, if_neg (by omega), if_neg (by omega), if_pos (by omega), show 17 + j - 17 = j by omega]
  · refine Eq.trans (ldF_congr (f' := le g) fun j hj => ?_) (ldF_le4 hg.1 hg.2)
    rw [byt_head _ _ _ _ _ (by omega), headF, if_neg (by omega), if_pos (by omega), show 21 + j - 21 = j by omega]
  · refine Eq.trans (ldF_congr (f' := le p) fun j hj => ?_) (ldF_le4 hp.1 hp.2)
    rw [byt_head _ _ _ _ _ (by omega), headF, if_pos (by omega), show 25 + j - 25 = j by omega]
theorem sec_zero : Z = sec (List.replicate 64 0) := by kernel_rfl
theorem head_ne_zero (a s g p : Int) : List.replicate 64 0 ≠ headLs a s g p := fun h => by
  have h1 : byt (List.replicate 64 0) 0 = byt (headLs a s g p) 0 := by rw [h]
  rw [byt_head _ _ _ _ _ (by omega)] at h1
  simp only [headF, if_neg (show ¬ (25 ≤ 0 ∧ 0 < 29) by omega), if_neg (show ¬ (21 ≤ 0 ∧ 0 < 25) by omega), if_neg (show ¬ (17 ≤ 0 ∧ 0 < 21) by omega), if_neg (show ¬ (13 ≤ 0 ∧ 0 < 17) by omega)] at h1
  revert h1
  decide

section
variable {o : Oper} {a : Act} {w : World}
theorem does_room {x : Operand} {n : Int} {t : TypeId} (hn : n ≤ 9223372036854775807) (ho : o.op = .call { callee := .value (.func 60), args := #[x], argTypes := #[t] }) (hx : a.eval x = .int .i64 n) : Does Try.prog o a w (.int .i64 (roomF n)) w :=
  .inr (.inr ⟨60, _, run_enter1 Try.call60 ho hx, (room_any n w hn).mono fun e w' h => ⟨h.1, h.2.symm⟩⟩)
theorem does_equal {x y : Operand} {g g' : Nat} {l l' : List Int} {t t' : TypeId} {ts : Array TypeId} {r : Bool} (hl : l.length = 64) (hl' : l'.length = 64) (h : ∀ x ∈ l, 0 ≤ x ∧ x < 256) (h' : ∀ x ∈ l', 0 ≤ x ∧ x < 256) (hr : decide (l = l') = r) (hb : w.heap[g]? = some (.cells (sec l) t (0, 0))) (hb' : w.heap[g']? = some (.cells (sec l') t' (0, 0)))
    (ho : o.op = .call { callee := .value (.func 58), args := #[x, y], argTypes := ts }) (hx : a.eval x = .slice (some ⟨g, 0, none⟩) 64 64) (hy : a.eval y = .slice (some ⟨g', 0, none⟩) 64 64) : Does Try.prog o a w (.bool r) w :=
  .inr (.inr ⟨58, _, run_enter2 Try.call58 ho hx hy, (equal_any hl hl' hb hb' h h').mono fun e w' h => ⟨by rw [h.1, hr], h.2.symm⟩⟩)
theorem run_not {x : Operand} {v : Bool} (ho : o.op = .unOp .not 4 x) (hx : a.eval x = .bool v) : ∀ w, (execOp a.eval o).run Try.prog w = .ok (.value (.bool (!v))) w := by
  intro w
  unfold execOp
  simp only [ho, hx]
  go_simp
end

/-- A log has been opened. -/
def OpenPost (b : Nat) (a s g : Int) (w : World) (e : Ending) (w' : World) : Prop := ∃ wb, e = .returned (.tuple #[.pointer (some ⟨wb, 0, none⟩), .int .i64 0]) ∧ w.heap.size ≤ wb ∧ WalAt w' wb b a s g ∧ Only [] w w'
theorem OpenPost.mk {b : Nat} {a s g : Int} {w w' : World} {wb : Nat} (h1 : w.heap.size ≤ wb) (h2 : WalAt w' wb b a s g) (ho : Only [] w w') : OpenPost b a s g w (.returned (.tuple #[.pointer (some ⟨wb, 0, none⟩), .int .i64 0])) w' := Exists.intro wb ⟨rfl, h1, h2, ho⟩

set_option maxHeartbeats 2000000 in
theorem open_other {w : World} {b : Nat} {F : List Nat} {S : St} {a s : Int} {l : List Int} (h : DAt w b F S) (hon : S.on = true) (ha1 : a ≤ 9223372036854775807) (hs1 : s ≤ 9223372036854775807) (hyes : 3 ≤ s ∧ 0 ≤ a ∧ a ≤ S.n - s) (hl : l.length = 64) (hlb : ∀ x ∈ l, 0 ≤ x ∧ x < 256) (hv : (S.now a).getD Z = sec l)
    (heq : decide (l = headLs (rd l 13) (rd l 17) (rd l 21) (rd l 25)) = false) :
    Calls Try.prog 29 #[.pointer (some ⟨b, 0, none⟩), .int .i64 a, .int .i64 s] w fun e w' => e = .returned (.tuple #[.pointer none, .int .i64 4]) ∧ Only [] w w' := by
  have n1 : S.n ≤ 8192 := by obtain ⟨_, _, _, h, _⟩ := h; exact h.ok.n1
  have hr : S.reach a = 0 := by rw [St.reach, if_neg (by simp [hon]), if_neg (by omega)]
  have P := possible_any h a s (by omega) ha1 (by omega) hs1
  rw [decide_eq_true hyes] at P
  have P2 := Lib.hid P
  have RD := Lib.hid (read_ok h a hr)
  rw [hv] at RD
  have H := Lib.hid h
  have hblk := heap_alloc_last w (.cells (sec l) 93)
  have PA := Lib.hid (parse_any (w.alloc (.cells (sec l) 93)) w.heap.size 64 (byt l) (fun j hj => by
    rw [cell_of_row _ _ _ _ _ _ hblk]
    exact sec_at _ _ _ (by rw [byt, List.getD_eq_getElem?_getD, List.getElem?_eq_getElem (by omega)]; rfl)) (by simp) (byt_bd hlb))
  rw [parsed_rd] at PA
  have b13 := rd_bd hlb 13
  have b17 := rd_bd hlb 17
  have b21 := rd_bd hlb 21
  have b25 := rd_bd hlb 25
  clear P h hv hblk
  have HEQ := Lib.hid heq
  clear heq
  go_enter Try.func29, Try.ntmps29
  go_wp2_with (first | (go_at_call 56; refine P2.out.mono ?_; rintro e w' ⟨rfl, rfl⟩) | (go_at_call 33; refine RD.out.mono ?_; rintro e w' ⟨rfl, rfl⟩) | (go_at_call 57; refine PA.out.mono ?_; rintro e w1 ⟨rfl, o1⟩))
  have o2 : Only [] w (w1.alloc (.cells #[.int .i64 (rd l 13), .int .i64 (rd l 17), .int .i64 (rd l 21), .int .i64 (rd l 25)] 99)) := (((Only.refl [] w).alloc _).trans o1 (by simp)).alloc _
  have hb2 : (w1.alloc (.cells #[.int .i64 (rd l 13), .int .i64 (rd l 17), .int .i64 (rd l 21), .int .i64 (rd l 25)] 99)).heap[w.heap.size]? = some (.cells (sec l) 93 (0, 0)) := by
    have h1 := heap_alloc_last w (.cells (sec l) 93)
    have h2 := (o1.block w.heap.size (by simp) (by simp)).trans h1
    rw [Below.heap_alloc _ _ _ (Array.getElem?_eq_some_iff.1 h2).1]
    exact h2
  have hh2 : (w1.alloc (.cells #[.int .i64 (rd l 13), .int .i64 (rd l 17), .int .i64 (rd l 21), .int .i64 (rd l 25)] 99)).heap[w1.heap.size]? = some (.cells #[.int .i64 (rd l 13), .int .i64 (rd l 17), .int .i64 (rd l 21), .int .i64 (rd l 25)] 99 (0, 0)) := heap_alloc_last w1 _
  generalize w1.alloc (.cells #[.int .i64 (rd l 13), .int .i64 (rd l 17), .int .i64 (rd l 21), .int .i64 (rd l 25)] 99) = w2 at *
  have x0 : w2.drew.cell? ⟨w1.heap.size, 0, none⟩ = some (.int .i64 (rd l 13)) := (cell_of_row w2 _ _ _ _ _ hh2).trans rfl
  have x1 : w2.drew.cell? ⟨w1.heap.size, 1, none⟩ = some (.int .i64 (rd l 17)) := (cell_of_row w2 _ _ _ _ _ hh2).trans rfl
  have x3 : w2.drew.cell? ⟨w1.heap.size, 3, none⟩ = some (.int .i64 (rd l 25)) := (cell_of_row w2 _ _ _ _ _ hh2).trans rfl
  have hh2' : w2.drew.heap[w1.heap.size]? = some (.cells #[.int .i64 (rd l 13), .int .i64 (rd l 17), .int .i64 (rd l 21), .int .i64 (rd l 25)] 99 (0, 0)) := hh2
  have hb2' : w2.drew.heap[w.heap.size]? = some (.cells (sec l) 93 (0, 0)) := hb2
  clear o1
  refine wp_region_flowR Lat [0, 1, 2, 1, 0, 0, 0, 1, 0, 0, 0, 0, 0, 1, 0, 0, 0, 0, 0, 1, 0, 1, 0, 0] (by kernel_rfl) (by kernel_rfl) Lat.refl Lat.trans ?_
  refine fr0 rfl (fun _ => rfl) ?_
  simp only [Act.put, List.setIfInBounds_toArray, List.set_cons_succ, List.set_cons_zero]
  refine fr1 (u := .agg #[.int .i64 (rd l 13), .int .i64 (rd l 17), .int .i64 (rd l 21), .int .i64 (rd l 25)]) rfl (fun x hx => run_load78 rfl rfl (hx.at hh2') rfl) ?_
  simp only [Act.put, List.setIfInBounds_toArray, List.set_cons_succ, List.set_cons_zero]
  refine fr2c rfl (run_enter1 Try.call59 rfl rfl) (bytes_any w2.drew (rd l 13) (rd l 17) (rd l 21) (rd l 25) ⟨b13.1, by omega⟩ ⟨b17.1, by omega⟩ ⟨b21.1, by omega⟩ ⟨b25.1, by omega⟩) ?_
  rintro e w3 ⟨q, rfl, hq, hqb, o3⟩
  rw [headA_sec] at hqb
  refine ⟨_, rfl, o3.lat, ?_⟩
  simp only [Act.put, List.setIfInBounds_toArray, List.set_cons_succ, List.set_cons_zero]
  refine fr1c (u := .bool false) rfl (fun x hx => does_equal hl (headLs_len _ _ _ _) hlb (headLs_bd _ _ _ _) HEQ.out (hx.at (o3.lat.at hb2')) (hx.at hqb) rfl rfl rfl) ?_
  simp only [Act.put, List.setIfInBounds_toArray, List.set_cons_succ, List.set_cons_zero]
  refine fr0 (u := .bool true) rfl (fun w => (run_not (v := false) rfl rfl w).trans rfl) ?_
  simp only [Act.put, List.setIfInBounds_toArray, List.set_cons_succ, List.set_cons_zero]
  refine fr0 (u := .bool true) rfl (fun _ => rfl) ?_
  simp only [Act.put, List.setIfInBounds_toArray, List.set_cons_succ, List.set_cons_zero]
  refine frx (by kernel_rfl) ?_
  simp only [Act.put, List.setIfInBounds_toArray, List.set_cons_succ, List.set_cons_zero]
  refine frx (by kernel_rfl) ?_
  simp only [Act.put, List.setIfInBounds_toArray, List.set_cons_succ, List.set_cons_zero]
  refine frx (by kernel_rfl) ?_
  simp only [Act.put, List.setIfInBounds_toArray, List.set_cons_succ, List.set_cons_zero]
  refine frx (by kernel_rfl) ?_
  simp only [Act.put, List.setIfInBounds_toArray, List.set_cons_succ, List.set_cons_zero]
  refine fr0 (u := .bool true) rfl (fun _ => rfl) ?_
  simp only [Act.put, List.setIfInBounds_toArray, List.set_cons_succ, List.set_cons_zero]
  refine fr0 (u := .bool true) rfl (fun _ => rfl) ?_
  simp only [Act.put, List.setIfInBounds_toArray, List.set_cons_succ, List.set_cons_zero]
  refine frx (by kernel_rfl) ?_
  simp only [Act.put, List.setIfInBounds_toArray, List.set_cons_succ, List.set_cons_zero]
  refine frx (by kernel_rfl) ?_
  simp only [Act.put, List.setIfInBounds_toArray, List.set_cons_succ, List.set_cons_zero]
  refine frx (by kernel_rfl) ?_
  simp only [Act.put, List.setIfInBounds_toArray, List.set_cons_succ, List.set_cons_zero]
  refine frx (by kernel_rfl) ?_
  simp only [Act.put, List.setIfInBounds_toArray, List.set_cons_succ, List.set_cons_zero]
  refine fr0 (u := .bool true) rfl (fun _ => rfl) ?_
  simp only [Act.put, List.setIfInBounds_toArray, List.set_cons_succ, List.set_cons_zero]
  refine fr0 (u := .bool true) rfl (fun _ => rfl) ?_
  simp only [Act.put, List.setIfInBounds_toArray, List.set_cons_succ, List.set_cons_zero]
  refine frx (by kernel_rfl) ?_
  simp only [Act.put, List.setIfInBounds_toArray, List.set_cons_succ, List.set_cons_zero]
  refine frx (by kernel_rfl) ?_
  simp only [Act.put, List.setIfInBounds_toArray, List.set_cons_succ, List.set_cons_zero]
  refine frx (by kernel_rfl) ?_
  simp only [Act.put, List.setIfInBounds_toArray, List.set_cons_succ, List.set_cons_zero]
  refine frx (by kernel_rfl) ?_
  simp only [Act.put, List.setIfInBounds_toArray, List.set_cons_succ, List.set_cons_zero]
  refine frx (by kernel_rfl) ?_
  simp only [Act.put, List.setIfInBounds_toArray, List.set_cons_succ, List.set_cons_zero]
  refine fr0 (u := .bool true) rfl (fun _ => rfl) ?_
  simp only [Act.put, List.setIfInBounds_toArray, List.set_cons_succ, List.set_cons_zero]
  refine frnil ?_
  show Exit.then _ _ _ _ _
  have O := Lib.hid ((o2.drew).trans o3 (by simp))
  clear o2 o3 hb2 hb2' hh2 hh2' x0 x1 x3 hqb
  go_wp2
  go_ret2
  exact ⟨rfl, O.out⟩

set_option maxHeartbeats 2000000 in
theorem open_size {w : World} {b : Nat} {F : List Nat} {S : St} {a s : Int} {l : List Int} (h : DAt w b F S) (hon : S.on = true) (ha1 : a ≤ 9223372036854775807) (hs1 : s ≤ 9223372036854775807) (hyes : 3 ≤ s ∧ 0 ≤ a ∧ a ≤ S.n - s) (hl : l.length = 64) (hlb : ∀ x ∈ l, 0 ≤ x ∧ x < 256) (hv : (S.now a).getD Z = sec l)
    (heq : decide (l = headLs (rd l 13) (rd l 17) (rd l 21) (rd l 25)) = true) (hat : (rd l 13 != a) = false) (hsz : (rd l 17 != s) = true) :
    Calls Try.prog 29 #[.pointer (some ⟨b, 0, none⟩), .int .i64 a, .int .i64 s] w fun e w' => e = .returned (.tuple #[.pointer none, .int .i64 4]) ∧ Only [] w w' := by
  have n1 : S.n ≤ 8192 := by obtain ⟨_, _, _, h, _⟩ := h; exact h.ok.n1
  have hr : S.reach a = 0 := by rw [St.reach, if_neg (by simp [hon]), if_neg (by omega)]
  have P := possible_any h a s (by omega) ha1 (by omega) hs1
  rw [decide_eq_true hyes] at P
  have P2 := Lib.hid P
  have RD := Lib.hid (read_ok h a hr)
  rw [hv] at RD
  have H := Lib.hid h
  have hblk := heap_alloc_last w (.cells (sec l) 93)
  have PA := Lib.hid (parse_any (w.alloc (.cells (sec l) 93)) w.heap.size 64 (byt l) (fun j hj => by
    rw [cell_of_row _ _ _ _ _ _ hblk]
    exact sec_at _ _ _ (by rw [byt, List.getD_eq_getElem?_getD, List.getElem?_eq_getElem (by omega)]; rfl)) (by simp) (byt_bd hlb))
  rw [parsed_rd] at PA
  have b13 := rd_bd hlb 13
  have b17 := rd_bd hlb 17
  have b21 := rd_bd hlb 21
  have b25 := rd_bd hlb 25
  clear P h hv hblk
  have HEQ := Lib.hid heq
  have HAT := Lib.hid hat
  have HSZ := Lib.hid hsz
  clear heq hat hsz
  go_enter Try.func29, Try.ntmps29
  go_wp2_with (first | (go_at_call 56; refine P2.out.mono ?_; rintro e w' ⟨rfl, rfl⟩) | (go_at_call 33; refine RD.out.mono ?_; rintro e w' ⟨rfl, rfl⟩) | (go_at_call 57; refine PA.out.mono ?_; rintro e w1 ⟨rfl, o1⟩))
  have o2 : Only [] w (w1.alloc (.cells #[.int .i64 (rd l 13), .int .i64 (rd l 17), .int .i64 (rd l 21), .int .i64 (rd l 25)] 99)) := (((Only.refl [] w).alloc _).trans o1 (by simp)).alloc _
  have hb2 : (w1.alloc (.cells #[.int .i64 (rd l 13), .int .i64 (rd l 17), .int .i64 (rd l 21), .int .i64 (rd l 25)] 99)).heap[w.heap.size]? = some (.cells (sec l) 93 (0, 0)) := by
    have h1 := heap_alloc_last w (.cells (sec l) 93)
    have h2 := (o1.block w.heap.size (by simp) (by simp)).trans h1
    rw [Below.heap_alloc _ _ _ (Array.getElem?_eq_some_iff.1 h2).1]
    exact h2
  have hh2 : (w1.alloc (.cells #[.int .i64 (rd l 13), .int .i64 (rd l 17), .int .i64 (rd l 21), .int .i64 (rd l 25)] 99)).heap[w1.heap.size]? = some (.cells #[.int .i64 (rd l 13), .int .i64 (rd l 17), .int .i64 (rd l 21), .int .i64 (rd l 25)] 99 (0, 0)) := heap_alloc_last w1 _
  generalize w1.alloc (.cells #[.int .i64 (rd l 13), .int .i64 (rd l 17), .int .i64 (rd l 21), .int .i64 (rd l 25)] 99) = w2 at *
  have x0 : w2.drew.cell? ⟨w1.heap.size, 0, none⟩ = some (.int .i64 (rd l 13)) := (cell_of_row w2 _ _ _ _ _ hh2).trans rfl
  have x1 : w2.drew.cell? ⟨w1.heap.size, 1, none⟩ = some (.int .i64 (rd l 17)) := (cell_of_row w2 _ _ _ _ _ hh2).trans rfl
  have x3 : w2.drew.cell? ⟨w1.heap.size, 3, none⟩ = some (.int .i64 (rd l 25)) := (cell_of_row w2 _ _ _ _ _ hh2).trans rfl
  have hh2' : w2.drew.heap[w1.heap.size]? = some (.cells #[.int .i64 (rd l 13), .int .i64 (rd l 17), .int .i64 (rd l 21), .int .i64 (rd l 25)] 99 (0, 0)) := hh2
  have hb2' : w2.drew.heap[w.heap.size]? = some (.cells (sec l) 93 (0, 0)) := hb2
  clear o1
  refine wp_region_flowR Lat [0, 1, 2, 1, 0, 0, 0, 1, 0, 0, 0, 0, 0, 1, 0, 0, 0, 0, 0, 1, 0, 1, 0, 0] (by kernel_rfl) (by kernel_rfl) Lat.refl Lat.trans ?_
  refine fr0 rfl (fun _ => rfl) ?_
  simp only [Act.put, List.setIfInBounds_toArray, List.set_cons_succ, List.set_cons_zero]
  refine fr1 (u := .agg #[.int .i64 (rd l 13), .int .i64 (rd l 17), .int .i64 (rd l 21), .int .i64 (rd l 25)]) rfl (fun x hx => run_load78 rfl rfl (hx.at hh2') rfl) ?_
  simp only [Act.put, List.setIfInBounds_toArray, List.set_cons_succ, List.set_cons_zero]
  refine fr2c rfl (run_enter1 Try.call59 rfl rfl) (bytes_any w2.drew (rd l 13) (rd l 17) (rd l 21) (rd l 25) ⟨b13.1, by omega⟩ ⟨b17.1, by omega⟩ ⟨b21.1, by omega⟩ ⟨b25.1, by omega⟩) ?_
  rintro e w3 ⟨q, rfl, hq, hqb, o3⟩
  rw [headA_sec] at hqb
  refine ⟨_, rfl, o3.lat, ?_⟩
  simp only [Act.put, List.setIfInBounds_toArray, List.set_cons_succ, List.set_cons_zero]
  refine fr1c (u := .bool true) rfl (fun x hx => does_equal hl (headLs_len _ _ _ _) hlb (headLs_bd _ _ _ _) HEQ.out (hx.at (o3.lat.at hb2')) (hx.at hqb) rfl rfl rfl) ?_
  simp only [Act.put, List.setIfInBounds_toArray, List.set_cons_succ, List.set_cons_zero]
  refine fr0 (u := .bool false) rfl (fun w => (run_not (v := true) rfl rfl w).trans rfl) ?_
  simp only [Act.put, List.setIfInBounds_toArray, List.set_cons_succ, List.set_cons_zero]
  refine fr0 (u := .bool false) rfl (fun _ => rfl) ?_
  simp only [Act.put, List.setIfInBounds_toArray, List.set_cons_succ, List.set_cons_zero]
  refine fr0 (by kernel_rfl) (run_field78 (by omega) rfl rfl) ?_
  simp only [Act.put, List.setIfInBounds_toArray, List.set_cons_succ, List.set_cons_zero]
  refine fr1 (u := .int .i64 (rd l 13)) (by kernel_rfl) (fun x hx => run_load1 rfl rfl (hx.cell (o3.lat.cell x0)) isAgg3) ?_
  simp only [Act.put, List.setIfInBounds_toArray, List.set_cons_succ, List.set_cons_zero]
  refine fr0 (by kernel_rfl) (fun _ => rfl) ?_
  simp only [Act.put, List.setIfInBounds_toArray, List.set_cons_succ, List.set_cons_zero]
  refine fr0 (u := .bool false) (by kernel_rfl) (fun w => (run_neq rfl rfl rfl w).trans (by rw [HAT.out])) ?_
  simp only [Act.put, List.setIfInBounds_toArray, List.set_cons_succ, List.set_cons_zero]
  refine fr0 (u := .bool false) rfl (fun _ => rfl) ?_
  simp only [Act.put, List.setIfInBounds_toArray, List.set_cons_succ, List.set_cons_zero]
  refine fr0 (u := .bool false) rfl (fun _ => rfl) ?_
  simp only [Act.put, List.setIfInBounds_toArray, List.set_cons_succ, List.set_cons_zero]
  refine fr0 (by kernel_rfl) (run_field78 (by omega) rfl rfl) ?_
  simp only [Act.put, List.setIfInBounds_toArray, List.set_cons_succ, List.set_cons_zero]
  refine fr1 (u := .int .i64 (rd l 17)) (by kernel_rfl) (fun x hx => run_load1 rfl rfl (hx.cell (o3.lat.cell x1)) isAgg3) ?_
  simp only [Act.put, List.setIfInBounds_toArray, List.set_cons_succ, List.set_cons_zero]
  refine fr0 (by kernel_rfl) (fun _ => rfl) ?_
  simp only [Act.put, List.setIfInBounds_toArray, List.set_cons_succ, List.set_cons_zero]
  refine fr0 (u := .bool true) (by kernel_rfl) (fun w => (run_neq rfl rfl rfl w).trans (by rw [HSZ.out])) ?_
  simp only [Act.put, List.setIfInBounds_toArray, List.set_cons_succ, List.set_cons_zero]
  refine fr0 (u := .bool true) rfl (fun _ => rfl) ?_
  simp only [Act.put, List.setIfInBounds_toArray, List.set_cons_succ, List.set_cons_zero]
  refine fr0 (u := .bool true) rfl (fun _ => rfl) ?_
  simp only [Act.put, List.setIfInBounds_toArray, List.set_cons_succ, List.set_cons_zero]
  refine frx (by kernel_rfl) ?_
  simp only [Act.put, List.setIfInBounds_toArray, List.set_cons_succ, List.set_cons_zero]
  refine frx (by kernel_rfl) ?_
  simp only [Act.put, List.setIfInBounds_toArray, List.set_cons_succ, List.set_cons_zero]
  refine frx (by kernel_rfl) ?_
  simp only [Act.put, List.setIfInBounds_toArray, List.set_cons_succ, List.set_cons_zero]
  refine frx (by kernel_rfl) ?_
  simp only [Act.put, List.setIfInBounds_toArray, List.set_cons_succ, List.set_cons_zero]
  refine frx (by kernel_rfl) ?_
  simp only [Act.put, List.setIfInBounds_toArray, List.set_cons_succ, List.set_cons_zero]
  refine fr0 (u := .bool true) rfl (fun _ => rfl) ?_
  simp only [Act.put, List.setIfInBounds_toArray, List.set_cons_succ, List.set_cons_zero]
  refine frnil ?_
  show Exit.then _ _ _ _ _
  have O := Lib.hid ((o2.drew).trans o3 (by simp))
  clear o2 o3 hb2 hb2' hh2 hh2' x0 x1 x3 hqb
  go_wp2
  go_ret2
  exact ⟨rfl, O.out⟩

set_option maxHeartbeats 2000000 in
theorem open_quiet {w : World} {b : Nat} {F : List Nat} {S : St} {a s : Int} {l : List Int} (h : DAt w b F S) (hon : S.on = true) (ha1 : a ≤ 9223372036854775807) (hs1 : s ≤ 9223372036854775807) (hyes : 3 ≤ s ∧ 0 ≤ a ∧ a ≤ S.n - s) (hl : l.length = 64) (hlb : ∀ x ∈ l, 0 ≤ x ∧ x < 256) (hv : (S.now a).getD Z = sec l)
    (heq : decide (l = headLs (rd l 13) (rd l 17) (rd l 21) (rd l 25)) = true) (hat : (rd l 13 != a) = false) (hsz : (rd l 17 != s) = false) (hpz : rd l 25 = 0) (hrm : rd l 25 ≤ roomF s) :
    Calls Try.prog 29 #[.pointer (some ⟨b, 0, none⟩), .int .i64 a, .int .i64 s] w fun e w' => OpenPost b a s (rd l 21) w e w' := by
  have n1 : S.n ≤ 8192 := by obtain ⟨_, _, _, h, _⟩ := h; exact h.ok.n1
  have hr : S.reach a = 0 := by rw [St.reach, if_neg (by simp [hon]), if_neg (by omega)]
  have P := possible_any h a s (by omega) ha1 (by omega) hs1
  rw [decide_eq_true hyes] at P
  have P2 := Lib.hid P
  have RD := Lib.hid (read_ok h a hr)
  rw [hv] at RD
  have H := Lib.hid h
  have hblk := heap_alloc_last w (.cells (sec l) 93)
  have PA := Lib.hid (parse_any (w.alloc (.cells (sec l) 93)) w.heap.size 64 (byt l) (fun j hj => by
    rw [cell_of_row _ _ _ _ _ _ hblk]
    exact sec_at _ _ _ (by rw [byt, List.getD_eq_getElem?_getD, List.getElem?_eq_getElem (by omega)]; rfl)) (by simp) (byt_bd hlb))
  rw [parsed_rd] at PA
  have b13 := rd_bd hlb 13
  have b17 := rd_bd hlb 17
  have b21 := rd_bd hlb 21
  have b25 := rd_bd hlb 25
  clear P h hv hblk
  have HEQ := Lib.hid heq
  have HAT := Lib.hid hat
  have HSZ := Lib.hid hsz
  have HPZ := Lib.hid hpz
  have HRM := Lib.hid hrm
  clear heq hat hsz hpz hrm
  go_enter Try.func29, Try.ntmps29
  go_wp2_with (first | (go_at_call 56; refine P2.out.mono ?_; rintro e w' ⟨rfl, rfl⟩) | (go_at_call 33; refine RD.out.mono ?_; rintro e w' ⟨rfl, rfl⟩) | (go_at_call 57; refine PA.out.mono ?_; rintro e w1 ⟨rfl, o1⟩))
  have o2 : Only [] w (w1.alloc (.cells #[.int .i64 (rd l 13), .int .i64 (rd l 17), .int .i64 (rd l 21), .int .i64 (rd l 25)] 99)) := (((Only.refl [] w).alloc _).trans o1 (by simp)).alloc _
  have hb2 : (w1.alloc (.cells #[.int .i64 (rd l 13), .int .i64 (rd l 17), .int .i64 (rd l 21), .int .i64 (rd l 25)] 99)).heap[w.heap.size]? = some (.cells (sec l) 93 (0, 0)) := by
    have h1 := heap_alloc_last w (.cells (sec l) 93)
    have h2 := (o1.block w.heap.size (by simp) (by simp)).trans h1
    rw [Below.heap_alloc _ _ _ (Array.getElem?_eq_some_iff.1 h2).1]
    exact h2
  have hh2 : (w1.alloc (.cells #[.int .i64 (rd l 13), .int .i64 (rd l 17), .int .i64 (rd l 21), .int .i64 (rd l 25)] 99)).heap[w1.heap.size]? = some (.cells #[.int .i64 (rd l 13), .int .i64 (rd l 17), .int .i64 (rd l 21), .int .i64 (rd l 25)] 99 (0, 0)) := heap_alloc_last w1 _
  generalize w1.alloc (.cells #[.int .i64 (rd l 13), .int .i64 (rd l 17), .int .i64 (rd l 21), .int .i64 (rd l 25)] 99) = w2 at *
  have x0 : w2.drew.cell? ⟨w1.heap.size, 0, none⟩ = some (.int .i64 (rd l 13)) := (cell_of_row w2 _ _ _ _ _ hh2).trans rfl
  have x1 : w2.drew.cell? ⟨w1.heap.size, 1, none⟩ = some (.int .i64 (rd l 17)) := (cell_of_row w2 _ _ _ _ _ hh2).trans rfl
  have x3 : w2.drew.cell? ⟨w1.heap.size, 3, none⟩ = some (.int .i64 (rd l 25)) := (cell_of_row w2 _ _ _ _ _ hh2).trans rfl
  have hh2' : w2.drew.heap[w1.heap.size]? = some (.cells #[.int .i64 (rd l 13), .int .i64 (rd l 17), .int .i64 (rd l 21), .int .i64 (rd l 25)] 99 (0, 0)) := hh2
  have hb2' : w2.drew.heap[w.heap.size]? = some (.cells (sec l) 93 (0, 0)) := hb2
  clear o1
  refine wp_region_flowR Lat [0, 1, 2, 1, 0, 0, 0, 1, 0, 0, 0, 0, 0, 1, 0, 0, 0, 0, 0, 1, 0, 1, 0, 0] (by kernel_rfl) (by kernel_rfl) Lat.refl Lat.trans ?_
  refine fr0 rfl (fun _ => rfl) ?_
  simp only [Act.put, List.setIfInBounds_toArray, List.set_cons_succ, List.set_cons_zero]
  refine fr1 (u := .agg #[.int .i64 (rd l 13), .int .i64 (rd l 17), .int .i64 (rd l 21), .int .i64 (rd l 25)]) rfl (fun x hx => run_load78 rfl rfl (hx.at hh2') rfl) ?_
  simp only [Act.put, List.setIfInBounds_toArray, List.set_cons_succ, List.set_cons_zero]
  refine fr2c rfl (run_enter1 Try.call59 rfl rfl) (bytes_any w2.drew (rd l 13) (rd l 17) (rd l 21) (rd l 25) ⟨b13.1, by omega⟩ ⟨b17.1, by omega⟩ ⟨b21.1, by omega⟩ ⟨b25.1, by omega⟩) ?_
  rintro e w3 ⟨q, rfl, hq, hqb, o3⟩
  rw [headA_sec] at hqb
  refine ⟨_, rfl, o3.lat, ?_⟩
  simp only [Act.put, List.setIfInBounds_toArray, List.set_cons_succ, List.set_cons_zero]
  refine fr1c (u := .bool true) rfl (fun x hx => does_equal hl (headLs_len _ _ _ _) hlb (headLs_bd _ _ _ _) HEQ.out (hx.at (o3.lat.at hb2')) (hx.at hqb) rfl rfl rfl) ?_
  simp only [Act.put, List.setIfInBounds_toArray, List.set_cons_succ, List.set_cons_zero]
  refine fr0 (u := .bool false) rfl (fun w => (run_not (v := true) rfl rfl w).trans rfl) ?_
  simp only [Act.put, List.setIfInBounds_toArray, List.set_cons_succ, List.set_cons_zero]
  refine fr0 (u := .bool false) rfl (fun _ => rfl) ?_
  simp only [Act.put, List.setIfInBounds_toArray, List.set_cons_succ, List.set_cons_zero]
  refine fr0 (by kernel_rfl) (run_field78 (by omega) rfl rfl) ?_
  simp only [Act.put, List.setIfInBounds_toArray, List.set_cons_succ, List.set_cons_zero]
  refine fr1 (u := .int .i64 (rd l 13)) (by kernel_rfl) (fun x hx => run_load1 rfl rfl (hx.cell (o3.lat.cell x0)) isAgg3) ?_
  simp only [Act.put, List.setIfInBounds_toArray, List.set_cons_succ, List.set_cons_zero]
  refine fr0 (by kernel_rfl) (fun _ => rfl) ?_
  simp only [Act.put, List.setIfInBounds_toArray, List.set_cons_succ, List.set_cons_zero]
  refine fr0 (u := .bool false) (by kernel_rfl) (fun w => (run_neq rfl rfl rfl w).trans (by rw [HAT.out])) ?_
  simp only [Act.put, List.setIfInBounds_toArray, List.set_cons_succ, List.set_cons_zero]
  refine fr0 (u := .bool false) rfl (fun _ => rfl) ?_
  simp only [Act.put, List.setIfInBounds_toArray, List.set_cons_succ, List.set_cons_zero]
  refine fr0 (u := .bool false) rfl (fun _ => rfl) ?_
  simp only [Act.put, List.setIfInBounds_toArray, List.set_cons_succ, List.set_cons_zero]
  refine fr0 (by kernel_rfl) (run_field78 (by omega) rfl rfl) ?_
  simp only [Act.put, List.setIfInBounds_toArray, List.set_cons_succ, List.set_cons_zero]
  refine fr1 (u := .int .i64 (rd l 17)) (by kernel_rfl) (fun x hx => run_load1 rfl rfl (hx.cell (o3.lat.cell x1)) isAgg3) ?_
  simp only [Act.put, List.setIfInBounds_toArray, List.set_cons_succ, List.set_cons_zero]
  refine fr0 (by kernel_rfl) (fun _ => rfl) ?_
  simp only [Act.put, List.setIfInBounds_toArray, List.set_cons_succ, List.set_cons_zero]
  refine fr0 (u := .bool false) (by kernel_rfl) (fun w => (run_neq rfl rfl rfl w).trans (by rw [HSZ.out])) ?_
  simp only [Act.put, List.setIfInBounds_toArray, List.set_cons_succ, List.set_cons_zero]
  refine fr0 (u := .bool false) rfl (fun _ => rfl) ?_
  simp only [Act.put, List.setIfInBounds_toArray, List.set_cons_succ, List.set_cons_zero]
  refine fr0 (u := .bool false) rfl (fun _ => rfl) ?_
  simp only [Act.put, List.setIfInBounds_toArray, List.set_cons_succ, List.set_cons_zero]
  refine fr0 (by kernel_rfl) (run_field78 (by omega) rfl rfl) ?_
  simp only [Act.put, List.setIfInBounds_toArray, List.set_cons_succ, List.set_cons_zero]
  refine fr1 (u := .int .i64 (rd l 25)) (by kernel_rfl) (fun x hx => run_load1 rfl rfl (hx.cell (o3.lat.cell x3)) isAgg3) ?_
  simp only [Act.put, List.setIfInBounds_toArray, List.set_cons_succ, List.set_cons_zero]
  refine fr0 (by kernel_rfl) (fun _ => rfl) ?_
  simp only [Act.put, List.setIfInBounds_toArray, List.set_cons_succ, List.set_cons_zero]
  refine fr1c (u := .int .i64 (roomF s)) (by kernel_rfl) (fun x hx => does_room hs1 rfl rfl) ?_
  simp only [Act.put, List.setIfInBounds_toArray, List.set_cons_succ, List.set_cons_zero]
  refine fr0 (u := .bool false) (by kernel_rfl) (fun w => (run_gtr rfl rfl rfl w).trans (by rw [decide_eq_false (Int.not_lt.2 HRM.out)])) ?_
  simp only [Act.put, List.setIfInBounds_toArray, List.set_cons_succ, List.set_cons_zero]
  refine fr0 (u := .bool false) rfl (fun _ => rfl) ?_
  simp only [Act.put, List.setIfInBounds_toArray, List.set_cons_succ, List.set_cons_zero]
  refine frnil ?_
  show Exit.then _ _ _ _ _
  have O := Lib.hid ((o2.drew).trans o3 (by simp))
  have y2 : w3.cell? ⟨w1.heap.size, 2, none⟩ = some (.int .i64 (rd l 21)) := o3.lat.cell ((cell_of_row w2 _ _ _ _ _ hh2).trans rfl)
  have y3 : w3.cell? ⟨w1.heap.size, 3, none⟩ = some (.int .i64 0) := by rw [← HPZ.out]; exact o3.lat.cell x3
  have hsz3 : w1.heap.size < w3.heap.size := Nat.lt_of_lt_of_le (Array.getElem?_eq_some_iff.1 hh2').1 o3.size
  clear o2 o3 hb2 hb2' hh2 hh2' x0 x1 x3 hqb
  go_wp2
  go_ret2
  exact OpenPost.mk (Nat.le_trans O.out.size (Nat.le_refl _)) (heap_alloc_last w3 _) (O.out.alloc _)


end Go.Proofs.Ytoccnaebckcfmaa
