/- The document's examples come out as it says. -/
import Derived.Test.YtfkpehefofihmaaW16
set_option linter.unusedSimpArgs false
set_option linter.unusedVariables false
set_option maxRecDepth 8000
namespace Go.Proofs.Ytfkpehefofihmaa
open Go.RowKit

section
variable {o : Oper} {a : Act} {w : World}
theorem run_eql36 {x y : Operand} {i j : Int} (ho : o.op = .binOp .eql 36 x y 36) (hx : a.eval x = .int .i64 i) (hy : a.eval y = .int .i64 j) : ∀ w, (execOp a.eval o).run Try.prog w = .ok (.value (.bool (i == j))) w := by
  intro w
  unfold execOp
  simp only [ho, hx, hy]
  go_simp
theorem run_eql3 {x y : Operand} {i j : Int} (ho : o.op = .binOp .eql 3 x y 3) (hx : a.eval x = .int .i64 i) (hy : a.eval y = .int .i64 j) : ∀ w, (execOp a.eval o).run Try.prog w = .ok (.value (.bool (i == j))) w := by
  intro w
  unfold execOp
  simp only [ho, hx, hy]
  go_simp
theorem run_eqlS {x y : Operand} {s t : ByteArray} (ho : o.op = .binOp .eql 9 x y 9) (hx : a.eval x = .string s) (hy : a.eval y = .string t) : ∀ w, (execOp a.eval o).run Try.prog w = .ok (.value (.bool (s.toList == t.toList))) w := by
  intro w
  unfold execOp
  simp only [ho, hx, hy]
  go_simp
theorem does_groups {x : Operand} {wb b : Nat} {a' s g : Int} {t : TypeId} (hw : WalAt w wb b a' s g) (ho : o.op = .call { callee := .value (.func 21), args := #[x], argTypes := #[t] }) (hx : a.eval x = .pointer (some ⟨wb, 0, none⟩)) (hc : Calls Try.prog 21 #[.pointer (some ⟨wb, 0, none⟩)] w fun e w' => e = .returned (.int .i64 g) ∧ w = w') : Does Try.prog o a w (.int .i64 g) w :=
  .inr (.inr ⟨21, _, run_enter1 Try.call21 ho hx, hc.mono fun e w' h => ⟨h.1, h.2.symm⟩⟩)
theorem does_full {x y : Operand} {c l : Int} {ts : Array TypeId} (ho : o.op = .call { callee := .value (.func 25), args := #[x, y], argTypes := ts }) (hx : a.eval x = .int .u8 c) (hy : a.eval y = .int .u8 l) : Does Try.prog o a w (.slice (some ⟨w.heap.size, 0, none⟩) 64 64) (w.alloc (.cells (fullB c l) 5)) :=
  .inr (.inr ⟨25, _, run_enter2 Try.call25 ho hx hy, full_any c l w⟩)
end

set_option maxHeartbeats 400000 in
theorem groups_any {w : World} {wb b : Nat} {a s g : Int} (h : WalAt w wb b a s g) : Calls Try.prog 21 #[.pointer (some ⟨wb, 0, none⟩)] w fun e w' => e = .returned (.int .i64 g) ∧ w = w' := by
  obtain ⟨c0, c1, c2, c3, fz⟩ := h.cells
  clear h
  go_enter Try.func21, Try.ntmps21
  go_wp2
  go_ret
  exact ⟨rfl, rfl⟩

def fullL (c l : Int) : List Int := List.replicate 63 c ++ [l]
theorem fullB_sec (c l : Int) : fullB c l = sec (fullL c l) := by kernel_rfl
theorem fullL_len (c l : Int) : (fullL c l).length = 64 := by simp [fullL]

/-- Two puts in memory. -/
theorem putsAt_two {w : World} {F : List Nat} {g : Nat} {i j : Int} {av bv : Value} {v u : Array Value} {t : TypeId} (hb : w.heap[g]? = some (.cells #[.int .i64 i, av, .int .i64 j, bv] t (0, 0))) (hg : g ∉ F) (hv : Bytes64 w F av v) (hu : Bytes64 w F bv u) : PutsAt w F (.slice (some ⟨g, 0, none⟩) 2 2) [(i, v), (j, u)] := by
  refine ⟨_, _, rfl, by simp, fun k p hp => ?_⟩
  match k, hp with
  | 0, hp =>
    simp at hp
    subst hp
    exact ⟨g, 0, av, rfl, (Array.getElem?_eq_some_iff.1 hb).1, hg, by rw [cell_of_row _ _ _ _ _ _ hb]; rfl, by rw [cell_of_row _ _ _ _ _ _ hb]; rfl, hv⟩
  | 1, hp =>
    simp at hp
    subst hp
    exact ⟨g, 0, bv, rfl, (Array.getElem?_eq_some_iff.1 hb).1, hg, by rw [cell_of_row _ _ _ _ _ _ hb]; rfl, by rw [cell_of_row _ _ _ _ _ _ hb]; rfl, hu⟩
  | k + 2, hp => simp at hp

theorem writeAll_fall {S : St} (hon : S.on = true) (hf : S.fuse = 0) (ps : List (Int × Array Value)) (h : ∀ p ∈ ps, 0 ≤ p.1 ∧ p.1 < S.n) : S.writeAll ps = (2, S.fallen) := by
  cases ps with
  | nil => rw [St.writeAll, St.writes, if_pos rfl, St.doBarrier, if_neg (by simp [hon]), if_pos hf]
  | cons p ps =>
    have hp := h p (by simp)
    have hr : S.reach p.1 = 0 := by rw [St.reach, if_neg (by simp [hon]), if_neg (by omega)]
    have hw : S.doWrite p.1 p.2 = (2, S.fallen) := by rw [St.doWrite, if_neg (by simp [hr]), if_pos hf]
    have : S.writes (p :: ps) = (2, S.fallen) := by rw [St.writes, hw, if_neg (by simp)]
    rw [St.writeAll, this, if_neg (by simp)]

theorem commit_fall {S : St} (hon : S.on = true) (hf : S.fuse = 0) {a s g : Int} {ps : List (Int × Array Value)} (ha : 0 ≤ a) (hs : 3 ≤ s) (has : a + s ≤ S.n) (hok : GroupOk a s S.n (rawsOf ps)) : S.commit a s g ps = ⟨2, S.fallen, g⟩ := by
  have hlen : (ps.length : Int) ≤ roomF s := by have := hok.1; simpa [rawsOf] using this
  have hfit := room_fits hs hlen
  rw [St.commit, writeAll_fall hon hf _ (fun p hp => by have := copies_in hp; omega), if_pos (by simp)]

theorem fused_quiet (n k : Int) (f : Int → Option (Array Value)) (m : Int) : (quiet n k f).fused m = { quiet n k f with fuse := m } := rfl
theorem booted_quiet (n k : Int) (f : Int → Option (Array Value)) (keep : List Int) : ({ quiet n k f with fuse := 0 } : St).fallen.booted keep = quiet n k f := rfl
theorem WalAt.lat {w x : World} {wb b : Nat} {a s g : Int} (h : WalAt w wb b a s g) (hl : Lat w x) : WalAt x wb b a s g := hl.at h
theorem keepAt_one {w : World} {F : List Nat} {g : Nat} {z : Int} {t : TypeId} (hb : w.heap[g]? = some (.cells #[.int .i64 z] t (0, 0))) (hg : g ∉ F) : KeepAt w F (.slice (some ⟨g, 0, none⟩) 1 1) [z] := by
  refine ⟨_, _, rfl, by simp, fun _ => ⟨g, 0, rfl, (Array.getElem?_eq_some_iff.1 hb).1, hg, fun j y hy => ?_⟩⟩
  cases j with
  | succ j => simp at hy
  | zero => simp at hy; subst hy; rw [cell_of_row _ _ _ _ _ _ hb]; rfl

def gf0 (a : Int) : Int → Option (Array Value) := updF (fun _ => none) a (headA a 40 0 0)
def sps1 : List (Int × Array Value) := [(50, fullB 1 1), (51, fullB 2 2)]
def sps2 : List (Int × Array Value) := [(50, fullB 1 1), (50, fullB 1 1)]
def sps3 : List (Int × Array Value) := [(5, fullB 1 1)]
def sps4 : List (Int × Array Value) := [(50, fullB 3 3)]
theorem room40 : roomF 40 = 37 := by decide
theorem sok1 : GroupOk 0 40 100 (rawsOf sps1) := by
  refine ⟨by rw [room40]; decide, ?_, by simp [rawsOf, sps1]⟩
  intro r hr
  simp [rawsOf, sps1] at hr
  rcases hr with rfl | rfl <;> simp [PutOk]
theorem sok2 : ¬ GroupOk 0 40 100 (rawsOf sps2) := fun h => by
  have := h.2.2
  simp [rawsOf, sps2] at this
theorem sok3 : ¬ GroupOk 0 40 100 (rawsOf sps3) := fun h => by
  have := h.2.1 (5, 64) (by simp [rawsOf, sps3])
  simp [PutOk] at this
theorem sok4 : GroupOk 0 40 100 (rawsOf sps4) := by
  refine ⟨by rw [room40]; decide, ?_, by simp [rawsOf, sps4]⟩
  intro r hr
  simp [rawsOf, sps4] at hr
  subst hr
  simp [PutOk]

/-- Puts that were just laid out, two or one, each of 64 bytes. -/
theorem lay_two {w0 w : World} {b : Nat} {F : List Nat} {S : St} {Rs : List Res} (h : Has w0 w (DRes b F S :: Rs)) (i j c l c' l' : Int) :
    Has w0 (((w.alloc (.cells (fullB c l) 5)).alloc (.cells (fullB c' l') 5)).alloc (.cells #[.int .i64 i, .slice (some ⟨w.heap.size, 0, none⟩) 64 64, .int .i64 j, .slice (some ⟨w.heap.size + 1, 0, none⟩) 64 64] 54)) (DRes b F S :: Rs) ∧
    PutsAt (((w.alloc (.cells (fullB c l) 5)).alloc (.cells (fullB c' l') 5)).alloc (.cells #[.int .i64 i, .slice (some ⟨w.heap.size, 0, none⟩) 64 64, .int .i64 j, .slice (some ⟨w.heap.size + 1, 0, none⟩) 64 64] 54)) F (.slice (some ⟨w.heap.size + 1 + 1, 0, none⟩) 2 2) [(i, fullB c l), (j, fullB c' l')] := by
  have hlt := dAt_lt h.dat
  have h1 := heap_alloc_last w (.cells (fullB c l) 5)
  have h2 := heap_alloc_last (w.alloc (.cells (fullB c l) 5)) (.cells (fullB c' l') 5)
  have h3 := heap_alloc_last ((w.alloc (.cells (fullB c l) 5)).alloc (.cells (fullB c' l') 5)) (.cells #[.int .i64 i, .slice (some ⟨w.heap.size, 0, none⟩) 64 64, .int .i64 j, .slice (some ⟨w.heap.size + 1, 0, none⟩) 64 64] 54)
  simp only [World.size_alloc] at h2 h3
  refine ⟨((h.alloc' _).alloc' _).alloc' _, putsAt_two h3 (fun hx => by have := hlt _ hx; omega) (bytes64_row (t := 5) ?_ (fun hx => by have := hlt _ hx; omega) (fullB_ok c l)) (bytes64_row (t := 5) ?_ (fun hx => by have := hlt _ hx; omega) (fullB_ok c' l'))⟩
  · rw [Below.heap_alloc _ _ _ (by simp; omega), Below.heap_alloc _ _ _ (by simp)]; exact h1
  · rw [Below.heap_alloc _ _ _ (by simp)]; exact h2
theorem lay_one {w0 w : World} {b : Nat} {F : List Nat} {S : St} {Rs : List Res} (h : Has w0 w (DRes b F S :: Rs)) (i c l : Int) :
    Has w0 ((w.alloc (.cells (fullB c l) 5)).alloc (.cells #[.int .i64 i, .slice (some ⟨w.heap.size, 0, none⟩) 64 64] 54)) (DRes b F S :: Rs) ∧
    PutsAt ((w.alloc (.cells (fullB c l) 5)).alloc (.cells #[.int .i64 i, .slice (some ⟨w.heap.size, 0, none⟩) 64 64] 54)) F (.slice (some ⟨w.heap.size + 1, 0, none⟩) 1 1) [(i, fullB c l)] := by
  have hlt := dAt_lt h.dat
  have h1 := heap_alloc_last w (.cells (fullB c l) 5)
  have h3 := heap_alloc_last (w.alloc (.cells (fullB c l) 5)) (.cells #[.int .i64 i, .slice (some ⟨w.heap.size, 0, none⟩) 64 64] 54)
  simp only [World.size_alloc] at h3
  refine ⟨(h.alloc' _).alloc' _, putsAt_one h3 (fun hx => by have := hlt _ hx; omega) (bytes64_row (t := 5) ?_ (fun hx => by have := hlt _ hx; omega) (fullB_ok c l))⟩
  rw [Below.heap_alloc _ _ _ (by simp)]; exact h1

set_option maxRecDepth 100000 in
set_option maxHeartbeats 4000000 in
theorem shown_any (w : World) : Calls Try.prog 8 #[] w fun e w' => e = .returned (.bool true) ∧ Only [] w w' := by
  have G := Lib.hid (ground_any (Has.start w) 0 (by omega) (by omega))
  go_enter Try.func8, Try.ntmps8
  go_wp2_with fail
  refine G.out.mono ?_
  rintro e w1 ⟨b, F, wb, rfl, h⟩
  have h1 := h.swap
  clear G h
  have H1 := Lib.hid h1
  clear h1
  go_wp2_with (first | (go_at_call 24; refine (room_any _ _ (by omega)).mono ?_; rintro e w' ⟨rfl, rfl⟩) | (go_at_call 25; refine (full_any _ _ _).mono ?_; rintro e w' ⟨rfl, rfl⟩))
  obtain ⟨hA, lA⟩ := lay_two H1.out 50 51 1 1 2 2
  refine (has_commit (ps := sps1) hA lA (by omega) (by omega) (by omega) (by omega) (by omega) sok1 (by omega) (by omega)).mono ?_
  rintro e w2 ⟨rfl, k2, F2, k20, k21, h2⟩
  simp only [sps1, List.length_cons, List.length_nil] at k21
  have p0 := putLog_head (updF (fun _ => none) 0 (headA 0 40 0 0)) 0 40 0 sps1
  have p50 := putLog_at (f := updF (fun _ => none) 0 (headA 0 40 0 0)) (g := 0) (by omega) sok1 (p := (50, fullB 1 1)) (by simp [sps1])
  rw [show (0 : Int) + 1 = 1 by omega] at p0
  generalize putLog (updF (fun _ => none) 0 (headA 0 40 0 0)) 0 40 0 sps1 = f1 at h2 p0 p50
  have H2 := Lib.hid h2
  have P0 := Lib.hid p0
  have P50 := Lib.hid p50
  clear hA lA H1 h2 p0 p50
  go_wp2_with (go_at_call 25; refine (full_any _ _ _).mono ?_; rintro e w' ⟨rfl, rfl⟩)
  obtain ⟨hA, lA⟩ := lay_two H2.out 50 50 1 1 1 1
  refine (has_commit_no (rs := rawsOf sps2) hA (lA.raws (by simp)) (by omega) (by omega) (by omega) (by omega) sok2).mono ?_
  rintro e w3 ⟨rfl, h3⟩
  have H3 := Lib.hid h3
  clear hA lA H2 h3
  go_wp2_with (go_at_call 25; refine (full_any _ _ _).mono ?_; rintro e w' ⟨rfl, rfl⟩)
  obtain ⟨hA, lA⟩ := lay_one H3.out 5 1 1
  refine (has_commit_no (rs := rawsOf sps3) hA (lA.raws (by simp)) (by omega) (by omega) (by omega) (by omega) sok3).mono ?_
  rintro e w4 ⟨rfl, h4⟩
  have H4 := Lib.hid h4
  clear hA lA H3 h4
  have G4 := Lib.hid (groups_any (H4.out.walAt (wb := wb) (b := b) (a := 0) (s := 40) (g := 0 + 1) (by simp)))
  go_wp2_with (go_at_call 21; refine G4.out.mono ?_; rintro e w' ⟨rfl, rfl⟩)
  refine (has_fuse H4.out 0 (by omega)).mono ?_
  rintro e w5 ⟨rfl, F5, h5⟩
  rw [fused_quiet] at h5
  have H5 := Lib.hid h5
  clear H4 h5 G4
  go_wp2_with (go_at_call 25; refine (full_any _ _ _).mono ?_; rintro e w' ⟨rfl, rfl⟩)
  obtain ⟨hA, lA⟩ := lay_one H5.out 50 3 3
  have hcf := commit_fall (S := { quiet 100 k2 f1 with fuse := 0 }) rfl rfl (a := 0) (s := 40) (g := 0 + 1) (by omega) (by omega) (by simp [quiet]) sok4
  refine (commit_any (ps := sps4) hA.dat (hA.walAt (wb := wb) (b := b) (a := 0) (s := 40) (g := 0 + 1) (by simp)) hA.wal_notin lA (by omega) (by omega) (by omega) (by omega) (by omega) (by omega) sok4 (by simp only [quiet, sps4, List.length_cons, List.length_nil]; omega) (by simp [quiet, sps4])).mono ?_
  rintro e w6 ⟨rfl, hp6⟩
  rw [hcf] at hp6 ⊢
  obtain ⟨F6, h6⟩ := hA.wpost hp6
  have H6 := Lib.hid h6
  clear hA lA H5 hp6 h6 hcf
  go_wp2_with fail
  have hA := H6.out.alloc' (.cells #[.int .i64 1] 3)
  have hk := keepAt_one (F := F6) (heap_alloc_last w6 (.cells #[.int .i64 1] 3)) (fun hx => by have := dAt_lt H6.out.dat _ hx; omega)
  refine (has_boot hA hk (by simp [St.fallen, quiet])).mono ?_
  rintro e w7 ⟨rfl, F7, h7⟩
  rw [booted_quiet] at h7
  have OP := Lib.hid (has_open (a := 0) (g := 1) h7 rfl (by omega) (s := 40) (by omega) (by simp [quiet]) (by omega) (by omega) (by rw [show (quiet 100 k2 f1).now = f1 from rfl, P0.out, Option.getD_some]))
  clear hA hk H6 h7
  go_wp2_with fail
  refine OP.out.mono ?_
  rintro e w8 ⟨wb8, rfl, h8⟩
  have H8 := Lib.hid h8
  clear OP h8
  have hd8 : DAt w8 b F7 (quiet 100 k2 f1) := (H8.out.swap).dat
  have RD := Lib.hid (read_ok hd8 50 (by rw [St.reach, if_neg (by simp [quiet]), if_neg (by simp [quiet])]))
  rw [show (quiet 100 k2 f1).now = f1 from rfl, P50.out, Option.getD_some, fullB_sec] at RD
  clear hd8
  go_wp2_with (go_at_call 26; refine RD.out.mono ?_; rintro e w9 ⟨rfl, rfl⟩)
  have hy : (w8.alloc (.cells (sec (fullL 1 1)) 88)).drew.heap[w8.heap.size]? = some (.cells (sec (fullL 1 1)) 88 (0, 0)) := heap_alloc_last w8 _
  have h9 : Has w (w8.alloc (.cells (sec (fullL 1 1)) 88)).drew (WRes wb8 b 0 40 1 :: DRes b F7 (quiet 100 k2 f1) :: WRes wb b 0 40 (0 + 1) :: []) := (H8.out.alloc' _).drew
  generalize (w8.alloc (.cells (sec (fullL 1 1)) 88)) = w9 at *
  have x9 : WalAt w9.drew wb8 b 0 40 1 := h9.walAt (by simp)
  have O9 := Lib.hid h9.only
  clear RD h9 H8 P0 P50
  refine wp_region_flowR Lat [0, 0, 0, 0, 0, 0, 0, 0, 0, 0, 0, 0, 0, 0, 0, 0, 0, 0, 0, 0, 0, 0, 0, 0, 1, 0, 0, 0, 0, 0, 0, 0, 0, 1, 2, 1, 0, 0, 0] (by kernel_rfl) (by kernel_rfl) Lat.refl Lat.trans ?_
  refine fr0 rfl (fun _ => rfl) ?_
  simp only [Act.put, List.setIfInBounds_toArray, List.set_cons_succ, List.set_cons_zero]
  refine fr0 (u := .bool true) rfl (fun w => (run_eql36 rfl rfl rfl w).trans rfl) ?_
  simp only [Act.put, List.setIfInBounds_toArray, List.set_cons_succ, List.set_cons_zero]
  refine fr0 (u := .bool true) rfl (fun _ => rfl) ?_
  simp only [Act.put, List.setIfInBounds_toArray, List.set_cons_succ, List.set_cons_zero]
  refine fr0 (by kernel_rfl) (fun _ => rfl) ?_
  simp only [Act.put, List.setIfInBounds_toArray, List.set_cons_succ, List.set_cons_zero]
  refine fr0 (u := .bool true) (by kernel_rfl) (fun w => (run_eql36 rfl rfl rfl w).trans rfl) ?_
  simp only [Act.put, List.setIfInBounds_toArray, List.set_cons_succ, List.set_cons_zero]
  refine fr0 (u := .bool true) rfl (fun _ => rfl) ?_
  simp only [Act.put, List.setIfInBounds_toArray, List.set_cons_succ, List.set_cons_zero]
  refine fr0 (u := .bool true) rfl (fun _ => rfl) ?_
  simp only [Act.put, List.setIfInBounds_toArray, List.set_cons_succ, List.set_cons_zero]
  refine fr0 (by kernel_rfl) (fun _ => rfl) ?_
  simp only [Act.put, List.setIfInBounds_toArray, List.set_cons_succ, List.set_cons_zero]
  refine fr0 (u := .bool true) (by kernel_rfl) (fun w => (run_eql36 rfl rfl rfl w).trans rfl) ?_
  simp only [Act.put, List.setIfInBounds_toArray, List.set_cons_succ, List.set_cons_zero]
  refine fr0 (u := .bool true) rfl (fun _ => rfl) ?_
  simp only [Act.put, List.setIfInBounds_toArray, List.set_cons_succ, List.set_cons_zero]
  refine fr0 (u := .bool true) rfl (fun _ => rfl) ?_
  simp only [Act.put, List.setIfInBounds_toArray, List.set_cons_succ, List.set_cons_zero]
  refine fr0 (by kernel_rfl) (fun _ => rfl) ?_
  simp only [Act.put, List.setIfInBounds_toArray, List.set_cons_succ, List.set_cons_zero]
  refine fr0 (u := .bool true) (by kernel_rfl) (fun w => (run_eql3 rfl rfl rfl w).trans rfl) ?_
  simp only [Act.put, List.setIfInBounds_toArray, List.set_cons_succ, List.set_cons_zero]
  refine fr0 (u := .bool true) rfl (fun _ => rfl) ?_
  simp only [Act.put, List.setIfInBounds_toArray, List.set_cons_succ, List.set_cons_zero]
  refine fr0 (u := .bool true) rfl (fun _ => rfl) ?_
  simp only [Act.put, List.setIfInBounds_toArray, List.set_cons_succ, List.set_cons_zero]
  refine fr0 (by kernel_rfl) (fun _ => rfl) ?_
  simp only [Act.put, List.setIfInBounds_toArray, List.set_cons_succ, List.set_cons_zero]
  refine fr0 (u := .bool true) (by kernel_rfl) (fun w => (run_eql36 rfl rfl rfl w).trans rfl) ?_
  simp only [Act.put, List.setIfInBounds_toArray, List.set_cons_succ, List.set_cons_zero]
  refine fr0 (u := .bool true) rfl (fun _ => rfl) ?_
  simp only [Act.put, List.setIfInBounds_toArray, List.set_cons_succ, List.set_cons_zero]
  refine fr0 (u := .bool true) rfl (fun _ => rfl) ?_
  simp only [Act.put, List.setIfInBounds_toArray, List.set_cons_succ, List.set_cons_zero]
  refine fr0 (by kernel_rfl) (fun _ => rfl) ?_
  simp only [Act.put, List.setIfInBounds_toArray, List.set_cons_succ, List.set_cons_zero]
  refine fr0 (u := .bool true) (by kernel_rfl) (fun w => (run_eql36 rfl rfl rfl w).trans rfl) ?_
  simp only [Act.put, List.setIfInBounds_toArray, List.set_cons_succ, List.set_cons_zero]
  refine fr0 (u := .bool true) rfl (fun _ => rfl) ?_
  simp only [Act.put, List.setIfInBounds_toArray, List.set_cons_succ, List.set_cons_zero]
  refine fr0 (u := .bool true) rfl (fun _ => rfl) ?_
  simp only [Act.put, List.setIfInBounds_toArray, List.set_cons_succ, List.set_cons_zero]
  refine fr0 (by kernel_rfl) (fun _ => rfl) ?_
  simp only [Act.put, List.setIfInBounds_toArray, List.set_cons_succ, List.set_cons_zero]
  refine fr1c (u := .int .i64 1) (by kernel_rfl) (fun x hx => does_groups (WalAt.lat x9 hx) rfl rfl (groups_any (WalAt.lat x9 hx))) ?_
  simp only [Act.put, List.setIfInBounds_toArray, List.set_cons_succ, List.set_cons_zero]
  refine fr0 (u := .bool true) (by kernel_rfl) (fun w => (run_eql3 rfl rfl rfl w).trans rfl) ?_
  simp only [Act.put, List.setIfInBounds_toArray, List.set_cons_succ, List.set_cons_zero]
  refine fr0 (u := .bool true) rfl (fun _ => rfl) ?_
  simp only [Act.put, List.setIfInBounds_toArray, List.set_cons_succ, List.set_cons_zero]
  refine fr0 (u := .bool true) rfl (fun _ => rfl) ?_
  simp only [Act.put, List.setIfInBounds_toArray, List.set_cons_succ, List.set_cons_zero]
  refine fr0 (by kernel_rfl) (fun _ => rfl) ?_
  simp only [Act.put, List.setIfInBounds_toArray, List.set_cons_succ, List.set_cons_zero]
  refine fr0 (u := .bool true) (by kernel_rfl) (fun w => (run_eql36 rfl rfl rfl w).trans rfl) ?_
  simp only [Act.put, List.setIfInBounds_toArray, List.set_cons_succ, List.set_cons_zero]
  refine fr0 (u := .bool true) rfl (fun _ => rfl) ?_
  simp only [Act.put, List.setIfInBounds_toArray, List.set_cons_succ, List.set_cons_zero]
  refine fr0 (u := .bool true) rfl (fun _ => rfl) ?_
  simp only [Act.put, List.setIfInBounds_toArray, List.set_cons_succ, List.set_cons_zero]
  refine fr0 (by kernel_rfl) (fun _ => rfl) ?_
  simp only [Act.put, List.setIfInBounds_toArray, List.set_cons_succ, List.set_cons_zero]
  refine fr1 (u := .string (strOf (fullL 1 1))) (by kernel_rfl) (fun x hx => run_str (fullL_len 1 1) rfl rfl (hx.at hy)) ?_
  simp only [Act.put, List.setIfInBounds_toArray, List.set_cons_succ, List.set_cons_zero]
  refine fr2 (u := .slice (some ⟨w9.drew.heap.size, 0, none⟩) 64 64) (w' := w9.drew.alloc (.cells (fullB 1 1) 5)) (by kernel_rfl) (Lat.alloc _ _) (does_full rfl rfl rfl) ?_
  have hz := heap_alloc_last w9.drew (.cells (fullB 1 1) 5)
  rw [fullB_sec] at hz ⊢
  simp only [Act.put, List.setIfInBounds_toArray, List.set_cons_succ, List.set_cons_zero]
  refine fr1 (u := .string (strOf (fullL 1 1))) (by kernel_rfl) (fun x hx => run_str (fullL_len 1 1) rfl rfl (hx.at hz)) ?_
  simp only [Act.put, List.setIfInBounds_toArray, List.set_cons_succ, List.set_cons_zero]
  refine fr0 (u := .bool true) (by kernel_rfl) (fun w => (run_eqlS rfl rfl rfl w).trans (by rw [beq_self_eq_true])) ?_
  simp only [Act.put, List.setIfInBounds_toArray, List.set_cons_succ, List.set_cons_zero]
  refine fr0 (u := .bool true) rfl (fun _ => rfl) ?_
  simp only [Act.put, List.setIfInBounds_toArray, List.set_cons_succ, List.set_cons_zero]
  refine fr0 (u := .bool true) rfl (fun _ => rfl) ?_
  simp only [Act.put, List.setIfInBounds_toArray, List.set_cons_succ, List.set_cons_zero]
  refine frnil ?_
  show Exit.then _ _ _ _ _
  go_wp2
  go_ret
  exact ⟨rfl, O9.out.alloc _⟩

end Go.Proofs.Ytfkpehefofihmaa
