/- What copies does. -/
import Derived.Test.YtoccnaebckcfmaaW10
set_option linter.unusedSimpArgs false
set_option linter.unusedVariables false
set_option maxRecDepth 8000
namespace Go.Proofs.Ytoccnaebckcfmaa
open Go.RowKit

section
variable {o : Oper} {a : Act} {w : World}
theorem run_slice3 {x y z u : Operand} {g len cap L H : Nat} {l h m : Int} (hl : l = (L : Int)) (hh : h = (H : Int)) (hm : m = (H : Int)) (h1 : L < H) (h2 : H ≤ cap) (ho : o.op = .slice 40 x (some y) (some z) (some u)) (hx : a.eval x = .slice (some ⟨g, 0, none⟩) len cap) (hy : a.eval y = .int .i64 l) (hz : a.eval z = .int .i64 h) (hu : a.eval u = .int .i64 m) :
    ∀ w, (execOp a.eval o).run Try.prog w = .ok (.value (.slice (some ⟨g, L, none⟩) (H - L) (H - L))) w := by
  intro w
  subst hl hh hm
  unfold execOp
  simp only [ho, hx, hy, hz, hu, Option.map_some]
  have hs : (sizeOf 3).run Try.prog w = .ok 1 w := by kernel_rfl
  have h3 : (H : Int) ≤ (cap : Int) := by omega
  have h4 : (L : Int) ≤ (H : Int) := by omega
  go_simp
  intro h; omega
end

def secOf (ps : List (Int × Array Value)) (j : Nat) : Int := (ps.getD j (0, #[])).1
def bytOf (ps : List (Int × Array Value)) (j : Nat) : Array Value := (ps.getD j (0, #[])).2
/-- The sector of numbers i of a group, and the sector of bytes i. -/
def numPut (a : Int) (ps : List (Int × Array Value)) (i : Nat) : Int × Array Value := (a + 1 + i, packed (fun j => secOf ps (i * 32 + j)) (min (i * 32 + 32) ps.length - i * 32))
def bytPut (a : Int) (ps : List (Int × Array Value)) (i : Nat) : Int × Array Value := (a + 1 + numsF ps.length + i, bytOf ps i)
def copiesL (a : Int) (ps : List (Int × Array Value)) : List (Int × Array Value) := (List.range (numsF ps.length)).map (numPut a ps) ++ (List.range ps.length).map (bytPut a ps)
def CopiesPost (a : Int) (ps : List (Int × Array Value)) (F : List Nat) (w : World) (e : Ending) (w' : World) : Prop := ∃ v, e = .returned v ∧ PutsAt w' F v (copiesL a ps) ∧ Only [] w w'

theorem CopiesPost.mk {a : Int} {ps : List (Int × Array Value)} {F : List Nat} {w w' : World} {v : Value} (h : PutsAt w' F v (copiesL a ps)) (ho : Only [] w w') : CopiesPost a ps F w (.returned v) w' := Exists.intro v ⟨rfl, h, ho⟩
theorem at_of {ps : List (Int × Array Value)} {k : Nat} {p : Int × Array Value} (h : ps[k]? = some p) : secOf ps k = p.1 ∧ bytOf ps k = p.2 := by
  simp [secOf, bytOf, List.getD_eq_getElem?_getD, h]
theorem make33 (n : Nat) (hn : n ≤ 10000) (w : World) : (Instr.makeSlice 40 (.int .i64 (n : Int)) (.int .i64 (n : Int))).run Try.prog w = .ok (.slice (some ⟨w.heap.size, 0, none⟩) n n) (w.alloc (.cells (madeCells #[.int .i64 0] n) 3)) :=
  run_make_row' (P := Try.prog) 40 3 (.int .i64 0) 8 Try.underlying40 (by kernel_rfl) rfl .i64 .i64 n (by omega) (by omega) w
theorem made_row (n : Nat) : (madeCells #[.int .i64 0] n).size = n ∧ ∀ j, j < n → (madeCells #[.int .i64 0] n)[j]? = some (.int .i64 0) := by
  have h := toList_madeCells_one (.int .i64 0) n
  have h1 : (madeCells #[.int .i64 0] n).size = n := by rw [← Array.length_toList, h, List.length_replicate]
  refine ⟨h1, fun j hj => ?_⟩
  rw [← Array.getElem?_toList, h, List.getElem?_replicate, if_pos hj]

structure NumRow (ps : List (Int × Array Value)) (A : Array Value) (k : Nat) : Prop where
  size : A.size = ps.length
  got : ∀ j, j < k → A[j]? = some (.int .i64 (secOf ps j))
  zero : ∀ j, k ≤ j → j < ps.length → A[j]? = some (.int .i64 0)

set_option maxHeartbeats 4000000 in
theorem copies_any {w : World} {wb b : Nat} {a s g : Int} {F : List Nat} {lv : Value} {ps : List (Int × Array Value)} (hw : WalAt w wb b a s g) (hl : PutsAt w F lv ps) (hF : ∀ x ∈ F, x < w.heap.size) (hn : ps.length ≤ 10000) (ha : 0 ≤ a) (ha1 : a ≤ 8192) (hsec : ∀ p ∈ ps, 0 ≤ p.1 ∧ p.1 ≤ 8192) :
    Calls Try.prog 72 #[.pointer (some ⟨wb, 0, none⟩), lv] w fun e w' => CopiesPost a ps F w e w' := by
  obtain ⟨ad, cap, rfl, hlen, -⟩ := hl.shape
  have HL := Lib.hid hl
  have HW := Lib.hid hw
  have HF := Lib.hid hF
  have HS := Lib.hid hsec
  have hmk := make33 ps.length hn
  clear hl hw hF hsec
  go_enter Try.func72, Try.ntmps72
  go_wp2
  go_loopw [20] (fun i wr => ∃ (k : Nat) (A : Array Value), k ≤ ps.length ∧ i = .int .i64 k ∧ wr.heap[w.heap.size]? = some (.cells A 3 (0, 0)) ∧ NumRow ps A k ∧ Only [] w wr) (fun i _ => ps.length - (intOf i).toNat)
  case atStart => exact ⟨0, _, by omega, rfl, heap_alloc_last w _, ⟨(made_row _).1, by simp, fun j _ hj => (made_row _).2 j hj⟩, (Only.refl [] w).alloc _⟩
  case round =>
    obtain ⟨k, A, hk, rfl, hb, hA, ho⟩ := hrel
    by_cases hlt : k < ps.length
    · obtain ⟨p, hp'⟩ : ∃ p, ps[k]? = some p := ⟨_, List.getElem?_eq_getElem hlt⟩
      obtain ⟨a', cap', hsh, -, hall⟩ := (HL.out.only ho (by simp)).shape
      cases hsh
      obtain ⟨g1, o1, av, rfl, g1l, g2, c0, c1, hv⟩ := hall k p hp'
      obtain ⟨_, g3, o3, cap3, rfl, _⟩ := hv
      have hcell : wr.cell? ⟨w.heap.size, k, none⟩ = some (.int .i64 0) := by rw [cell_of_row _ _ _ _ _ _ hb]; exact hA.zero k (Nat.le_refl _) hlt
      have hfz : wr.frozen? ⟨w.heap.size, k, none⟩ = false := by simp [World.frozen?, hb]
      have hsz : w.heap.size < wr.heap.size := (Array.getElem?_eq_some_iff.1 hb).1
      have KEEP := Lib.hid (And.intro hb (And.intro hA (And.intro ho hp')))
      clear hall hb hA ho hp'
      go_wp2
      go_roundw
      case rel =>
        obtain ⟨hb, hA, ho, hp'⟩ := KEEP.out
        have hb2 := heap_setCell_row hb k (.int .i64 p.1)
        refine ⟨k + 1, _, by omega, by go_num, (Below.heap_alloc _ _ _ (by simpa using hsz)).trans hb2, ⟨by simpa using hA.size, fun j hj => ?_, fun j h1 h2 => ?_⟩, (ho.setCell (by simp) _).alloc _⟩
        · by_cases hjk : j = k
          · subst hjk
            rw [Array.getElem?_setIfInBounds_self_of_lt (by rw [hA.size]; exact hlt), (at_of hp').1]
          · rw [Array.getElem?_setIfInBounds_ne (by omega)]
            exact hA.got j (by omega)
        · rw [Array.getElem?_setIfInBounds_ne (by omega)]
          exact hA.zero j (by omega) h2
      case measure => simp [intOf]; omega
    · have hkl : k = ps.length := by omega
      subst hkl
      have NS := Lib.hid (nums_any ps.length wr (by omega))
      have KEEP := Lib.hid (And.intro hb (And.intro hA ho))
      clear hb hA ho
      go_wp2_with (go_at_call 85; refine NS.out.mono ?_; rintro e w' ⟨rfl, rfl⟩)
      go_loopw [34, 8] (fun i c wq => ∃ k : Nat, k ≤ numsF ps.length ∧ i = .int .i64 k ∧ Building w wq F c ((List.range k).map (numPut a ps)) ∧ wq.heap[w.heap.size]? = some (.cells A 3 (0, 0)) ∧ Only [] w wq) (fun i _ _ => numsF ps.length - (intOf i).toNat)
      case atStart => exact ⟨0, by omega, rfl, Building.nil _ _ _, KEEP.out.1, KEEP.out.2.2⟩
      case round =>
        obtain ⟨k, hk, rfl, hbl, hb, ho⟩ := hrel
        by_cases hlt2 : k < numsF ps.length
        · have hkn : k * 32 < ps.length := by unfold numsF at hlt2; omega
          have KEEP2 := Lib.hid (And.intro hbl (And.intro hb ho))
          clear hbl hb ho
          have hsec2 : ∀ j, j < ps.length → 0 ≤ secOf ps j ∧ secOf ps j ≤ 9223372036854775807 := fun j hj => by
            obtain ⟨p, hp⟩ : ∃ p, ps[j]? = some p := ⟨_, List.getElem?_eq_getElem hj⟩
            rw [(at_of hp).1]
            have := HS.out p (List.mem_of_getElem? hp)
            omega
          have hbl1 : Building w wr.drew F u8 ((List.range k).map (numPut a ps)) := KEEP2.out.1.keep (Only.refl [] wr).drew
          have hb1 : wr.drew.heap[w.heap.size]? = some (.cells A 3 (0, 0)) := KEEP2.out.2.1
          have o1 : Only [] w wr.drew := KEEP2.out.2.2.drew
          have c1 : wr.drew.cell? ⟨wb, 1, none⟩ = some (.int .i64 a) := (HW.out.only o1 (by simp)).cells.2.1
          have hkn2 : k ≤ 400 := by unfold numsF at hlt2; omega
          by_cases hle : k * 32 + 32 ≤ ps.length
          · go_wp2_with fail
            refine wp_region_flowR Lat [0, 0, 0, 0, 1, 0, 0, 0, 0, 0, 0, 0, 0, 2, 0, 2, 3, 0] (by kernel_rfl) (by kernel_rfl) Lat.refl Lat.trans ?_
            generalize wr.drew = w1 at *
            refine fr0 rfl (fun _ => rfl) ?_
            simp only [Act.put, List.setIfInBounds_toArray, List.set_cons_succ, List.set_cons_zero]
            refine fr0 rfl (fun _ => rfl) ?_
            simp only [Act.put, List.setIfInBounds_toArray, List.set_cons_succ, List.set_cons_zero]
            refine fr0 rfl (fun _ => rfl) ?_
            simp only [Act.put, List.setIfInBounds_toArray, List.set_cons_succ, List.set_cons_zero]
            refine fr0 rfl (run_field75 (by omega) rfl rfl) ?_
            simp only [Act.put, List.setIfInBounds_toArray, List.set_cons_succ, List.set_cons_zero]
            refine fr1 (u := .int .i64 a) rfl (fun x hx => run_load1 rfl rfl (hx.cell c1) isAgg3) ?_
            simp only [Act.put, List.setIfInBounds_toArray, List.set_cons_succ, List.set_cons_zero]
            refine fr0 (u := .int .i64 (a + 1)) rfl (run_add (by omega) (by omega) rfl rfl rfl) ?_
            simp only [Act.put, List.setIfInBounds_toArray, List.set_cons_succ, List.set_cons_zero]
            refine fr0 rfl (fun _ => rfl) ?_
            simp only [Act.put, List.setIfInBounds_toArray, List.set_cons_succ, List.set_cons_zero]
            refine fr0 (u := .int .i64 (a + 1 + (k : Int))) rfl (run_add (by omega) (by omega) rfl rfl rfl) ?_
            simp only [Act.put, List.setIfInBounds_toArray, List.set_cons_succ, List.set_cons_zero]
            refine fr0 rfl (fun _ => rfl) ?_
            simp only [Act.put, List.setIfInBounds_toArray, List.set_cons_succ, List.set_cons_zero]
            refine fr0 rfl (fun _ => rfl) ?_
            simp only [Act.put, List.setIfInBounds_toArray, List.set_cons_succ, List.set_cons_zero]
            refine fr0 rfl (fun _ => rfl) ?_
            simp only [Act.put, List.setIfInBounds_toArray, List.set_cons_succ, List.set_cons_zero]
            refine fr0 rfl (fun _ => rfl) ?_
            simp only [Act.put, List.setIfInBounds_toArray, List.set_cons_succ, List.set_cons_zero]
            refine fr0 (u := .slice (some ⟨w.heap.size, k * 32, none⟩) ((k * 32 + 32) - k * 32) ((k * 32 + 32) - k * 32)) rfl (run_slice3 (by omega) (by omega) (by omega) (by omega) (by omega) rfl rfl rfl rfl rfl) ?_
            simp only [Act.put, List.setIfInBounds_toArray, List.set_cons_succ, List.set_cons_zero]
            refine fr2c rfl (run_enter1 Try.call86 rfl rfl) (pack_any w1 w.heap.size (k * 32) ((k * 32 + 32) - k * 32) ((k * 32 + 32) - k * 32) (fun j => secOf ps (k * 32 + j)) (by omega) (fun j hj => by rw [cell_of_row _ _ _ _ _ _ hb1]; exact KEEP.out.2.1.got _ (by omega)) (fun _ => (Array.getElem?_eq_some_iff.1 hb1).1) (fun j hj => hsec2 _ (by omega))) ?_
            rintro e w2 ⟨rfl, hpk, o2⟩
            refine ⟨_, rfl, o2.lat, ?_⟩
            simp only [Act.put, List.setIfInBounds_toArray, List.set_cons_succ, List.set_cons_zero]
            refine fr0 (u := .agg #[.int .i64 (a + 1 + (k : Int)), .slice (some ⟨w1.heap.size, 0, none⟩) 64 64]) rfl (run_build54 rfl rfl rfl) ?_
            simp only [Act.put, List.setIfInBounds_toArray, List.set_cons_succ, List.set_cons_zero]
            refine fr2 (u := .slice (some ⟨w2.heap.size, 0, none⟩) 1 1) (w' := w2.alloc (.cells #[.int .i64 (a + 1 + (k : Int)), .slice (some ⟨w1.heap.size, 0, none⟩) 64 64] 112)) rfl (Lat.alloc _ _) (.inl (run_buildSlice32 rfl rfl rfl)) ?_
            simp only [Act.put, List.setIfInBounds_toArray, List.set_cons_succ, List.set_cons_zero]
            have hsrc : Src w w2 F (.slice (some ⟨w1.heap.size, 0, none⟩) 64 64) (packed (fun j => secOf ps (k * 32 + j)) ((k * 32 + 32) - k * 32)) := ⟨packed_ok _ _ (by omega), w1.heap.size, 0, 64, rfl, (Array.getElem?_eq_some_iff.1 hpk).1, fun hx => by have := HF.out _ hx; have := o1.size; omega, fun j u hu => by rw [Nat.zero_add, cell_of_row _ _ _ _ _ _ hpk]; simpa using hu, .inr ⟨_, hpk⟩⟩
            obtain ⟨v3, w3, hrun, hbl3, o3, hk3, hs3⟩ := (hbl1.keep o2).append (o1.trans o2 (by simp)) (i := a + 1 + (k : Int)) hsrc (by simp; omega) 79
            refine fr3 (u := v3) (w' := w3) rfl (.inl (run_builtin_append rfl rfl rfl hrun)) ?_
            simp only [Act.put, List.setIfInBounds_toArray, List.set_cons_succ, List.set_cons_zero]
            refine fr0 (u := v3) rfl (fun _ => rfl) ?_
            simp only [Act.put, List.setIfInBounds_toArray, List.set_cons_succ, List.set_cons_zero]
            refine frnil ?_
            have hb3 : w3.heap[w.heap.size]? = some (.cells A 3 (0, 0)) := by
              have h2 := (o2.block _ (Array.getElem?_eq_some_iff.1 hb1).1 (by simp)).trans hb1
              rw [hk3 _ (Array.getElem?_eq_some_iff.1 h2).1 (fun e => ?_)]
              · exact h2
              · obtain ⟨qs, _, q2, _⟩ := hbl1.keep o2
                obtain ⟨_, _, cur, hcur⟩ := ownsRow_own q2 e
                rw [hcur] at h2
                simp at h2
            have hnp : (List.range (k + 1)).map (numPut a ps) = (List.range k).map (numPut a ps) ++ [(a + 1 + (k : Int), packed (fun j => secOf ps (k * 32 + j)) ((k * 32 + 32) - k * 32))] := by
              rw [List.range_succ, List.map_append, List.map_cons, List.map_nil]
              congr 2
              unfold numPut
              rw [show min (k * 32 + 32) ps.length = (k * 32 + 32) by omega]
            rw [← hnp] at hbl3
            have FIN := Lib.hid (And.intro hbl3 (And.intro hb3 o3))
            clear hbl3 hb3 o3 hrun hk3 hs3 hsrc
            go_wp2
            go_roundw
            case rel => exact ⟨k + 1, by omega, by go_num, FIN.out.1, FIN.out.2.1, FIN.out.2.2⟩
            case measure => simp [intOf]; omega
          · go_wp2_with fail
            refine wp_region_flowR Lat [0, 0, 0, 0, 1, 0, 0, 0, 0, 0, 0, 0, 0, 2, 0, 2, 3, 0] (by kernel_rfl) (by kernel_rfl) Lat.refl Lat.trans ?_
            generalize wr.drew = w1 at *
            refine fr0 rfl (fun _ => rfl) ?_
            simp only [Act.put, List.setIfInBounds_toArray, List.set_cons_succ, List.set_cons_zero]
            refine fr0 rfl (fun _ => rfl) ?_
            simp only [Act.put, List.setIfInBounds_toArray, List.set_cons_succ, List.set_cons_zero]
            refine fr0 rfl (fun _ => rfl) ?_
            simp only [Act.put, List.setIfInBounds_toArray, List.set_cons_succ, List.set_cons_zero]
            refine fr0 rfl (run_field75 (by omega) rfl rfl) ?_
            simp only [Act.put, List.setIfInBounds_toArray, List.set_cons_succ, List.set_cons_zero]
            refine fr1 (u := .int .i64 a) rfl (fun x hx => run_load1 rfl rfl (hx.cell c1) isAgg3) ?_
            simp only [Act.put, List.setIfInBounds_toArray, List.set_cons_succ, List.set_cons_zero]
            refine fr0 (u := .int .i64 (a + 1)) rfl (run_add (by omega) (by omega) rfl rfl rfl) ?_
            simp only [Act.put, List.setIfInBounds_toArray, List.set_cons_succ, List.set_cons_zero]
            refine fr0 rfl (fun _ => rfl) ?_
            simp only [Act.put, List.setIfInBounds_toArray, List.set_cons_succ, List.set_cons_zero]
            refine fr0 (u := .int .i64 (a + 1 + (k : Int))) rfl (run_add (by omega) (by omega) rfl rfl rfl) ?_
            simp only [Act.put, List.setIfInBounds_toArray, List.set_cons_succ, List.set_cons_zero]
            refine fr0 rfl (fun _ => rfl) ?_
            simp only [Act.put, List.setIfInBounds_toArray, List.set_cons_succ, List.set_cons_zero]
            refine fr0 rfl (fun _ => rfl) ?_
            simp only [Act.put, List.setIfInBounds_toArray, List.set_cons_succ, List.set_cons_zero]
            refine fr0 rfl (fun _ => rfl) ?_
            simp only [Act.put, List.setIfInBounds_toArray, List.set_cons_succ, List.set_cons_zero]
            refine fr0 rfl (fun _ => rfl) ?_
            simp only [Act.put, List.setIfInBounds_toArray, List.set_cons_succ, List.set_cons_zero]
            refine fr0 (u := .slice (some ⟨w.heap.size, k * 32, none⟩) (ps.length - k * 32) (ps.length - k * 32)) rfl (run_slice3 (by omega) (by omega) (by omega) (by omega) (by omega) rfl rfl rfl rfl rfl) ?_
            simp only [Act.put, List.setIfInBounds_toArray, List.set_cons_succ, List.set_cons_zero]
            refine fr2c rfl (run_enter1 Try.call86 rfl rfl) (pack_any w1 w.heap.size (k * 32) (ps.length - k * 32) (ps.length - k * 32) (fun j => secOf ps (k * 32 + j)) (by omega) (fun j hj => by rw [cell_of_row _ _ _ _ _ _ hb1]; exact KEEP.out.2.1.got _ (by omega)) (fun _ => (Array.getElem?_eq_some_iff.1 hb1).1) (fun j hj => hsec2 _ (by omega))) ?_
            rintro e w2 ⟨rfl, hpk, o2⟩
            refine ⟨_, rfl, o2.lat, ?_⟩
            simp only [Act.put, List.setIfInBounds_toArray, List.set_cons_succ, List.set_cons_zero]
            refine fr0 (u := .agg #[.int .i64 (a + 1 + (k : Int)), .slice (some ⟨w1.heap.size, 0, none⟩) 64 64]) rfl (run_build54 rfl rfl rfl) ?_
            simp only [Act.put, List.setIfInBounds_toArray, List.set_cons_succ, List.set_cons_zero]
            refine fr2 (u := .slice (some ⟨w2.heap.size, 0, none⟩) 1 1) (w' := w2.alloc (.cells #[.int .i64 (a + 1 + (k : Int)), .slice (some ⟨w1.heap.size, 0, none⟩) 64 64] 112)) rfl (Lat.alloc _ _) (.inl (run_buildSlice32 rfl rfl rfl)) ?_
            simp only [Act.put, List.setIfInBounds_toArray, List.set_cons_succ, List.set_cons_zero]
            have hsrc : Src w w2 F (.slice (some ⟨w1.heap.size, 0, none⟩) 64 64) (packed (fun j => secOf ps (k * 32 + j)) (ps.length - k * 32)) := ⟨packed_ok _ _ (by omega), w1.heap.size, 0, 64, rfl, (Array.getElem?_eq_some_iff.1 hpk).1, fun hx => by have := HF.out _ hx; have := o1.size; omega, fun j u hu => by rw [Nat.zero_add, cell_of_row _ _ _ _ _ _ hpk]; simpa using hu, .inr ⟨_, hpk⟩⟩
            obtain ⟨v3, w3, hrun, hbl3, o3, hk3, hs3⟩ := (hbl1.keep o2).append (o1.trans o2 (by simp)) (i := a + 1 + (k : Int)) hsrc (by simp; omega) 79
            refine fr3 (u := v3) (w' := w3) rfl (.inl (run_builtin_append rfl rfl rfl hrun)) ?_
            simp only [Act.put, List.setIfInBounds_toArray, List.set_cons_succ, List.set_cons_zero]
            refine fr0 (u := v3) rfl (fun _ => rfl) ?_
            simp only [Act.put, List.setIfInBounds_toArray, List.set_cons_succ, List.set_cons_zero]
            refine frnil ?_
            have hb3 : w3.heap[w.heap.size]? = some (.cells A 3 (0, 0)) := by
              have h2 := (o2.block _ (Array.getElem?_eq_some_iff.1 hb1).1 (by simp)).trans hb1
              rw [hk3 _ (Array.getElem?_eq_some_iff.1 h2).1 (fun e => ?_)]
              · exact h2
              · obtain ⟨qs, _, q2, _⟩ := hbl1.keep o2
                obtain ⟨_, _, cur, hcur⟩ := ownsRow_own q2 e
                rw [hcur] at h2
                simp at h2
            have hnp : (List.range (k + 1)).map (numPut a ps) = (List.range k).map (numPut a ps) ++ [(a + 1 + (k : Int), packed (fun j => secOf ps (k * 32 + j)) (ps.length - k * 32))] := by
              rw [List.range_succ, List.map_append, List.map_cons, List.map_nil]
              congr 2
              unfold numPut
              rw [show min (k * 32 + 32) ps.length = ps.length by omega]
            rw [← hnp] at hbl3
            have FIN := Lib.hid (And.intro hbl3 (And.intro hb3 o3))
            clear hbl3 hb3 o3 hrun hk3 hs3 hsrc
            go_wp2
            go_roundw
            case rel => exact ⟨k + 1, by omega, by go_num, FIN.out.1, FIN.out.2.1, FIN.out.2.2⟩
            case measure => simp [intOf]; omega
        · have hkl2 : k = numsF ps.length := by omega
          subst hkl2
          obtain ⟨ca, ccap, hc8⟩ := hbl.slice
          simp only [List.length_map, List.length_range] at hc8
          subst hc8
          have c1 : wr.cell? ⟨wb, 1, none⟩ = some (.int .i64 a) := (HW.out.only ho (by simp)).cells.2.1
          have hnn : numsF ps.length ≤ 400 := by unfold numsF; omega
          have KEEP3 := Lib.hid (And.intro hbl ho)
          clear hbl hb ho
          go_wp2
          go_loopw [72, 8] (fun i c wq => ∃ k : Nat, k ≤ ps.length ∧ i = .int .i64 k ∧ Building w wq F c ((List.range (numsF ps.length)).map (numPut a ps) ++ (List.range k).map (bytPut a ps)) ∧ Only [] w wq) (fun i _ _ => ps.length - (intOf i).toNat)
          case atStart => exact ⟨0, by omega, rfl, by simpa using KEEP3.out.1, KEEP3.out.2⟩
          case round =>
            obtain ⟨k, hk, rfl, hbl, ho⟩ := hrel
            by_cases hlt3 : k < ps.length
            · obtain ⟨p, hp'⟩ : ∃ p, ps[k]? = some p := ⟨_, List.getElem?_eq_getElem hlt3⟩
              obtain ⟨a', cap', hsh, -, hall⟩ := HL.out.shape
              cases hsh
              obtain ⟨g1, o1, av, rfl, g1l, g2, q0, q1, hv⟩ := hall k p hp'
              have p0 : wr.cell? ⟨g1, o1 + k * 2, none⟩ = some (.int .i64 p.1) := (World.cell?_of_block (ho.block g1 g1l (by simp))).trans q0
              have p1 : wr.cell? ⟨g1, o1 + k * 2 + 1, none⟩ = some av := (World.cell?_of_block (ho.block g1 g1l (by simp))).trans q1
              have hsrc0 : Src w w F av p.2 := by
                obtain ⟨h1, g, o, cap, h2, h3, h4, h5⟩ := hv
                exact ⟨h1, g, o, cap, h2, h3, h4, h5, .inl h3⟩
              obtain ⟨_, g3, o3, cap3, rfl, _⟩ := hv
              have oal : Only [] wr (wr.alloc (.cells #[.int .i64 p.1, .slice (some ⟨g3, o3, none⟩) 64 cap3] 112)) := (Only.refl [] wr).alloc _
              have hsrc := hsrc0.keep (ho.trans oal (by simp)).size (fun x hx _ => (ho.trans oal (by simp)).block x hx (by simp))
              obtain ⟨v3, w3, hrun, hbl3, o3', hk3, hs3⟩ := (hbl.keep oal).append (ho.trans oal (by simp)) (i := a + 1 + (numsF ps.length : Int) + (k : Int)) hsrc (by simp; omega) 79
              rw [World.size_alloc] at hrun
              have hbp : ((List.range (numsF ps.length)).map (numPut a ps) ++ (List.range k).map (bytPut a ps)) ++ [(a + 1 + (numsF ps.length : Int) + (k : Int), p.2)] = (List.range (numsF ps.length)).map (numPut a ps) ++ (List.range (k + 1)).map (bytPut a ps) := by
                rw [List.range_succ, List.map_append, List.map_cons, List.map_nil, List.append_assoc]
                congr 3
                unfold bytPut
                rw [(at_of hp').2]
              rw [hbp] at hbl3
              have RUN := Lib.hid hrun
              have FIN := Lib.hid (And.intro hbl3 o3')
              clear hall hbl ho hp' q0 q1 hrun hbl3 o3' hk3 hs3 hsrc hsrc0 oal hbp
              go_wp2_with (refine wpL_value rfl (run_builtin_append rfl rfl rfl RUN.out) ?_)
              go_roundw
              case rel => exact ⟨k + 1, by omega, by go_num, FIN.out.1, FIN.out.2⟩
              case measure => simp [intOf]; omega
            · have hkl3 : k = ps.length := by omega
              subst hkl3
              have FIN := Lib.hid (And.intro hbl ho)
              clear hbl ho
              go_wp2
              go_ret
              refine CopiesPost.mk ?_ FIN.out.2
              exact FIN.out.1.puts HF.out (by simp; omega)

end Go.Proofs.Ytoccnaebckcfmaa
