/- What group does. -/
import Derived.Test.YtfkpehefofihmaaW17
set_option linter.unusedSimpArgs false
set_option linter.unusedVariables false
set_option maxRecDepth 8000
namespace Go.Proofs.Ytfkpehefofihmaa
open Go.RowKit

section
variable {o : Oper} {a : Act} {w : World}
theorem run_index32 {x y : Operand} {g off j n cap : Nat} (hj : j < n) (ho : o.op = .indexAddr 32 x y) (hx : a.eval x = .slice (some ⟨g, off, none⟩) n cap) (hy : a.eval y = .int .i64 j) : ∀ w, (execOp a.eval o).run Try.prog w = .ok (.value (.pointer (some ⟨g, off + j * 2, none⟩))) w := by
  intro w
  unfold execOp
  simp only [ho, hx, hy]
  go_simp
theorem run_field54m {x : Operand} {b off : Nat} (ho : o.op = .fieldAddr 54 x 0) (hx : a.eval x = .pointer (some ⟨b, off, none⟩)) :
    ∀ w, (execOp a.eval o).run Try.prog w = .ok (.value (.pointer (some ⟨b, off, none⟩))) w := by
  intro w
  unfold execOp
  simp only [ho, hx]
  go_simp
end

theorem nodup_more {l : List Int} {x : Int} (h : l.Nodup) (hx : ∀ y ∈ l, y ≠ x) : (l ++ [x]).Nodup := by
  rw [List.nodup_append]
  exact ⟨h, by simp, fun a ha b hb => by simp at hb; subst hb; exact hx a ha⟩
theorem not_twice {rs : List (Int × Nat)} {i k : Nat} {q r : Int × Nat} (h : (rs.map (·.1)).Nodup) (hik : i < k) (hq : rs[i]? = some q) (hr : rs[k]? = some r) (e : q.1 = r.1) : False := by
  have h1 : (rs.map (·.1))[i]? = some q.1 := by rw [List.getElem?_map, hq]; rfl
  have h2 : (rs.map (·.1))[k]? = some r.1 := by rw [List.getElem?_map, hr]; rfl
  obtain ⟨a1, a2⟩ := List.getElem?_eq_some_iff.1 h1
  obtain ⟨b1, b2⟩ := List.getElem?_eq_some_iff.1 h2
  exact List.pairwise_iff_getElem.1 h i k a1 b1 hik (a2.trans (e.trans b2.symm))

theorem RawsAt.only {w w' : World} {lv : Value} {rs : List (Int × Nat)} (h : RawsAt w lv rs) (ho : Only [] w w') : RawsAt w' lv rs := by
  obtain ⟨a, cap, h1, h2⟩ := h
  refine ⟨a, cap, h1, fun i r hr => ?_⟩
  obtain ⟨e0, g, o, ad, cap', e1, e2, e3, e4⟩ := h2 i r hr
  have hb := ho.block g e2 (by simp)
  exact ⟨e0, g, o, ad, cap', e1, Nat.lt_of_lt_of_le e2 ho.size, (World.cell?_of_block hb).trans e3, (World.cell?_of_block hb).trans e4⟩

set_option maxHeartbeats 2000000 in
theorem group_any {w : World} {lv : Value} {rs : List (Int × Nat)} (hl : RawsAt w lv rs) (a n : Int) (ha : 0 ≤ a) (ha1 : a ≤ 8192) :
    Calls Try.prog 14 #[lv, .int .i64 a, .int .i64 n] w fun e w' => ValidPost a 40 n rs w e w' := by
  obtain ⟨ad, cap, rfl, hall⟩ := hl
  have R := Lib.hid (room_any 40 w (by omega))
  rw [room40] at R
  by_cases hlen : (37 : Int) < (rs.length : Int)
  · have NG : Hid (¬ GroupOk a 40 n rs) := (fun h : GroupOk a 40 n rs => by have := h.1; rw [room40] at this; omega)
    clear hall
    go_enter Try.func14, Try.ntmps14
    go_wp2_with (go_at_call 24; refine R.out.mono ?_; rintro e w' ⟨rfl, rfl⟩)
    go_ret
    exact ValidPost.no NG.out (Only.refl _ _)
  · have HALL := Lib.hid hall
    have hlen2 : rs.length ≤ 37 := by omega
    clear hall
    go_enter Try.func14, Try.ntmps14
    go_wp2_with (go_at_call 24; refine R.out.mono ?_; rintro e w' ⟨rfl, rfl⟩)
    clear R
    go_loopw [7] (fun i wr => ∃ k : Nat, k ≤ rs.length ∧ i = .int .i64 k ∧ (∀ r ∈ rs.take k, PutOk a 40 n r) ∧ ((rs.take k).map (·.1)).Nodup ∧ Only [] w wr) (fun i _ => rs.length - (intOf i).toNat)
    case atStart => exact ⟨0, by omega, rfl, by simp, by simp, Only.refl _ _⟩
    case round =>
      rename World => wA
      obtain ⟨k, hk, rfl, hgood, hnd, ho⟩ := hrel
      by_cases hlt : k < rs.length
      · obtain ⟨r, hr⟩ : ∃ r, rs[k]? = some r := ⟨_, List.getElem?_eq_getElem hlt⟩
        obtain ⟨hr1, g1, o1, ad1, cap1, rfl, hg1, q0, q1⟩ := HALL.out k r hr
        have p0 : wA.cell? ⟨g1, o1 + k * 2, none⟩ = some (.int .i64 r.1) := (World.cell?_of_block (ho.block g1 hg1 (by simp))).trans q0
        have p1 : wA.cell? ⟨g1, o1 + k * 2 + 1, none⟩ = some (.slice ad1 r.2 cap1) := (World.cell?_of_block (ho.block g1 hg1 (by simp))).trans q1
        have hrm : r ∈ rs := List.mem_of_getElem? hr
        have KEEP := Lib.hid (And.intro hgood (And.intro hnd (And.intro ho hr)))
        have hoa : Only [] w (wA.alloc (.cells #[.int .i64 r.1, .slice ad1 r.2 cap1] 54)) := ho.alloc _
        have HOA := Lib.hid hoa
        clear q0 q1 hgood hnd ho hr hoa
        by_cases hc1 : r.1 < 0
        · have WHY : Hid (¬ PutOk a 40 n r) := (fun h : PutOk a 40 n r => absurd h.1 (by omega))
          go_wp2
          go_ret
          exact ValidPost.no (not_group hrm WHY.out) HOA.out
        by_cases hc2 : n ≤ r.1
        · have WHY : Hid (¬ PutOk a 40 n r) := (fun h : PutOk a 40 n r => absurd h.2.1 (by omega))
          go_wp2
          go_ret
          exact ValidPost.no (not_group hrm WHY.out) HOA.out
        by_cases hc3 : a ≤ r.1
        · by_cases hc4 : r.1 < a + 40
          · have WHY : Hid (¬ PutOk a 40 n r) := (fun h : PutOk a 40 n r => h.2.2.1 ⟨by omega, by omega⟩)
            go_wp2
            go_ret
            exact ValidPost.no (not_group hrm WHY.out) HOA.out
          · cases hc5 : ((r.2 : Int) != 64) with
            | true =>
              have WHY : Hid (¬ PutOk a 40 n r) := (fun h : PutOk a 40 n r => by have := h.2.2.2; simp at hc5; omega)
              go_wp2
              go_ret
              exact ValidPost.no (not_group hrm WHY.out) HOA.out
            | false =>
              have GOOD : Hid (PutOk a 40 n r) := (⟨by omega, by omega, by omega, by simp at hc5; omega⟩ : PutOk a 40 n r)
              have hblk : (wA.alloc (.cells #[.int .i64 r.1, .slice ad1 r.2 cap1] 54)).heap[wA.heap.size]? = some (.cells #[.int .i64 r.1, .slice ad1 r.2 cap1] 54 (0, 0)) := heap_alloc_last wA _
              have HBLK := Lib.hid hblk
              clear hblk
              go_wp2
              go_loopw [9] (fun j wq => ∃ i : Nat, i ≤ k ∧ j = .int .i64 i ∧ (∀ x, x < i → ∀ q, rs[x]? = some q → q.1 ≠ r.1) ∧ Only [] (wA.alloc (.cells #[.int .i64 r.1, .slice ad1 r.2 cap1] 54)) wq) (fun j _ => k - (intOf j).toNat)
              case atStart => exact ⟨0, by omega, rfl, fun x hx => absurd hx (by omega), Only.refl _ _⟩
              case round =>
                obtain ⟨i, hi, rfl, hne, hoq⟩ := hrel
                by_cases hik : i < k
                · obtain ⟨q, hq⟩ : ∃ q, rs[i]? = some q := ⟨_, List.getElem?_eq_getElem (by omega)⟩
                  obtain ⟨_, g2, o2, ad2, cap2, hsame, hg2, z0, z1⟩ := HALL.out i q hq
                  cases hsame
                  have ow := HOA.out.trans hoq (by simp)
                  have y0 : wr.drew.cell? ⟨g1, o1 + i * 2, none⟩ = some (.int .i64 q.1) := (World.cell?_of_block (ow.block g1 hg1 (by simp))).trans z0
                  have y1 : wr.drew.cell? ⟨wA.heap.size, 0, none⟩ = some (.int .i64 r.1) := by
                    have hb := (hoq.block _ (Array.getElem?_eq_some_iff.1 HBLK.out).1 (by simp)).trans HBLK.out
                    exact (cell_of_row wr _ _ _ _ _ hb).trans rfl
                  have KEEP2 := Lib.hid (And.intro hne (And.intro hoq hq))
                  have OD := Lib.hid ow.drew
                  clear hne hoq hq z0 z1 ow
                  cases heq : (q.1 == r.1) with
                  | true =>
                    have BAD : Hid (¬ GroupOk a 40 n rs) := (fun h : GroupOk a 40 n rs => by
                      have hn := h.2.2
                      have hqk := KEEP2.out.2.2
                      have hrk := KEEP.out.2.2.2
                      exact not_twice hn hik hqk hrk (by simpa using heq))
                    go_wp2_with fail
                    refine wp_region_flowR Lat [0, 0, 0, 0, 1, 0, 1, 0] (by kernel_rfl) (by kernel_rfl) Lat.refl Lat.trans ?_
                    refine fr0 rfl (fun _ => rfl) ?_
                    simp only [Act.put, List.setIfInBounds_toArray, List.set_cons_succ, List.set_cons_zero]
                    refine fr0 rfl (fun _ => rfl) ?_
                    simp only [Act.put, List.setIfInBounds_toArray, List.set_cons_succ, List.set_cons_zero]
                    refine fr0 rfl (run_index32 (n := rs.length) (by omega) rfl rfl rfl) ?_
                    simp only [Act.put, List.setIfInBounds_toArray, List.set_cons_succ, List.set_cons_zero]
                    refine fr0 rfl (run_field54m rfl rfl) ?_
                    simp only [Act.put, List.setIfInBounds_toArray, List.set_cons_succ, List.set_cons_zero]
                    refine fr1 (u := .int .i64 q.1) rfl (fun x hx => run_load1 rfl rfl (hx.cell y0) isAgg3) ?_
                    simp only [Act.put, List.setIfInBounds_toArray, List.set_cons_succ, List.set_cons_zero]
                    refine fr0 rfl (run_field54 (by omega) rfl rfl) ?_
                    simp only [Act.put, List.setIfInBounds_toArray, List.set_cons_succ, List.set_cons_zero]
                    refine fr1 (u := .int .i64 r.1) rfl (fun x hx => run_load1 rfl rfl (hx.cell y1) isAgg3) ?_
                    simp only [Act.put, List.setIfInBounds_toArray, List.set_cons_succ, List.set_cons_zero]
                    refine fr0 (u := .bool true) rfl (fun w => (run_eql3 rfl rfl rfl w).trans (by rw [heq])) ?_
                    simp only [Act.put, List.setIfInBounds_toArray, List.set_cons_succ, List.set_cons_zero]
                    refine frnil ?_
                    show Exit.then _ _ _ _ _
                    go_wp2
                    go_ret
                    exact ValidPost.no BAD.out OD.out
                  | false =>
                    go_wp2_with fail
                    refine wp_region_flowR Lat [0, 0, 0, 0, 1, 0, 1, 0] (by kernel_rfl) (by kernel_rfl) Lat.refl Lat.trans ?_
                    refine fr0 rfl (fun _ => rfl) ?_
                    simp only [Act.put, List.setIfInBounds_toArray, List.set_cons_succ, List.set_cons_zero]
                    refine fr0 rfl (fun _ => rfl) ?_
                    simp only [Act.put, List.setIfInBounds_toArray, List.set_cons_succ, List.set_cons_zero]
                    refine fr0 rfl (run_index32 (n := rs.length) (by omega) rfl rfl rfl) ?_
                    simp only [Act.put, List.setIfInBounds_toArray, List.set_cons_succ, List.set_cons_zero]
                    refine fr0 rfl (run_field54m rfl rfl) ?_
                    simp only [Act.put, List.setIfInBounds_toArray, List.set_cons_succ, List.set_cons_zero]
                    refine fr1 (u := .int .i64 q.1) rfl (fun x hx => run_load1 rfl rfl (hx.cell y0) isAgg3) ?_
                    simp only [Act.put, List.setIfInBounds_toArray, List.set_cons_succ, List.set_cons_zero]
                    refine fr0 rfl (run_field54 (by omega) rfl rfl) ?_
                    simp only [Act.put, List.setIfInBounds_toArray, List.set_cons_succ, List.set_cons_zero]
                    refine fr1 (u := .int .i64 r.1) rfl (fun x hx => run_load1 rfl rfl (hx.cell y1) isAgg3) ?_
                    simp only [Act.put, List.setIfInBounds_toArray, List.set_cons_succ, List.set_cons_zero]
                    refine fr0 (u := .bool false) rfl (fun w => (run_eql3 rfl rfl rfl w).trans (by rw [heq])) ?_
                    simp only [Act.put, List.setIfInBounds_toArray, List.set_cons_succ, List.set_cons_zero]
                    refine frnil ?_
                    show Exit.then _ _ _ _ _
                    go_wp2
                    go_roundw
                    case rel =>
                      obtain ⟨hne, hoq, hq⟩ := KEEP2.out
                      refine ⟨i + 1, by omega, by go_num, fun x hx q' hq' => ?_, hoq.drew⟩
                      by_cases hxi : x = i
                      · subst hxi
                        rw [hq] at hq'
                        cases hq'
                        simpa using heq
                      · exact hne x (by omega) q' hq'
                    case measure => simp [intOf]; omega
                · have hik2 : i = k := by omega
                  subst hik2
                  have KEEP2 := Lib.hid (And.intro hne hoq)
                  clear hne hoq
                  go_wp2
                  go_roundw
                  case rel =>
                    obtain ⟨hne, hoq⟩ := KEEP2.out
                    obtain ⟨hgood, hnd, ho, hr⟩ := KEEP.out
                    have ht : rs.take (i + 1) = rs.take i ++ [r] := by rw [List.take_add_one, hr]; rfl
                    refine ⟨i + 1, by omega, by go_num, ?_, ?_, HOA.out.trans hoq (by simp)⟩
                    · rw [ht]
                      intro x hx
                      rcases List.mem_append.1 hx with hx | hx
                      · exact hgood x hx
                      · simp at hx; rw [hx]; exact GOOD.out
                    · rw [ht, List.map_append, List.map_cons, List.map_nil]
                      exact nodup_more hnd (fun x hx e => by
                        obtain ⟨j, hj⟩ := List.mem_iff_getElem?.1 hx
                        rw [List.getElem?_map, Option.map_eq_some_iff] at hj
                        obtain ⟨q, hq, rfl⟩ := hj
                        rw [List.getElem?_take] at hq
                        split at hq
                        · exact hne j (by assumption) q hq e
                        · cases hq)
                  case measure => simp [intOf]; omega
        · have hc4 : True := trivial
          cases hc5 : ((r.2 : Int) != 64) with
          | true =>
            have WHY : Hid (¬ PutOk a 40 n r) := (fun h : PutOk a 40 n r => by have := h.2.2.2; simp at hc5; omega)
            go_wp2
            go_ret
            exact ValidPost.no (not_group hrm WHY.out) HOA.out
          | false =>
            have GOOD : Hid (PutOk a 40 n r) := (⟨by omega, by omega, by omega, by simp at hc5; omega⟩ : PutOk a 40 n r)
            have hblk : (wA.alloc (.cells #[.int .i64 r.1, .slice ad1 r.2 cap1] 54)).heap[wA.heap.size]? = some (.cells #[.int .i64 r.1, .slice ad1 r.2 cap1] 54 (0, 0)) := heap_alloc_last wA _
            have HBLK := Lib.hid hblk
            clear hblk
            go_wp2
            go_loopw [9] (fun j wq => ∃ i : Nat, i ≤ k ∧ j = .int .i64 i ∧ (∀ x, x < i → ∀ q, rs[x]? = some q → q.1 ≠ r.1) ∧ Only [] (wA.alloc (.cells #[.int .i64 r.1, .slice ad1 r.2 cap1] 54)) wq) (fun j _ => k - (intOf j).toNat)
            case atStart => exact ⟨0, by omega, rfl, fun x hx => absurd hx (by omega), Only.refl _ _⟩
            case round =>
              obtain ⟨i, hi, rfl, hne, hoq⟩ := hrel
              by_cases hik : i < k
              · obtain ⟨q, hq⟩ : ∃ q, rs[i]? = some q := ⟨_, List.getElem?_eq_getElem (by omega)⟩
                obtain ⟨_, g2, o2, ad2, cap2, hsame, hg2, z0, z1⟩ := HALL.out i q hq
                cases hsame
                have ow := HOA.out.trans hoq (by simp)
                have y0 : wr.drew.cell? ⟨g1, o1 + i * 2, none⟩ = some (.int .i64 q.1) := (World.cell?_of_block (ow.block g1 hg1 (by simp))).trans z0
                have y1 : wr.drew.cell? ⟨wA.heap.size, 0, none⟩ = some (.int .i64 r.1) := by
                  have hb := (hoq.block _ (Array.getElem?_eq_some_iff.1 HBLK.out).1 (by simp)).trans HBLK.out
                  exact (cell_of_row wr _ _ _ _ _ hb).trans rfl
                have KEEP2 := Lib.hid (And.intro hne (And.intro hoq hq))
                have OD := Lib.hid ow.drew
                clear hne hoq hq z0 z1 ow
                cases heq : (q.1 == r.1) with
                | true =>
                  have BAD : Hid (¬ GroupOk a 40 n rs) := (fun h : GroupOk a 40 n rs => by
                    have hn := h.2.2
                    have hqk := KEEP2.out.2.2
                    have hrk := KEEP.out.2.2.2
                    exact not_twice hn hik hqk hrk (by simpa using heq))
                  go_wp2_with fail
                  refine wp_region_flowR Lat [0, 0, 0, 0, 1, 0, 1, 0] (by kernel_rfl) (by kernel_rfl) Lat.refl Lat.trans ?_
                  refine fr0 rfl (fun _ => rfl) ?_
                  simp only [Act.put, List.setIfInBounds_toArray, List.set_cons_succ, List.set_cons_zero]
                  refine fr0 rfl (fun _ => rfl) ?_
                  simp only [Act.put, List.setIfInBounds_toArray, List.set_cons_succ, List.set_cons_zero]
                  refine fr0 rfl (run_index32 (n := rs.length) (by omega) rfl rfl rfl) ?_
                  simp only [Act.put, List.setIfInBounds_toArray, List.set_cons_succ, List.set_cons_zero]
                  refine fr0 rfl (run_field54m rfl rfl) ?_
                  simp only [Act.put, List.setIfInBounds_toArray, List.set_cons_succ, List.set_cons_zero]
                  refine fr1 (u := .int .i64 q.1) rfl (fun x hx => run_load1 rfl rfl (hx.cell y0) isAgg3) ?_
                  simp only [Act.put, List.setIfInBounds_toArray, List.set_cons_succ, List.set_cons_zero]
                  refine fr0 rfl (run_field54 (by omega) rfl rfl) ?_
                  simp only [Act.put, List.setIfInBounds_toArray, List.set_cons_succ, List.set_cons_zero]
                  refine fr1 (u := .int .i64 r.1) rfl (fun x hx => run_load1 rfl rfl (hx.cell y1) isAgg3) ?_
                  simp only [Act.put, List.setIfInBounds_toArray, List.set_cons_succ, List.set_cons_zero]
                  refine fr0 (u := .bool true) rfl (fun w => (run_eql3 rfl rfl rfl w).trans (by rw [heq])) ?_
                  simp only [Act.put, List.setIfInBounds_toArray, List.set_cons_succ, List.set_cons_zero]
                  refine frnil ?_
                  show Exit.then _ _ _ _ _
                  go_wp2
                  go_ret
                  exact ValidPost.no BAD.out OD.out
                | false =>
                  go_wp2_with fail
                  refine wp_region_flowR Lat [0, 0, 0, 0, 1, 0, 1, 0] (by kernel_rfl) (by kernel_rfl) Lat.refl Lat.trans ?_
                  refine fr0 rfl (fun _ => rfl) ?_
                  simp only [Act.put, List.setIfInBounds_toArray, List.set_cons_succ, List.set_cons_zero]
                  refine fr0 rfl (fun _ => rfl) ?_
                  simp only [Act.put, List.setIfInBounds_toArray, List.set_cons_succ, List.set_cons_zero]
                  refine fr0 rfl (run_index32 (n := rs.length) (by omega) rfl rfl rfl) ?_
                  simp only [Act.put, List.setIfInBounds_toArray, List.set_cons_succ, List.set_cons_zero]
                  refine fr0 rfl (run_field54m rfl rfl) ?_
                  simp only [Act.put, List.setIfInBounds_toArray, List.set_cons_succ, List.set_cons_zero]
                  refine fr1 (u := .int .i64 q.1) rfl (fun x hx => run_load1 rfl rfl (hx.cell y0) isAgg3) ?_
                  simp only [Act.put, List.setIfInBounds_toArray, List.set_cons_succ, List.set_cons_zero]
                  refine fr0 rfl (run_field54 (by omega) rfl rfl) ?_
                  simp only [Act.put, List.setIfInBounds_toArray, List.set_cons_succ, List.set_cons_zero]
                  refine fr1 (u := .int .i64 r.1) rfl (fun x hx => run_load1 rfl rfl (hx.cell y1) isAgg3) ?_
                  simp only [Act.put, List.setIfInBounds_toArray, List.set_cons_succ, List.set_cons_zero]
                  refine fr0 (u := .bool false) rfl (fun w => (run_eql3 rfl rfl rfl w).trans (by rw [heq])) ?_
                  simp only [Act.put, List.setIfInBounds_toArray, List.set_cons_succ, List.set_cons_zero]
                  refine frnil ?_
                  show Exit.then _ _ _ _ _
                  go_wp2
                  go_roundw
                  case rel =>
                    obtain ⟨hne, hoq, hq⟩ := KEEP2.out
                    refine ⟨i + 1, by omega, by go_num, fun x hx q' hq' => ?_, hoq.drew⟩
                    by_cases hxi : x = i
                    · subst hxi
                      rw [hq] at hq'
                      cases hq'
                      simpa using heq
                    · exact hne x (by omega) q' hq'
                  case measure => simp [intOf]; omega
              · have hik2 : i = k := by omega
                subst hik2
                have KEEP2 := Lib.hid (And.intro hne hoq)
                clear hne hoq
                go_wp2
                go_roundw
                case rel =>
                  obtain ⟨hne, hoq⟩ := KEEP2.out
                  obtain ⟨hgood, hnd, ho, hr⟩ := KEEP.out
                  have ht : rs.take (i + 1) = rs.take i ++ [r] := by rw [List.take_add_one, hr]; rfl
                  refine ⟨i + 1, by omega, by go_num, ?_, ?_, HOA.out.trans hoq (by simp)⟩
                  · rw [ht]
                    intro x hx
                    rcases List.mem_append.1 hx with hx | hx
                    · exact hgood x hx
                    · simp at hx; rw [hx]; exact GOOD.out
                  · rw [ht, List.map_append, List.map_cons, List.map_nil]
                    exact nodup_more hnd (fun x hx e => by
                      obtain ⟨j, hj⟩ := List.mem_iff_getElem?.1 hx
                      rw [List.getElem?_map, Option.map_eq_some_iff] at hj
                      obtain ⟨q, hq, rfl⟩ := hj
                      rw [List.getElem?_take] at hq
                      split at hq
                      · exact hne j (by assumption) q hq e
                      · cases hq)
                case measure => simp [intOf]; omega
      · have hkl : k = rs.length := by omega
        subst hkl
        rw [List.take_length] at hgood hnd
        have KEEP := Lib.hid (And.intro hgood (And.intro hnd ho))
        clear hgood hnd ho
        go_wp2
        go_ret
        obtain ⟨hgood, hnd, ho⟩ := KEEP.out
        exact ValidPost.mk (by simp only [true_iff]; exact ⟨by rw [room40]; omega, hgood, hnd⟩) ho

end Go.Proofs.Ytfkpehefofihmaa
