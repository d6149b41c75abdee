/- ground; ints. -/
import Derived.Test.YtoccnaebckcfmaaL0
set_option linter.unusedSimpArgs false
set_option linter.unusedVariables false
set_option maxRecDepth 8000
namespace Go.Proofs.Ytoccnaebckcfmaa
open Go.RowKit
open Go.ChangeMaps (setBlock)

def f00 : Int → Option (Array Value) := updF (fun _ => none) 0 (headA 0 40 0 0)
def Ground3 (w0 : World) (most : Int) (Rs : List Res) (e : Ending) (w' : World) : Prop :=
  ∃ d FD wb cb F, e = .returned (.tuple #[pp d, pp cb]) ∧ Has w0 w' (CRes cb d wb F (CaS.new most) :: DRes d FD (quiet 100 2 f00) :: WRes wb d 0 40 0 :: Rs)
theorem Ground3.mk {w0 : World} {most : Int} {Rs : List Res} {w' : World} {d wb cb : Nat} {FD F : List Nat} (h : Has w0 w' (CRes cb d wb F (CaS.new most) :: DRes d FD (quiet 100 2 f00) :: WRes wb d 0 40 0 :: Rs)) : Ground3 w0 most Rs (.returned (.tuple #[.pointer (some ⟨d, 0, none⟩), .pointer (some ⟨cb, 0, none⟩)])) w' := ⟨d, FD, wb, cb, F, rfl, h⟩

set_option maxHeartbeats 2000000 in
theorem ground3_any {w0 w : World} {Rs : List Res} (h : Has w0 w Rs) {most : Int} (h1 : 1 ≤ most) (h2 : most ≤ 9223372036854775807) : Calls Try.prog 10 #[.int .i64 most] w fun e w' => Ground3 w0 most Rs e w' := by
  have N := Lib.hid (has_new h 100 (by omega) (by omega))
  clear h
  go_enter Try.func10, Try.ntmps10
  go_wp2_with fail
  refine N.out.mono ?_
  rintro e w1 ⟨b, F, rfl, h1'⟩
  have hq : St.new 100 = quiet 100 0 (fun _ => none) := rfl
  rw [hq] at h1'
  have FO := Lib.hid (has_format h1' (a := 0) (s := 40) (by omega) (by omega) (by omega) (by omega) (by omega))
  clear N h1' hq
  go_wp2_with fail
  refine FO.out.mono ?_
  rintro e w2 ⟨rfl, F2, h2'⟩
  have OP := Lib.hid (has_open (g := 0) h2' rfl (a := 0) (s := 40) (by omega) (by omega) (by simp only [quiet]; omega) (by omega) (by omega) (by simp [quiet, updF]))
  clear FO h2'
  go_wp2_with fail
  refine OP.out.mono ?_
  rintro e w3 ⟨wb, rfl, h3⟩
  have CN := Lib.hid (has_cnew h3.swap b wb h1 h2)
  clear OP h3
  go_wp2_with fail
  refine CN.out.mono ?_
  rintro e w4 ⟨cb, F4, rfl, h4⟩
  have FIN := Lib.hid (Ground3.mk h4)
  clear CN h4
  show _
  unfold pp
  go_wp2
  go_ret2
  exact FIN.out

/-- A slice of numbers. -/
def IntsAt (w : World) (v : Value) (l : List Int) : Prop := ∃ a cap, v = .slice a l.length cap ∧ l.length ≤ 1000000 ∧ (l ≠ [] → ∃ g, a = some ⟨g, 0, none⟩ ∧ ∀ j x, l[j]? = some x → w.cell? ⟨g, j, none⟩ = some (.int .i64 x))
theorem IntsAt.of {w : World} {base : Nat} {v : Value} {l : List Int} (h : w.ownsRow base 3 1 v l.length (l.map (Value.int .i64))) (hl : l.length ≤ 1000000) : IntsAt w v l := by
  rcases h.2 with ⟨e, hn⟩ | ⟨g, cap, cur, e, _, hh, _, _, _, h4⟩
  · exact ⟨none, 0, by rw [e, hn], hl, fun hne => absurd (List.eq_nil_of_length_eq_zero hn) hne⟩
  · refine ⟨_, cap, e, hl, fun _ => ⟨g, rfl, fun j x hx => ?_⟩⟩
    have hj := (List.getElem?_eq_some_iff.1 hx).1
    have := congrArg (·[j]?) h4
    simp only [Nat.mul_one, List.getElem?_take_of_lt hj, List.getElem?_map, hx, Option.map_some] at this
    rw [cell_of_row _ _ _ _ _ _ hh, ← Array.getElem?_toList, this]
theorem IntsAt.only {w w' : World} {v : Value} {l : List Int} (h : IntsAt w v l) (o : Only [] w w') : IntsAt w' v l := by
  obtain ⟨a, cap, e, hl, hc⟩ := h
  refine ⟨a, cap, e, hl, fun hne => ?_⟩
  obtain ⟨g, ha, hx⟩ := hc hne
  exact ⟨g, ha, fun j x hj => (World.cell?_of_block (o.block g (World.block_lt_of_cell? w ⟨g, j, none⟩ (hx j x hj)) (by simp))).trans (hx j x hj)⟩

section
variable {o : Oper} {a : Act} {w : World}
theorem run_index40 {x y : Operand} {g off j n cap : Nat} (hj : j < n) (ho : o.op = .indexAddr 40 x y) (hx : a.eval x = .slice (some ⟨g, off, none⟩) n cap) (hy : a.eval y = .int .i64 j) : ∀ w, (execOp a.eval o).run Try.prog w = .ok (.value (.pointer (some ⟨g, off + j, none⟩))) w := by
  intro w
  unfold execOp
  simp only [ho, hx, hy]
  go_simp
end

def IntsPost (l1 l2 : List Int) (w : World) (e : Ending) (w' : World) : Prop := ∃ r : Bool, e = .returned (.bool r) ∧ (r = true ↔ l1 = l2) ∧ Only [] w w'
theorem IntsPost.mk {l1 l2 : List Int} {w w' : World} {r : Bool} (h : r = true ↔ l1 = l2) (o : Only [] w w') : IntsPost l1 l2 w (.returned (.bool r)) w' := ⟨r, rfl, h, o⟩

set_option maxHeartbeats 2000000 in
theorem ints_any {w : World} {v1 v2 : Value} {l1 l2 : List Int} (h1 : IntsAt w v1 l1) (h2 : IntsAt w v2 l2) : Calls Try.prog 23 #[v1, v2] w fun e w' => IntsPost l1 l2 w e w' := by
  obtain ⟨a1, cap1, rfl, n1, hc1⟩ := h1
  obtain ⟨a2, cap2, rfl, n2, hc2⟩ := h2
  by_cases hlen : l1.length = l2.length
  · have hlb : ((l1.length : Int) != (l2.length : Int)) = false := by simp [hlen]
    have HC1 := Lib.hid hc1
    have HC2 := Lib.hid hc2
    clear hc1 hc2
    go_enter Try.func23, Try.ntmps23
    go_wp2
    go_loopw [5] (fun i wr => ∃ k : Nat, k ≤ l1.length ∧ i = .int .i64 k ∧ Only [] w wr ∧ l1.take k = l2.take k) (fun i _ => l1.length - (RowKit.intOf i).toNat)
    case atStart => exact ⟨0, by omega, rfl, Only.refl _ _, by simp⟩
    case round =>
      obtain ⟨k, hk, rfl, ow, he⟩ := hrel
      by_cases hkl : k < l1.length
      · obtain ⟨x1, hx1⟩ : ∃ x, l1[k]? = some x := ⟨_, List.getElem?_eq_getElem hkl⟩
        obtain ⟨x2, hx2⟩ : ∃ x, l2[k]? = some x := ⟨_, List.getElem?_eq_getElem (by omega)⟩
        obtain ⟨g1, rfl, q1'⟩ := HC1.out (fun e => by rw [e] at hkl; simp at hkl)
        obtain ⟨g2, rfl, q2'⟩ := HC2.out (fun e => by rw [e] at hlen; simp at hlen; rw [hlen] at hkl; simp at hkl)
        have t1 := q1' k x1 hx1
        have t2 := q2' k x2 hx2
        have q1 : wr.drew.cell? ⟨g1, k, none⟩ = some (.int .i64 x1) := (World.cell?_of_block (ow.block g1 (World.block_lt_of_cell? w ⟨g1, k, none⟩ t1) (by simp))).trans t1
        have q2 : wr.drew.cell? ⟨g2, k, none⟩ = some (.int .i64 x2) := (World.cell?_of_block (ow.block g2 (World.block_lt_of_cell? w ⟨g2, k, none⟩ t2) (by simp))).trans t2
        have q1z : wr.drew.cell? ⟨g1, 0 + k, none⟩ = some (.int .i64 x1) := by rw [Nat.zero_add]; exact q1
        have q2z : wr.drew.cell? ⟨g2, 0 + k, none⟩ = some (.int .i64 x2) := by rw [Nat.zero_add]; exact q2
        have OW := Lib.hid ow.drew
        have HE := Lib.hid he
        clear ow he q1' q2' t1 t2
        go_wp2_with fail
        refine wp_region_flowR Lat [0, 0, 0, 1, 0, 0, 0, 1, 0] (by kernel_rfl) (by kernel_rfl) Lat.refl Lat.trans ?_
        refine fr0 rfl (fun _ => rfl) ?_
        simp only [Act.put, List.setIfInBounds_toArray, List.set_cons_succ, List.set_cons_zero]
        refine fr0 rfl (fun _ => rfl) ?_
        simp only [Act.put, List.setIfInBounds_toArray, List.set_cons_succ, List.set_cons_zero]
        refine fr0 (u := .pointer (some ⟨g1, 0 + k, none⟩)) rfl (run_index40 (n := l1.length) (by omega) rfl rfl rfl) ?_
        simp only [Act.put, List.setIfInBounds_toArray, List.set_cons_succ, List.set_cons_zero]
        refine fr1 (u := .int .i64 x1) rfl (fun x hx => run_load1 rfl rfl (hx.cell q1z) isAgg3) ?_
        simp only [Act.put, List.setIfInBounds_toArray, List.set_cons_succ, List.set_cons_zero]
        refine fr0 rfl (fun _ => rfl) ?_
        simp only [Act.put, List.setIfInBounds_toArray, List.set_cons_succ, List.set_cons_zero]
        refine fr0 rfl (fun _ => rfl) ?_
        simp only [Act.put, List.setIfInBounds_toArray, List.set_cons_succ, List.set_cons_zero]
        refine fr0 (u := .pointer (some ⟨g2, 0 + k, none⟩)) rfl (run_index40 (n := l2.length) (by omega) rfl rfl rfl) ?_
        simp only [Act.put, List.setIfInBounds_toArray, List.set_cons_succ, List.set_cons_zero]
        refine fr1 (u := .int .i64 x2) rfl (fun x hx => run_load1 rfl rfl (hx.cell q2z) isAgg3) ?_
        simp only [Act.put, List.setIfInBounds_toArray, List.set_cons_succ, List.set_cons_zero]
        refine fr0 (u := .bool (x1 != x2)) rfl (run_neq rfl rfl rfl) ?_
        simp only [Act.put, List.setIfInBounds_toArray, List.set_cons_succ, List.set_cons_zero]
        refine frnil ?_
        show Exit.then _ _ _ _ _
        generalize wr.drew = w5 at *
        clear q1 q2 q1z q2z
        by_cases hxx : x1 = x2
        · have hb : (x1 != x2) = false := by simp [hxx]
          go_wp2
          go_roundw
          case rel => exact ⟨k + 1, by omega, by go_num, OW.out, by rw [List.take_add_one, List.take_add_one, HE.out, hx1, hx2, hxx]⟩
          case measure => simp [RowKit.intOf]; omega
        · have hb : (x1 != x2) = true := by simp [hxx]
          have FIN : Hid (IntsPost l1 l2 w (.returned (.bool false)) w5) := IntsPost.mk (by
            constructor
            · intro h; cases h
            · intro h; rw [h, hx2] at hx1; exact absurd (Option.some.inj hx1).symm hxx) OW.out
          go_wp2
          go_ret
          exact FIN.out
      · have hkk : k = l1.length := by omega
        subst hkk
        have FIN : Hid (IntsPost l1 l2 w (.returned (.bool true)) wr) := IntsPost.mk (by
          rw [List.take_length, hlen, List.take_length] at he
          simp [he]) ow
        clear ow he
        go_wp2
        go_ret
        exact FIN.out
  · have hlb : ((l1.length : Int) != (l2.length : Int)) = true := by simp; omega
    clear hc1 hc2
    go_enter Try.func23, Try.ntmps23
    go_wp2
    go_ret
    exact IntsPost.mk (by
      constructor
      · intro h; cases h
      · intro h; rw [h] at hlen; exact absurd rfl hlen) (Only.refl _ _)
end Go.Proofs.Ytoccnaebckcfmaa
