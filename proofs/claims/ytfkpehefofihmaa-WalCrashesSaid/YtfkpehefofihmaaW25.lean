/- What same does. -/
import Derived.Test.YtfkpehefofihmaaW24
set_option linter.unusedSimpArgs false
set_option linter.unusedVariables false
set_option maxRecDepth 8000
namespace Go.Proofs.Ytfkpehefofihmaa
open Go.RowKit

/-- A sector whose cells are bytes. -/
def IsB (c : Array Value) : Prop := ∃ l : List Int, l.length = 64 ∧ (∀ x ∈ l, 0 ≤ x ∧ x < 256) ∧ c = sec l

section
variable {o : Oper} {a : Act} {w : World}
theorem run_strT {x : Operand} {g cap : Nat} {l : List Int} {t : TypeId} {d : Array Value} (hl : l.length = 64) (hd : d.toList.take 64 = (sec l).toList) (ho : o.op = .convert 51 9 x) (hx : a.eval x = .slice (some ⟨g, 0, none⟩) 64 cap) (hb : w.heap[g]? = some (.cells d t (0, 0))) :
    (execOp a.eval o).run Try.prog w = .ok (.value (.string (strOf l))) w := by
  have hld : (loadCells ⟨g, 0, none⟩ 64).run Try.prog w = .ok (l.map (Value.int .u8)).toArray w := by
    have := run_loadCells_list (P := Try.prog) w ⟨g, 0, none⟩ (l.map (Value.int .u8)) (fun j v hv => by
      have hj : j < 64 := by have := (List.getElem?_eq_some_iff.1 hv).1; simp at this; omega
      rw [Addr.add_mid, Nat.zero_add, cell_of_row _ _ _ _ _ _ hb, ← Array.getElem?_toList]
      have h2 : (d.toList.take 64)[j]? = some v := by rw [hd]; simpa [sec] using hv
      rw [List.getElem?_take_of_lt hj] at h2
      exact h2)
    rw [List.length_map, hl] at this
    exact this
  unfold execOp
  simp only [ho, hx, Sem.run_bind, run_convert_bytes_string (P := Try.prog) w 51 9 5 _ 64 cap Try.underlying51 Try.underlying5 Try.underlying9, run_bytesToString (P := Try.prog) w ⟨g, 0, none⟩ 64 cap l hld, Result.andThen_ok, Sem.run_pure]
  rfl
theorem run_index29 {x y : Operand} {g off j n cap : Nat} (hj : j < n) (ho : o.op = .indexAddr 29 x y) (hx : a.eval x = .slice (some ⟨g, off, none⟩) n cap) (hy : a.eval y = .int .i64 j) : ∀ w, (execOp a.eval o).run Try.prog w = .ok (.value (.pointer (some ⟨g, off + j, none⟩))) w := by
  intro w
  unfold execOp
  simp only [ho, hx, hy]
  go_simp
theorem run_neqS2 {x y : Operand} {s t : ByteArray} (ho : o.op = .binOp .neq 9 x y 9) (hx : a.eval x = .string s) (hy : a.eval y = .string t) : ∀ w, (execOp a.eval o).run Try.prog w = .ok (.value (.bool (!(s.toList == t.toList)))) w := by
  intro w
  unfold execOp
  simp only [ho, hx, hy]
  go_simp
end

def SamePost (vs us : List (Array Value)) (w : World) (e : Ending) (w' : World) : Prop := ∃ r : Bool, e = .returned (.bool r) ∧ (r = true ↔ vs = us) ∧ Only [] w w'
theorem SamePost.mk {vs us : List (Array Value)} {w w' : World} {r : Bool} (h : r = true ↔ vs = us) (ho : Only [] w w') : SamePost vs us w (.returned (.bool r)) w' := Exists.intro r ⟨rfl, h, ho⟩
theorem sec_inj {l l' : List Int} (h : sec l = sec l') : l = l' := by
  have h1 : (sec l).toList = (sec l').toList := by rw [h]
  simp only [sec] at h1
  have := congrArg (List.map intOf) h1
  simpa [List.map_map, Function.comp_def, intOf] using this

set_option maxHeartbeats 2000000 in
theorem same_any {w : World} {G H : List Nat} {v u : Value} {vs us : List (Array Value)} (hv : QAt w G v vs) (hu : QAt w H u us) (bv : ∀ c ∈ vs, IsB c) (bu : ∀ c ∈ us, IsB c) (hs : vs.length ≤ 100000) :
    Calls Try.prog 22 #[v, u] w fun e w' => SamePost vs us w e w' := by
  obtain ⟨a1, c1, rfl⟩ := hv.slice
  obtain ⟨a2, c2, rfl⟩ := hu.slice
  have HV := Lib.hid (And.intro hv (And.intro hu (And.intro bv bu)))
  clear hv hu bv bu
  cases hlen : ((vs.length : Int) != (us.length : Int)) with
  | true =>
    have NE : Hid (vs ≠ us) := (fun e : vs = us => by rw [e] at hlen; simp at hlen)
    go_enter Try.func22, Try.ntmps22
    go_wp2
    go_ret
    exact SamePost.mk (by simp [NE.out]) (Only.refl _ _)
  | false =>
    have hle : vs.length = us.length := by simp at hlen; omega
    have HLE := Lib.hid hle
    clear hle
    go_enter Try.func22, Try.ntmps22
    go_wp2
    go_loopw [5] (fun i wr => ∃ k : Nat, k ≤ vs.length ∧ i = .int .i64 k ∧ vs.take k = us.take k ∧ Only [] w wr) (fun i _ => vs.length - (intOf i).toNat)
    case atStart => exact ⟨0, by omega, rfl, by simp, Only.refl _ _⟩
    case round =>
      obtain ⟨k, hk, rfl, hsame, ho⟩ := hrel
      by_cases hlt : k < vs.length
      · obtain ⟨x, hx⟩ : ∃ x, vs[k]? = some x := ⟨_, List.getElem?_eq_getElem hlt⟩
        obtain ⟨y, hy⟩ : ∃ y, us[k]? = some y := ⟨_, List.getElem?_eq_getElem (by have := HLE.out; omega)⟩
        obtain ⟨hv, hu, bv, bu⟩ := HV.out
        obtain ⟨g1, p1, gb1, cb1, t1, d1, e1, _, hg1, _, q1, _, hb1, hd1⟩ := hv.cells hx
        obtain ⟨g2, p2, gb2, cb2, t2, d2, e2, _, hg2, _, q2, _, hb2, hd2⟩ := hu.cells hy
        simp only [Value.slice.injEq] at e1 e2
        obtain ⟨rfl, -, rfl⟩ := e1
        obtain ⟨rfl, -, rfl⟩ := e2
        obtain ⟨l1, hl1, hr1, rfl⟩ := bv x (List.mem_of_getElem? hx)
        obtain ⟨l2, hl2, hr2, rfl⟩ := bu y (List.mem_of_getElem? hy)
        have od : Only [] w wr.drew := ho.drew
        have s1 : wr.drew.cell? ⟨g1, 0 + k, none⟩ = some (.slice (some ⟨gb1, 0, none⟩) 64 cb1) := by rw [Nat.zero_add]; exact (World.cell?_of_block (od.block g1 hg1 (by simp))).trans q1
        have s2 : wr.drew.cell? ⟨g2, 0 + k, none⟩ = some (.slice (some ⟨gb2, 0, none⟩) 64 cb2) := by rw [Nat.zero_add]; exact (World.cell?_of_block (od.block g2 hg2 (by simp))).trans q2
        have z1 : wr.drew.heap[gb1]? = some (.cells d1 t1 (0, 0)) := (od.block _ (Array.getElem?_eq_some_iff.1 hb1).1 (by simp)).trans hb1
        have z2 : wr.drew.heap[gb2]? = some (.cells d2 t2 (0, 0)) := (od.block _ (Array.getElem?_eq_some_iff.1 hb2).1 (by simp)).trans hb2
        have hlu : k < us.length := by have := HLE.out; omega
        have KEEP := Lib.hid (And.intro hsame (And.intro od (And.intro hx hy)))
        have seq := strOf_eq hr1 hr2
        clear hv hu bv bu q1 q2 hb1 hb2 hsame ho od hx hy hr1 hr2
        by_cases heq : l1 = l2
        · rw [decide_eq_true heq] at seq
          have HEQ := Lib.hid heq
          clear heq
          go_wp2_with fail
          refine wp_region_flowR Lat [0, 0, 0, 1, 1, 0, 0, 0, 1, 1, 0] (by kernel_rfl) (by kernel_rfl) Lat.refl Lat.trans ?_
          refine fr0 (u := .slice (some ⟨g1, 0, none⟩) vs.length c1) rfl (fun _ => rfl) ?_
          simp only [Act.put, List.setIfInBounds_toArray, List.set_cons_succ, List.set_cons_zero]
          refine fr0 (u := .int .i64 (k : Int)) rfl (fun _ => rfl) ?_
          simp only [Act.put, List.setIfInBounds_toArray, List.set_cons_succ, List.set_cons_zero]
          refine fr0 rfl (run_index29 (n := vs.length) (by omega) rfl rfl rfl) ?_
          simp only [Act.put, List.setIfInBounds_toArray, List.set_cons_succ, List.set_cons_zero]
          refine fr1 (u := .slice (some ⟨gb1, 0, none⟩) 64 cb1) rfl (fun x hx => run_load1 rfl rfl (hx.cell s1) isAgg51) ?_
          simp only [Act.put, List.setIfInBounds_toArray, List.set_cons_succ, List.set_cons_zero]
          refine fr1 (u := .string (strOf l1)) rfl (fun x hx => run_strT hl1 hd1 rfl rfl (hx.at z1)) ?_
          simp only [Act.put, List.setIfInBounds_toArray, List.set_cons_succ, List.set_cons_zero]
          refine fr0 (u := .slice (some ⟨g2, 0, none⟩) us.length c2) rfl (fun _ => rfl) ?_
          simp only [Act.put, List.setIfInBounds_toArray, List.set_cons_succ, List.set_cons_zero]
          refine fr0 (u := .int .i64 (k : Int)) rfl (fun _ => rfl) ?_
          simp only [Act.put, List.setIfInBounds_toArray, List.set_cons_succ, List.set_cons_zero]
          refine fr0 rfl (run_index29 (n := us.length) hlu rfl rfl rfl) ?_
          simp only [Act.put, List.setIfInBounds_toArray, List.set_cons_succ, List.set_cons_zero]
          refine fr1 (u := .slice (some ⟨gb2, 0, none⟩) 64 cb2) rfl (fun x hx => run_load1 rfl rfl (hx.cell s2) isAgg51) ?_
          simp only [Act.put, List.setIfInBounds_toArray, List.set_cons_succ, List.set_cons_zero]
          refine fr1 (u := .string (strOf l2)) rfl (fun x hx => run_strT hl2 hd2 rfl rfl (hx.at z2)) ?_
          simp only [Act.put, List.setIfInBounds_toArray, List.set_cons_succ, List.set_cons_zero]
          refine fr0 (u := .bool false) rfl (fun w => (run_neqS2 rfl rfl rfl w).trans (by rw [seq]; rfl)) ?_
          simp only [Act.put, List.setIfInBounds_toArray, List.set_cons_succ, List.set_cons_zero]
          refine frnil ?_
          show Exit.then _ _ _ _ _
          clear s1 s2 z1 z2 seq
          go_wp2
          go_roundw
          case rel =>
            obtain ⟨hsame, od, hx, hy⟩ := KEEP.out
            refine ⟨k + 1, by omega, by go_num, ?_, od⟩
            rw [List.take_add_one, List.take_add_one, hsame, hx, hy, HEQ.out]
          case measure => simp [intOf]; omega
        · rw [decide_eq_false heq] at seq
          have HEQ := Lib.hid heq
          clear heq
          go_wp2_with fail
          refine wp_region_flowR Lat [0, 0, 0, 1, 1, 0, 0, 0, 1, 1, 0] (by kernel_rfl) (by kernel_rfl) Lat.refl Lat.trans ?_
          refine fr0 (u := .slice (some ⟨g1, 0, none⟩) vs.length c1) rfl (fun _ => rfl) ?_
          simp only [Act.put, List.setIfInBounds_toArray, List.set_cons_succ, List.set_cons_zero]
          refine fr0 (u := .int .i64 (k : Int)) rfl (fun _ => rfl) ?_
          simp only [Act.put, List.setIfInBounds_toArray, List.set_cons_succ, List.set_cons_zero]
          refine fr0 rfl (run_index29 (n := vs.length) (by omega) rfl rfl rfl) ?_
          simp only [Act.put, List.setIfInBounds_toArray, List.set_cons_succ, List.set_cons_zero]
          refine fr1 (u := .slice (some ⟨gb1, 0, none⟩) 64 cb1) rfl (fun x hx => run_load1 rfl rfl (hx.cell s1) isAgg51) ?_
          simp only [Act.put, List.setIfInBounds_toArray, List.set_cons_succ, List.set_cons_zero]
          refine fr1 (u := .string (strOf l1)) rfl (fun x hx => run_strT hl1 hd1 rfl rfl (hx.at z1)) ?_
          simp only [Act.put, List.setIfInBounds_toArray, List.set_cons_succ, List.set_cons_zero]
          refine fr0 (u := .slice (some ⟨g2, 0, none⟩) us.length c2) rfl (fun _ => rfl) ?_
          simp only [Act.put, List.setIfInBounds_toArray, List.set_cons_succ, List.set_cons_zero]
          refine fr0 (u := .int .i64 (k : Int)) rfl (fun _ => rfl) ?_
          simp only [Act.put, List.setIfInBounds_toArray, List.set_cons_succ, List.set_cons_zero]
          refine fr0 rfl (run_index29 (n := us.length) hlu rfl rfl rfl) ?_
          simp only [Act.put, List.setIfInBounds_toArray, List.set_cons_succ, List.set_cons_zero]
          refine fr1 (u := .slice (some ⟨gb2, 0, none⟩) 64 cb2) rfl (fun x hx => run_load1 rfl rfl (hx.cell s2) isAgg51) ?_
          simp only [Act.put, List.setIfInBounds_toArray, List.set_cons_succ, List.set_cons_zero]
          refine fr1 (u := .string (strOf l2)) rfl (fun x hx => run_strT hl2 hd2 rfl rfl (hx.at z2)) ?_
          simp only [Act.put, List.setIfInBounds_toArray, List.set_cons_succ, List.set_cons_zero]
          refine fr0 (u := .bool true) rfl (fun w => (run_neqS2 rfl rfl rfl w).trans (by rw [seq]; rfl)) ?_
          simp only [Act.put, List.setIfInBounds_toArray, List.set_cons_succ, List.set_cons_zero]
          refine frnil ?_
          show Exit.then _ _ _ _ _
          clear s1 s2 z1 z2 seq
          go_wp2
          go_ret
          obtain ⟨hsame, od, hx, hy⟩ := KEEP.out
          refine SamePost.mk ?_ od
          simp only [Bool.false_eq_true, false_iff]
          intro e
          rw [e, hy] at hx
          simp at hx
          exact HEQ.out (sec_inj hx).symm
      · have hkl : k = vs.length := by omega
        subst hkl
        have EQ : Hid (vs = us) := (by rw [List.take_length, HLE.out, List.take_length] at hsame; exact hsame : vs = us)
        have HO := Lib.hid ho
        clear hsame ho
        go_wp2
        go_ret
        exact SamePost.mk (by simp [EQ.out]) HO.out

end Go.Proofs.Ytfkpehefofihmaa
