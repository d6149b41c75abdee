/- What settle and Barrier of the document's own disk do. -/
import Derived.Test.YtabddepidhfelaaR2
set_option linter.unusedSimpArgs false
namespace Go.Proofs.Ytabddepidhfelaa
open Go.RowKit

section
variable {o : Oper} {a : Act}
theorem run_index60 {x y : Operand} {lg k n cap : Nat} (hk : k < n) (ho : o.op = .indexAddr 60 x y) (hx : a.eval x = .slice (some ⟨lg, 0, none⟩) n cap) (hy : a.eval y = .int .i64 k) : ∀ w, (execOp a.eval o).run Try.prog w = .ok (.value (.pointer (some ⟨lg, k * 2, none⟩))) w := by
  intro w
  unfold execOp
  simp only [ho, hx, hy]
  go_simp
theorem run_index59 {x y : Operand} {g i n cap : Nat} (hi : i < n) (ho : o.op = .indexAddr 59 x y) (hx : a.eval x = .slice (some ⟨g, 0, none⟩) n cap) (hy : a.eval y = .int .i64 i) : ∀ w, (execOp a.eval o).run Try.prog w = .ok (.value (.pointer (some ⟨g, i, none⟩))) w := by
  intro w
  unfold execOp
  simp only [ho, hx, hy]
  go_simp
theorem run_field71 {x : Operand} {lg q k : Nat} (hk : k < 2) (ho : o.op = .fieldAddr 71 x k) (hx : a.eval x = .pointer (some ⟨lg, q, none⟩)) : ∀ w, (execOp a.eval o).run Try.prog w = .ok (.value (.pointer (some ⟨lg, q + k, none⟩))) w := by
  intro w
  unfold execOp
  simp only [ho, hx]
  match k, hk with
  | 0, _ | 1, _ => go_simp
theorem isAgg37 (w : World) : (isAgg 37).run Try.prog w = .ok false w := by kernel_rfl
theorem sizeOf37 (w : World) : (sizeOf 37).run Try.prog w = .ok 1 w := by kernel_rfl
end

theorem build59 (w : World) : (Instr.buildSlice 59 0 #[]).run Try.prog w = .ok (.slice (some ⟨w.heap.size, 0, none⟩) 0 0) (w.alloc (.cells #[] 37)) := by kernel_rfl

/-- 'append([][]byte{}, b...)': a row of its own. -/
theorem append59 {w : World} {G : List Nat} {bv : Value} {n : Nat} {B : Int → Option (Array Value)} (hb : BAt w G bv n B) (hG : ∀ x ∈ G, x < w.heap.size) (n1 : 1 ≤ n) (n2 : n ≤ 8192) (t : TypeId) :
    ∃ g1 cap1 w1 cur, (Builtin.append_ #[59, 59] t #[.slice (some ⟨w.heap.size, 0, none⟩) 0 0, bv]).run Try.prog (w.alloc (.cells #[] 37)) = .ok (.slice (some ⟨g1, 0, none⟩) n cap1) w1 ∧ w.heap.size ≤ g1 ∧ g1 < w1.heap.size ∧
      w1.heap[g1]? = some (.cells cur 37 (0, 0)) ∧ (∀ j : Nat, j < n → ∃ sv, cur[j]? = some sv ∧ SecIs w G sv (B j)) ∧ Only [] w w1 := by
  obtain ⟨g, cap, rfl, hg, hB⟩ := hb
  obtain ⟨i0, hi, hz0, hz1, hz2⟩ := info_parts info37
  have hown0 : (w.alloc (.cells #[] 37)).ownsRow 0 37 1 (.slice (some ⟨w.heap.size, 0, none⟩) 0 0) 0 [] := ⟨rfl, .inr ⟨w.heap.size, 0, #[], rfl, Nat.zero_le _, heap_alloc_last w _, Nat.le_refl _, Nat.zero_le _, rfl, rfl⟩⟩
  have hsec : ∀ j : Nat, j < n → ∃ sv, w.cell? ⟨g, j, none⟩ = some sv ∧ (w.cell? ⟨g, j, none⟩).getD (.slice none 0 0) = sv ∧ SecIs w G sv (B j) := fun j hj => by
    obtain ⟨sv, h1, h2⟩ := hB j hj
    exact ⟨sv, h1, by rw [h1]; rfl, h2⟩
  obtain ⟨v', w', hrun, hown, hgrow, hnil, hloc⟩ := run_append_own_at (P := Try.prog) (w.alloc (.cells #[] 37)) 0 59 t 37 i0 _ 1 24 Try.underlying59 hi hz0 hz1 hz2 (by simp [Value.cells]) (by omega)
    (.slice (some ⟨w.heap.size, 0, none⟩) 0 0) 0 [] hown0 ⟨g, 0, none⟩ n cap ((List.range n).map (fun j => (w.cell? ⟨g, j, none⟩).getD (.slice none 0 0))) (by simp)
    (fun j u hu => by
      simp only [List.getElem?_map, Option.map_eq_some_iff] at hu
      obtain ⟨j', hj', rfl⟩ := hu
      obtain ⟨hlt, rfl⟩ := List.getElem?_eq_some_iff.1 hj'
      simp only [List.length_range, List.getElem_range] at hlt ⊢
      obtain ⟨sv, h1, h2, _⟩ := hsec j hlt
      rw [Addr.add_mid, Nat.zero_add, World.cell?_alloc_lt _ _ _ (hG g hg), h1]
      rfl)
    (fun u hu => by
      obtain ⟨j, hj, rfl⟩ := List.mem_map.1 hu
      obtain ⟨sv, h1, h2, h3⟩ := hsec j (by simpa using hj)
      rw [h2]
      rcases h3 with ⟨_, rfl⟩ | ⟨v, _, g', cap', c, rfl, _⟩ <;> rfl) (by unfold maxLen; omega) (by omega) (Nat.zero_le _)
  rw [Nat.zero_add, List.nil_append] at hown
  rcases hown.2 with ⟨_, h0⟩ | ⟨g1, cap1, cur, rfl, _, hcur, _, _, _, htake⟩
  · omega
  refine ⟨g1, cap1, w', cur, hrun, ?_, (Array.getElem?_eq_some_iff.1 hcur).1, hcur, fun j hj => ?_, ((Only.refl [] w).alloc (.cells #[] 37)).grown hgrow (fun k hk => ?_)⟩
  · rcases hloc with h | h <;> simp [Value.ownBlock] at h <;> omega
  · obtain ⟨sv, h1, h2, h3⟩ := hsec j hj
    refine ⟨sv, ?_, h3⟩
    have := congrArg (fun l => l[j]?) htake
    simp only [Nat.mul_one, List.getElem?_map] at this
    rw [List.getElem?_take_of_lt hj, Array.getElem?_toList] at this
    rw [this, List.getElem?_range hj]
    simp [h1]
  · simp [Value.ownBlock] at hk
    exact .inr (by omega)

def RS.settled (R : RS) (l : List (Int × Array Value)) : RS := { R with B := replay R.B l, L := [] }

set_option maxHeartbeats 1000000 in
theorem rsettle_any {w : World} {r : Nat} {G : List Nat} {R : RS} {lv : Value} {l : List (Int × Array Value)} (h : RAt w r G R) (hl : LAt w G lv l) (hat : ∀ p ∈ l, 0 ≤ p.1 ∧ p.1 < R.n) (hlen : l.length < 1000000000) :
    Calls Try.prog 36 #[.pointer (some ⟨r, 0, none⟩), lv] w fun e w' => e = .returned (.tuple #[]) ∧ RPost w w' r G (R.settled l) := by
  obtain ⟨bv, lv0, h⟩ := h
  obtain ⟨c0, c1, c2, c3, c4, c5, fz⟩ := h.cells
  have hr : r < w.heap.size := (Array.getElem?_eq_some_iff.1 h.row).1
  obtain ⟨la, lcap, rfl⟩ : ∃ a cap, lv = .slice a l.length cap := by
    rcases hl with ⟨h1, h2⟩ | ⟨g, cap, h1, _⟩
    · exact ⟨none, 0, by rw [h1, h2]; rfl⟩
    · exact ⟨_, _, h1⟩
  have hb0 := build59
  have H := Lib.hid h
  have HL := Lib.hid hl
  have HAT := Lib.hid hat
  obtain ⟨g1, cap1, w1, cur, hrun, hg1, hg1', hcur, hsec, ho1⟩ := append59 h.b h.lt h.ok.n1 h.ok.n2 59
  have HRUN := Lib.hid hrun
  have n2 := h.ok.n2
  clear h hl hat hrun
  go_enter Try.func36, Try.ntmps36
  go_wp2_with (refine wpL_value rfl (run_builtin_append rfl rfl rfl HRUN.out) ?_)
  have CUR := Lib.hid hcur
  have SEC := Lib.hid hsec
  have O1 := Lib.hid ho1
  clear hcur hsec ho1
  go_loopw [5] (fun q wr => ∃ k : Nat, k ≤ l.length ∧ q = .int .i64 k ∧ ∃ cur, wr.heap[g1]? = some (.cells cur 37 (0, 0)) ∧ (∀ j : Nat, j < R.n → ∃ sv, cur[j]? = some sv ∧ SecIs w G sv (replay R.B (l.take k) j)) ∧ Only [] w wr) (fun i _ => l.length - (intOf i).toNat)
  case atStart => exact ⟨0, by omega, rfl, cur, CUR.out, SEC.out, O1.out⟩
  case round =>
    clear CUR SEC O1 HRUN
    obtain ⟨k, hk, rfl, cur, hcur, hsec, ho⟩ := hrel
    by_cases hlt : k < l.length
    · obtain ⟨p, hp⟩ : ∃ p, l[k]? = some p := ⟨l[k], List.getElem?_eq_getElem hlt⟩
      have hpat := HAT.out p (List.mem_of_getElem? hp)
      obtain ⟨j, hj⟩ : ∃ j : Nat, p.1 = j := ⟨p.1.toNat, by omega⟩
      rcases HL.out with ⟨_, h2⟩ | ⟨lg, lcap', hlv, hlg, hput⟩
      · rw [h2] at hlt; simp at hlt
      cases hlv
      obtain ⟨p1, psv, p2, p3⟩ := hput k p hp
      have hlglt := H.out.lt lg hlg
      have hbl := ho.block lg hlglt (by simp)
      have q1 : wr.cell? ⟨lg, k * 2 + 0, none⟩ = some (.int .i64 j) := by rw [Nat.add_zero, ← hj]; exact (World.cell?_of_block (w := w) hbl).trans p1
      have q2 : wr.cell? ⟨lg, k * 2 + 1, none⟩ = some psv := (World.cell?_of_block (w := w) hbl).trans p2
      have hjn : j < R.n := by omega
      obtain ⟨sv0, hs0, _⟩ := hsec j hjn
      have q3 : wr.cell? ⟨g1, j, none⟩ = some sv0 := (cell_of_row _ _ _ _ _ _ hcur).trans hs0
      have q4 : wr.frozen? ⟨g1, j, none⟩ = false := by simp [World.frozen?, hcur]
      have hpsv : psv.oneCell' = true ∧ psv.cells = #[psv] := by obtain ⟨g', cap', c, rfl, _⟩ := p3; exact ⟨rfl, rfl⟩
      have cur' := heap_setCell_row (w := wr.drew) hcur j psv
      have ho' : Only [] w (wr.drew.setCell ⟨g1, j, none⟩ psv) := ho.drew.setCell (.inr hg1) _
      have hsec' : ∀ q : Nat, q < R.n → ∃ sv, (cur.setIfInBounds j psv)[q]? = some sv ∧ SecIs w G sv (replay R.B (l.take (k + 1)) q) := fun q hq => by
        rw [replay_take hp]
        obtain ⟨sv, h1, h2⟩ := hsec q hq
        by_cases hqj : q = j
        · subst hqj
          have hsz := (Array.getElem?_eq_some_iff.1 h1).1
          exact ⟨psv, by simp [hsz], .inr ⟨p.2, by simp [updF, hj], p3⟩⟩
        · have hne : ¬ ((q : Int) = p.1) := by omega
          exact ⟨sv, by rw [Array.getElem?_setIfInBounds_ne (fun e => hqj e.symm)]; exact h1, by simp only [updF]; rw [if_neg hne]; exact h2⟩
      have SEC := Lib.hid hsec'
      have CUR := Lib.hid cur'
      have O1 := Lib.hid ho'
      have Q1 := Lib.hid q1
      have Q2 := Lib.hid q2
      clear hsec hsec' cur' ho' ho hput p1 p2 p3 hcur hbl hs0 q1 q2
      go_wp2_with fail
      refine wp_region_flow Lat [0, 0, 0, 0, 0, 1, 0, 0, 0, 0, 1, 0, 3] (by kernel_rfl) (by kernel_rfl) Lat.refl Lat.trans ?_
      refine fl0 (u := .slice (some ⟨g1, 0, none⟩) R.n cap1) (by kernel_rfl) (fun _ => by kernel_rfl) ?_
      refine fl0 (u := .slice (some ⟨lg, 0, none⟩) l.length lcap) (by kernel_rfl) (fun _ => by kernel_rfl) ?_
      refine fl0 (u := .int .i64 k) (by kernel_rfl) (fun _ => by kernel_rfl) ?_
      simp only [Act.put, List.setIfInBounds_toArray, List.set_cons_succ, List.set_cons_zero]
      refine fl0 (u := .pointer (some ⟨lg, k * 2, none⟩)) (by kernel_rfl) (run_index60 hlt rfl rfl rfl) ?_
      refine fl0 (u := .pointer (some ⟨lg, k * 2 + 0, none⟩)) (by kernel_rfl) (run_field71 (by omega) rfl rfl) ?_
      simp only [Act.put, List.setIfInBounds_toArray, List.set_cons_succ, List.set_cons_zero]
      refine fl1 (u := .int .i64 j) (by kernel_rfl) (fun x hx => run_load1 rfl rfl (hx.cell Q1.out) isAgg3) ?_
      refine fl0 (u := .slice (some ⟨lg, 0, none⟩) l.length lcap) (by kernel_rfl) (fun _ => by kernel_rfl) ?_
      refine fl0 (u := .int .i64 k) (by kernel_rfl) (fun _ => by kernel_rfl) ?_
      simp only [Act.put, List.setIfInBounds_toArray, List.set_cons_succ, List.set_cons_zero]
      refine fl0 (u := .pointer (some ⟨lg, k * 2, none⟩)) (by kernel_rfl) (run_index60 hlt rfl rfl rfl) ?_
      refine fl0 (u := .pointer (some ⟨lg, k * 2 + 1, none⟩)) (by kernel_rfl) (run_field71 (by omega) rfl rfl) ?_
      simp only [Act.put, List.setIfInBounds_toArray, List.set_cons_succ, List.set_cons_zero]
      refine fl1 (u := psv) (by kernel_rfl) (fun x hx => run_load1 rfl rfl (hx.cell Q2.out) isAgg37) ?_
      refine fl0 (u := .pointer (some ⟨g1, j, none⟩)) (by kernel_rfl) (run_index59 hjn rfl rfl rfl) ?_
      simp only [Act.put, List.setIfInBounds_toArray, List.set_cons_succ, List.set_cons_zero]
      refine fl3 (u := undef) (w' := wr.drew.setCell ⟨g1, j, none⟩ psv) (by kernel_rfl) (.inr (.inl ⟨run_store1 rfl rfl rfl q3 q4 hpsv.1 sizeOf37 hpsv.2, rfl⟩)) ?_
      refine flnil ?_
      have SEC2 : Hid (∃ cur, (wr.drew.setCell ⟨g1, j, none⟩ psv).heap[g1]? = some (.cells cur 37 (0, 0)) ∧ (∀ q : Nat, q < R.n → ∃ sv, cur[q]? = some sv ∧ SecIs w G sv (replay R.B (l.take (k + 1)) q)) ∧ Only [] w (wr.drew.setCell ⟨g1, j, none⟩ psv)) := ⟨_, CUR.out, SEC.out, O1.out⟩
      generalize wr.drew.setCell ⟨g1, j, none⟩ psv = w9 at *
      clear SEC CUR O1 Q1 Q2 q3 q4
      go_wp2
      go_roundw
      case rel => exact ⟨k + 1, by omega, by go_num, SEC2.out⟩
      case measure => simp [intOf]; omega
    · have : k = l.length := by omega
      subst this
      rw [List.take_length] at hsec
      have hb := ho.block r hr (by simp)
      have d0 : wr.cell? ⟨r, 0, none⟩ = some bv := (World.cell?_of_block (w := w) hb).trans c0
      have d1 : wr.cell? ⟨r, 1, none⟩ = some lv0 := (World.cell?_of_block (w := w) hb).trans c1
      have f1 : ∀ i, wr.frozen? ⟨r, i, none⟩ = false := fun i => (World.frozen?_of_block (w := w) hb).trans (fz i)
      have hrow := hb.trans H.out.row
      have ROW := Lib.hid hrow
      have SEC := Lib.hid hsec
      have CUR := Lib.hid hcur
      have O1 := Lib.hid ho
      clear hsec hcur ho hb hrow c0 c1 c2 c3 c4 c5 fz
      go_wp2
      go_end0
      have h := H.out
      have hrg : g1 ≠ r := by omega
      have ho2 : Only [r] w ((wr.setCell ⟨r, 0, none⟩ (.slice (some ⟨g1, 0, none⟩) R.n cap1)).setCell ⟨r, 1, none⟩ (.slice none 0 0)) := ((O1.out.mono (by simp)).setCell (by simp) _).setCell (by simp) _
      have he : ∀ x ∈ G, ((wr.setCell ⟨r, 0, none⟩ (.slice (some ⟨g1, 0, none⟩) R.n cap1)).setCell ⟨r, 1, none⟩ (.slice none 0 0)).heap[x]? = w.heap[x]? := fun x hx => ho2.block x (h.lt x hx) (fun hx' => h.out (by simp at hx'; subst hx'; exact hx))
      have hc2 : ((wr.setCell ⟨r, 0, none⟩ (.slice (some ⟨g1, 0, none⟩) R.n cap1)).setCell ⟨r, 1, none⟩ (.slice none 0 0)).heap[g1]? = some (.cells cur 37 (0, 0)) := ((Below.heap_setCell _ _ _ _ (by simpa using hrg)).trans (Below.heap_setCell _ _ _ _ (by simpa using hrg))).trans CUR.out
      refine ⟨rfl, g1 :: G, ⟨.slice (some ⟨g1, 0, none⟩) R.n cap1, .slice none 0 0, ?_, ⟨g1, cap1, rfl, by simp, fun i hi => ?_⟩, .inl ⟨rfl, rfl⟩, ?_, fun x hx => ?_, ⟨h.ok.n1, h.ok.n2, by simp [RS.settled], h.ok.left0, h.ok.N0⟩⟩, fun x hx => by simp [hx], fun x hx => ?_, ho2⟩
      · rw [heap_setCell_row (heap_setCell_row ROW.out _ _)]
        rfl
      · obtain ⟨sv, h1, h2⟩ := SEC.out i hi
        exact ⟨sv, (cell_of_row _ _ _ _ _ _ hc2).trans h1, h2.to he (fun x hx => by simp [hx])⟩
      · simp only [List.mem_cons, not_or]
        exact ⟨fun e => hrg e.symm, h.out⟩
      · rcases List.mem_cons.1 hx with rfl | hx
        · exact (Array.getElem?_eq_some_iff.1 hc2).1
        · exact Nat.lt_of_lt_of_le (h.lt x hx) ho2.size
      · rcases List.mem_cons.1 hx with rfl | hx
        · exact .inr hg1
        · exact .inl hx

theorem RPost.trans {w w1 w2 : World} {r : Nat} {G G1 : List Nat} {R2 : RS} (hs : ∀ x ∈ G, x ∈ G1) (h1 : ∀ x ∈ G1, x ∈ G ∨ w.heap.size ≤ x) (ho : Only [r] w w1) (h2 : RPost w1 w2 r G1 R2) : RPost w w2 r G R2 := by
  obtain ⟨G2, r2, s2, f2, o2⟩ := h2
  refine ⟨G2, r2, fun x hx => s2 x (hs x hx), fun x hx => ?_, ho.trans o2 (fun x hx => .inl hx)⟩
  rcases f2 x hx with h | h
  · exact h1 x h
  · exact .inr (Nat.le_trans ho.size h)

open Classical in
noncomputable def RS.doBarrier (R : RS) : Int × RS := if R.off = true then (2, R) else if R.falls then (2, R.fallen) else (0, R.stepped.settled R.L)

theorem RAt.self {w : World} {r : Nat} {G : List Nat} {R : RS} (h : RAt w r G R) : RPost w w r G R := ⟨G, h, fun _ hx => hx, fun _ hx => .inl hx, Only.refl _ _⟩

set_option maxHeartbeats 1000000 in
theorem rbarrier_any {w : World} {r : Nat} {G : List Nat} {R : RS} (h : RAt w r G R) (hlen : R.L.length < 1000000000) (hN : R.N < 1000000000) :
    Calls Try.prog 19 #[.pointer (some ⟨r, 0, none⟩)] w fun e w' => e = .returned (.int .i64 R.doBarrier.1) ∧ RPost w w' r G R.doBarrier.2 := by
  have HH := Lib.hid h
  obtain ⟨bv, lv, h⟩ := h
  obtain ⟨c0, c1, c2, c3, c4, c5, fz⟩ := h.cells
  clear h
  unfold RS.doBarrier
  cases hoff : R.off with
  | true =>
    rw [hoff] at c2
    rw [if_pos rfl]
    clear hoff
    go_enter Try.func19, Try.ntmps19
    go_wp2
    go_ret
    exact ⟨rfl, HH.out.self⟩
  | false =>
    rw [hoff] at c2
    rw [if_neg (by simp)]
    by_cases hf : R.falls
    · rw [if_pos hf]
      have ST := Lib.hid (rstep_zero HH.out hf)
      clear hf hoff
      go_enter Try.func19, Try.ntmps19
      go_wp2_with fail
      refine ST.out.mono ?_
      rintro e w1 ⟨rfl, hp⟩
      go_wp2
      go_ret
      exact ⟨rfl, hp⟩
    · rw [if_neg hf]
      have ST := Lib.hid (rstep_ok HH.out hf hN)
      clear hf hoff
      go_enter Try.func19, Try.ntmps19
      go_wp2_with fail
      refine ST.out.mono ?_
      rintro e w1 ⟨rfl, G1, h1, hs, hfr, ho⟩
      clear c0 c1 c2 c3 c4 c5 fz ST
      have H1 := Lib.hid h1
      obtain ⟨bv1, lv1, h1⟩ := h1
      obtain ⟨c0, c1, c2, c3, c4, c5, fz⟩ := h1.cells
      have SE := Lib.hid (rsettle_any (l := R.L) H1.out h1.l (fun p hp => h1.ok.at' p hp) hlen)
      clear h1
      go_wp2_with fail
      refine SE.out.mono ?_
      rintro e w2 ⟨rfl, hp⟩
      go_wp2
      go_ret
      exact ⟨rfl, RPost.trans hs hfr ho hp⟩

end Go.Proofs.Ytabddepidhfelaa
