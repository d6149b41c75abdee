/- What Boot of the document's own disk does. -/
import Derived.Test.YtabddepidhfelaaR3
set_option linter.unusedSimpArgs false
namespace Go.Proofs.Ytabddepidhfelaa
open Go.RowKit

/-- The cells of a row of writes. -/
structure Puts (w : World) (G : List Nat) (l : List (Int × Array Value)) (xs : List Value) : Prop where
  len : xs.length = l.length * 2
  cell : ∀ k p, l[k]? = some p → xs[k * 2]? = some (.int .i64 p.1) ∧ ∃ sv, xs[k * 2 + 1]? = some sv ∧ BytesIs w G sv p.2

theorem Puts.nil (w : World) (G : List Nat) : Puts w G [] [] := ⟨rfl, by simp⟩
theorem Puts.snoc {w : World} {G : List Nat} {l : List (Int × Array Value)} {xs : List Value} (h : Puts w G l xs) {p : Int × Array Value} {sv : Value} (hs : BytesIs w G sv p.2) : Puts w G (l ++ [p]) (xs ++ [.int .i64 p.1, sv]) := by
  refine ⟨by simp [h.len]; omega, fun k q hq => ?_⟩
  by_cases hk : k < l.length
  · rw [List.getElem?_append_left hk] at hq
    rw [List.getElem?_append_left (by rw [h.len]; omega), List.getElem?_append_left (by rw [h.len]; omega)]
    exact h.cell k q hq
  · rw [List.getElem?_append_right (by omega)] at hq
    have hk' : k = l.length := by
      have := (List.getElem?_eq_some_iff.1 hq).1
      simp at this
      omega
    subst hk'
    simp at hq
    subst hq
    rw [List.getElem?_append_right (by rw [h.len]; omega), List.getElem?_append_right (by rw [h.len]; omega), h.len]
    exact ⟨by simp, sv, by simp, hs⟩

theorem Puts.at_own {w w' : World} {G : List Nat} {l : List (Int × Array Value)} {xs : List Value} {base : Nat} {v : Value} (h : Puts w G l xs) (hown : w'.ownsRow base 71 2 v l.length xs) (he : ∀ x ∈ G, w'.heap[x]? = w.heap[x]?) :
    ∃ G', LAt w' (G' ++ G) v l ∧ ∀ x ∈ G', base ≤ x ∧ x < w'.heap.size := by
  rcases hown.2 with ⟨h1, h2⟩ | ⟨g, cap, cur, rfl, hb, hcur, _, _, _, htake⟩
  · exact ⟨[], .inl ⟨h1, List.eq_nil_of_length_eq_zero h2⟩, by simp⟩
  · refine ⟨[g], .inr ⟨g, cap, rfl, by simp, fun k p hp => ?_⟩, fun x hx => by simp at hx; subst hx; exact ⟨hb, (Array.getElem?_eq_some_iff.1 hcur).1⟩⟩
    have hk : k < l.length := (List.getElem?_eq_some_iff.1 hp).1
    obtain ⟨h1, sv, h2, h3⟩ := h.cell k p hp
    have hx : ∀ j, j < l.length * 2 → w'.cell? ⟨g, j, none⟩ = xs[j]? := fun j hj => by
      rw [cell_of_row _ _ _ _ _ _ hcur, ← htake, List.getElem?_take_of_lt hj, Array.getElem?_toList]
    exact ⟨by rw [hx _ (by omega)]; exact h1, sv, by rw [hx _ (by omega)]; exact h2, h3.to he (fun x hx => by simp [hx])⟩

def keptUp (keep : List Int) (L : List (Int × Array Value)) : Nat → List (Int × Array Value)
  | 0 => []
  | k + 1 => match L[k]? with
    | some p => if surv keep k then keptUp keep L k ++ [p] else keptUp keep L k
    | none => keptUp keep L k
theorem keptUp_some {keep : List Int} {L : List (Int × Array Value)} {k : Nat} {p : Int × Array Value} (h : L[k]? = some p) : keptUp keep L (k + 1) = if surv keep k then keptUp keep L k ++ [p] else keptUp keep L k := by
  rw [keptUp, h]
theorem replay_kept (B : Int → Option (Array Value)) (keep : List Int) (L : List (Int × Array Value)) : ∀ k, replay B (keptUp keep L k) = bootF B keep L k
  | 0 => rfl
  | k + 1 => by
    have ih := replay_kept B keep L k
    cases hp : L[k]? with
    | none => rw [bootF_none hp, keptUp, hp]; exact ih
    | some p =>
      rw [bootF_some hp, keptUp_some hp]
      split
      · rw [← ih]; simp [replay, List.foldl_append]
      · exact ih
theorem keptUp_mem {keep : List Int} {L : List (Int × Array Value)} : ∀ k p, p ∈ keptUp keep L k → p ∈ L
  | 0, p, h => by simp [keptUp] at h
  | k + 1, p, h => by
    cases hp : L[k]? with
    | none => rw [keptUp, hp] at h; exact keptUp_mem k p h
    | some q =>
      rw [keptUp_some hp] at h
      split at h
      · rcases List.mem_append.1 h with h | h
        · exact keptUp_mem k p h
        · simp at h; subst h; exact List.mem_of_getElem? hp
      · exact keptUp_mem k p h
theorem keptUp_len {keep : List Int} {L : List (Int × Array Value)} : ∀ k, (keptUp keep L k).length ≤ k
  | 0 => by simp [keptUp]
  | k + 1 => by
    have ih := keptUp_len (keep := keep) (L := L) k
    cases hp : L[k]? with
    | none => rw [keptUp, hp]; exact Nat.le_succ_of_le ih
    | some q => rw [keptUp_some hp]; split <;> simp <;> omega
theorem surv_nil' (k : Nat) : surv [] k = false := rfl
theorem keptUp_nil {L : List (Int × Array Value)} : ∀ k, keptUp [] L k = []
  | 0 => rfl
  | k + 1 => by
    have ih := keptUp_nil (L := L) k
    cases hp : L[k]? with
    | none => rw [keptUp, hp]; exact ih
    | some q => rw [keptUp_some hp, surv_nil']; exact ih

theorem info71 : (Try.prog.info? 71).map (fun i => (i.zero, i.size, i.bytes)) = some (some (.agg #[.int .i64 0, .slice none 0 0]), 2, 32) := by kernel_rfl
theorem info71s : (Try.prog.info? 71).map (·.size) = some 2 := by kernel_rfl
theorem build60 (x : Int) (a : Option Addr) (n c : Nat) (w : World) : (Instr.buildSlice 60 1 #[(0, .agg #[.int .i64 x, .slice a n c])]).run Try.prog w = .ok (.slice (some ⟨w.heap.size, 0, none⟩) 1 1) (w.alloc (.cells #[.int .i64 x, .slice a n c] 71)) := by kernel_rfl

section
variable {o : Oper} {a : Act} {w : World}
theorem run_load71 {x : Operand} {g k : Nat} {u v : Value} (ho : o.op = .load 71 x) (hx : a.eval x = .pointer (some ⟨g, k, none⟩)) (h1 : w.cell? ⟨g, k, none⟩ = some u) (h2 : w.cell? ⟨g, k + 1, none⟩ = some v) :
    (execOp a.eval o).run Try.prog w = .ok (.value (.agg #[u, v])) w := by
  have hr : w.rangeAt g k [u, v] := fun j q hq => by
    match j, hq with
    | 0, hq => simp at hq; subst hq; exact h1
    | 1, hq => simp at hq; subst hq; exact h2
    | j + 2, hq => simp at hq
  unfold execOp
  simp only [ho, hx, Instr.loadAt, Instr.sureAddr, Sem.run_bind, Sem.run_pure, Result.andThen_ok, run_loadVar_mid (P := Try.prog) w g k 71 [u, v] _ hr Try.underlying71 rfl (by rw [info71s]; rfl)]
theorem run_buildSlice60 {x : Operand} {i : Int} {sa : Option Addr} {n c : Nat} (ho : o.op = .buildSlice 60 1 #[(0, x)]) (hx : a.eval x = .agg #[.int .i64 i, .slice sa n c]) :
    (execOp a.eval o).run Try.prog w = .ok (.value (.slice (some ⟨w.heap.size, 0, none⟩) 1 1)) (w.alloc (.cells #[.int .i64 i, .slice sa n c] 71)) := by
  unfold execOp
  simp only [ho, List.map_toArray, List.map_cons, List.map_nil, hx, Sem.run_bind, build60, Result.andThen_ok, Sem.run_pure]
end

/-- One more write behind a row of its own. -/
theorem append60 {w : World} {base : Nat} {lv : Value} {n : Nat} {xs : List Value} (hown : w.ownsRow base 71 2 lv n xs) (hn : n < 1000000000) (hb : base ≤ w.heap.size) (i : Int) (sa : Option Addr) (m c : Nat) (t : TypeId) :
    ∃ v' w', (Builtin.append_ #[60, 60] t #[lv, .slice (some ⟨w.heap.size, 0, none⟩) 1 1]).run Try.prog (w.alloc (.cells #[.int .i64 i, .slice sa m c] 71)) = .ok v' w' ∧ w'.ownsRow base 71 2 v' (n + 1) (xs ++ [.int .i64 i, .slice sa m c]) ∧
      (∀ F w0, Only F w0 w → w0.heap.size ≤ base → Only F w0 w') := by
  obtain ⟨i0, hi, hz0, hz1, hz2⟩ := info_parts info71
  obtain ⟨v', w', hrun, hown', hgrow, hnil, hloc⟩ := run_append_own_at (P := Try.prog) (w.alloc (.cells #[.int .i64 i, .slice sa m c] 71)) base 60 t 71 i0 _ 2 32 Try.underlying60 hi hz0 hz1 hz2 (by simp [Value.cells]) (by omega)
    lv n xs (hown.alloc _) ⟨w.heap.size, 0, none⟩ 1 1 [.int .i64 i, .slice sa m c] (by simp)
    (fun j u hu => by
      rw [Addr.add_mid, Nat.zero_add, cell_of_row _ _ _ _ _ _ (heap_alloc_last w _)]
      simpa using hu)
    (fun u hu => by simp at hu; rcases hu with rfl | rfl <;> rfl) (by unfold maxLen; omega) (by omega) (by simp; omega)
  refine ⟨v', w', hrun, hown', fun F w0 ho hw0 => (ho.alloc _).grown hgrow (fun k hk => .inr ?_)⟩
  have := (hown.lt k hk).1
  omega

def RS.booted (R : RS) (keep : List Int) : RS := { R with B := bootF R.B keep R.L R.L.length, L := [], off := false, burns := false }

set_option maxHeartbeats 1000000 in
theorem rboot_tail {w : World} {r : Nat} {G : List Nat} {R R' : RS} (h : RAt w r G R) (e : R' = { R with off := false, burns := false }) :
    ((w.setCell ⟨r, 2, none⟩ (.bool false)).setCell ⟨r, 3, none⟩ (.bool false)) = ((w.setCell ⟨r, 2, none⟩ (.bool false)).setCell ⟨r, 3, none⟩ (.bool false)) ∧ RPost w ((w.setCell ⟨r, 2, none⟩ (.bool false)).setCell ⟨r, 3, none⟩ (.bool false)) r G R' := by
  obtain ⟨bv, lv, h⟩ := h
  subst e
  have ho : Only [r] w ((w.setCell ⟨r, 2, none⟩ (.bool false)).setCell ⟨r, 3, none⟩ (.bool false)) := ((Only.refl _ w).setCell (by simp) _).setCell (by simp) _
  refine ⟨rfl, h.scalar ?_ ho rfl rfl rfl ⟨h.ok.n1, h.ok.n2, h.ok.at', (fun hb => by cases hb), h.ok.N0⟩⟩
  rw [heap_setCell_row (heap_setCell_row h.row _ _)]
  rfl

set_option maxHeartbeats 1000000 in
theorem rboot_any {w : World} {r : Nat} {G : List Nat} {R : RS} {F : List Nat} {kv : Value} {keep : List Int} (h : RAt w r G R) (hk : KeepAt w F kv keep) (hlen : R.L.length < 1000000000) :
    Calls Try.prog 24 #[.pointer (some ⟨r, 0, none⟩), kv] w fun e w' => e = .returned (.tuple #[]) ∧ RPost w w' r G (R.booted keep) := by
  have HH := Lib.hid h
  obtain ⟨bv, lv, h⟩ := h
  obtain ⟨c0, c1, c2, c3, c4, c5, fz⟩ := h.cells
  have hr : r < w.heap.size := (Array.getElem?_eq_some_iff.1 h.row).1
  obtain ⟨la, lcap, rfl⟩ : ∃ a cap, lv = .slice a R.L.length cap := by
    rcases h.l with ⟨h1, h2⟩ | ⟨g, cap, h1, _⟩
    · exact ⟨none, 0, by rw [h1, h2]; rfl⟩
    · exact ⟨_, _, h1⟩
  have H := Lib.hid h
  have EB : Hid (R.booted keep = { R.settled (keptUp keep R.L R.L.length) with off := false, burns := false }) := by
    show _ = _
    simp only [RS.booted, RS.settled, replay_kept]
  obtain ⟨ad, kcap, rfl, hk1, hk2⟩ := hk
  by_cases hne : keep = []
  · subst hne
    rw [keptUp_nil] at EB
    have SE := Lib.hid (rsettle_any (lv := .slice none 0 0) (l := []) HH.out (.inl ⟨rfl, rfl⟩) (by simp) (by simp))
    clear h hk2 hk1
    go_enter Try.func24, Try.ntmps24
    go_wp2_with fail
    go_loopw [4, 5] (fun v q wr => v = .slice none 0 0 ∧ q = .int .i64 0 ∧ wr = w) (fun _ _ _ => 0)
    case atStart => exact ⟨rfl, rfl, rfl⟩
    case round =>
      obtain ⟨rfl, rfl, rfl⟩ := hrel
      by_cases hlt : 0 < R.L.length
      · go_wp2_with fail
        refine SE.out.mono ?_
        rintro e w1 ⟨rfl, G1, h1, hs, hfr, ho⟩
        clear c0 c1 c2 c3 c4 c5 fz SE
        have H1 := Lib.hid h1
        obtain ⟨bv1, lv1, h1⟩ := h1
        obtain ⟨c0, c1, c2, c3, c4, c5, fz⟩ := h1.cells
        clear h1
        go_wp2
        go_end0
        exact ⟨rfl, RPost.trans hs hfr ho (rboot_tail H1.out EB.out).2⟩
      · go_wp2_with fail
        refine SE.out.mono ?_
        rintro e w1 ⟨rfl, G1, h1, hs, hfr, ho⟩
        clear c0 c1 c2 c3 c4 c5 fz SE
        have H1 := Lib.hid h1
        obtain ⟨bv1, lv1, h1⟩ := h1
        obtain ⟨c0, c1, c2, c3, c4, c5, fz⟩ := h1.cells
        clear h1
        go_wp2
        go_end0
        exact ⟨rfl, RPost.trans hs hfr ho (rboot_tail H1.out EB.out).2⟩
  · obtain ⟨kg, ko, rfl, e2, e3, e4⟩ := hk2 hne
    have hpos : 0 < keep.length := List.length_pos_iff.2 hne
    have E4 := Lib.hid e4
    have HL := Lib.hid h.l
    have HNE := Lib.hid hne
    clear h hk2 e4 hne
    go_enter Try.func24, Try.ntmps24
    go_wp2_with fail
    go_loopw [4, 5] (fun v q wr => ∃ k : Nat, k ≤ R.L.length ∧ q = .int .i64 k ∧ ∃ xs, Puts w G (keptUp keep R.L k) xs ∧ wr.ownsRow w.heap.size 71 2 v (keptUp keep R.L k).length xs ∧ Only [] w wr) (fun _ q _ => R.L.length - (intOf q).toNat)
    case atStart => exact ⟨0, by omega, rfl, [], Puts.nil _ _, World.ownsRow_nil _ _ _ _, Only.refl _ _⟩
    case round =>
      obtain ⟨k, hk, rfl, xs, hxs, hown, ho⟩ := hrel
      rename_i v
      have hb := ho.block r hr (by simp)
      have d0 : wr.cell? ⟨r, 0, none⟩ = some bv := (World.cell?_of_block (w := w) hb).trans c0
      have d1 : wr.cell? ⟨r, 1, none⟩ = some (.slice la R.L.length lcap) := (World.cell?_of_block (w := w) hb).trans c1
      have hsz := ho.size
      have klen := keptUp_len (keep := keep) (L := R.L) k
      by_cases hlt : k < R.L.length
      · obtain ⟨p, hp⟩ : ∃ p, R.L[k]? = some p := ⟨R.L[k], List.getElem?_eq_getElem hlt⟩
        have KS := Lib.hid (keptUp_some (keep := keep) hp)
        rcases HL.out with ⟨_, h2⟩ | ⟨lg, lcap', hlv, hlg, hput⟩
        · rw [h2] at hlt; simp at hlt
        cases hlv
        obtain ⟨p1, psv, p2, p3⟩ := hput k p hp
        have hbl := ho.block lg (H.out.lt lg hlg) (by simp)
        have q1 : wr.cell? ⟨lg, k * 2, none⟩ = some (.int .i64 p.1) := (World.cell?_of_block (w := w) hbl).trans p1
        have q2 : wr.cell? ⟨lg, k * 2 + 1, none⟩ = some psv := (World.cell?_of_block (w := w) hbl).trans p2
        have hm : k % keep.length < keep.length := Nat.mod_lt _ hpos
        obtain ⟨z, hz⟩ : ∃ z, keep[k % keep.length]? = some z := ⟨_, List.getElem?_eq_getElem hm⟩
        have q3 : wr.cell? ⟨kg, ko + k % keep.length, none⟩ = some (.int .i64 z) := (World.cell?_of_block (w := w) (ho.block kg e2 (by simp))).trans (E4.out _ z hz)
        have hsv : surv keep k = (z.tmod 2 != 0) := by
          have : keep.isEmpty = false := by simpa using HNE.out
          simp only [surv, this, Bool.not_false, Bool.true_and]
          rw [List.getD_eq_getElem?_getD, hz]
          rfl
        cases hodd : (z.tmod 2 != 0) with
        | true =>
          rw [hodd] at hsv
          have KS2 : Hid (keptUp keep R.L (k + 1) = keptUp keep R.L k ++ [p]) := by show _ = _; rw [KS.out, hsv]; rfl
          have P3 := Lib.hid (hxs.snoc (p := p) p3)
          obtain ⟨g', cap', c, rfl, _⟩ := p3
          obtain ⟨v', w', hrun, hown', hon⟩ := append60 hown (by omega) hsz p.1 (some ⟨g', 0, none⟩) 64 cap' 60
          have HRUN := Lib.hid hrun
          have OWN := Lib.hid hown'
          have O1 := Lib.hid (hon [] w ho (Nat.le_refl _))
          have Q1 := Lib.hid q1
          have Q2 := Lib.hid q2
          clear hrun hown' hon hown ho hput p1 p2 hbl hp hz hxs hsv q1 q2 KS
          go_wp2_with (first | (refine wpL_value rfl (run_load71 rfl rfl Q1.out Q2.out) ?_) | (refine wpL_value rfl (run_buildSlice60 rfl rfl) ?_) | (refine wpL_value rfl (run_builtin_append rfl rfl rfl HRUN.out) ?_))
          go_roundw
          case rel => exact ⟨k + 1, by omega, by go_num, _, by rw [KS2.out]; exact P3.out, by rw [KS2.out, List.length_append]; exact OWN.out, O1.out⟩
          case measure => simp [intOf]; omega
        | false =>
          rw [hodd] at hsv
          have KS2 : Hid (keptUp keep R.L (k + 1) = keptUp keep R.L k) := by show _ = _; rw [KS.out, hsv]; rfl
          have P3 := Lib.hid hxs
          have OWN := Lib.hid hown
          have O1 := Lib.hid ho
          clear hown ho hput p1 p2 p3 hbl hp hz hxs hsv q1 q2 KS
          go_wp2
          go_roundw
          case rel => exact ⟨k + 1, by omega, by go_num, _, by rw [KS2.out]; exact P3.out, by rw [KS2.out]; exact OWN.out, O1.out⟩
          case measure => simp [intOf]; omega
      · have : k = R.L.length := by omega
        subst this
        obtain ⟨G', hl', hG'⟩ := hxs.at_own hown (fun x hx => ho.block x (H.out.lt x hx) (by simp))
        have hrG : r ∉ G' ++ G := fun hx => by
          rcases List.mem_append.1 hx with hx | hx
          · have := (hG' r hx).1; omega
          · exact H.out.out hx
        have hR' : RAt wr r (G' ++ G) R := HH.out.to (fun x hx => ho.block x (HH.out.lt x hx) (by simp)) (fun x hx => by simp [hx]) hrG (fun x hx => by
          rcases List.mem_append.1 hx with hx | hx
          · exact (hG' x hx).2
          · exact Nat.lt_of_lt_of_le (H.out.lt x hx) hsz)
        have SE := Lib.hid (rsettle_any hR' hl' (fun p hp => H.out.ok.at' p (keptUp_mem _ _ hp)) (by omega))
        have OO := Lib.hid ho
        have HG' := Lib.hid hG'
        clear hxs hown hl' hR' ho hb hG'
        go_wp2_with fail
        refine SE.out.mono ?_
        rintro e w1 ⟨rfl, G1, h1, hs, hfr, ho⟩
        clear c0 c1 c2 c3 c4 c5 fz SE d0 d1
        have H1 := Lib.hid h1
        obtain ⟨bv1, lv1, h1⟩ := h1
        obtain ⟨c0, c1, c2, c3, c4, c5, fz⟩ := h1.cells
        clear h1
        go_wp2
        go_end0
        refine ⟨rfl, RPost.trans (fun x hx => by simp [hx]) (fun x hx => ?_) (OO.out.mono (by simp)) (RPost.trans hs hfr ho (rboot_tail H1.out EB.out).2)⟩
        rcases List.mem_append.1 hx with hx | hx
        · exact .inr (HG'.out x hx).1
        · exact .inl hx

end Go.Proofs.Ytabddepidhfelaa
