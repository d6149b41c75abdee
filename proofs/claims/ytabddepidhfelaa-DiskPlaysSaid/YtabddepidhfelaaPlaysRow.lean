/- Proved: DiskPlays returns true for every input, and each argument reads afterwards as it read before. No condition beyond the row's own. -/
import Derived.Test.YtabddepidhfelaaFrame
import Derived.Test.YtabddepidhfelaaR9
import Derived.Test.YtabddepidhfelaaR10
import Derived.Deep.Slices
import Derived.SizedLaws
set_option linter.unusedSimpArgs false
set_option linter.unusedVariables false
namespace Go.Proofs.Ytabddepidhfelaa
open Go.ChangeShapes Go.WideShapes Go.ChangeAt Go.RowKit

theorem plays_all (w : World) (n : Int) (a : Option Addr) (len cap : Nat) (kd at_ n_ by_ : Nat → Int) (kp : Nat → Value) (keep : Nat → List Int) (hl : len ≤ 9223372036854775807) (ho : PlayAt w a len kd at_ n_ by_ kp keep) :
    Calls Try.prog 3 #[.int .i64 n, .slice a len cap] w fun e w' => e = .returned (.bool true) ∧ Only [] w w' := by
  by_cases hn : n < 1 ∨ 8192 < n
  · exact plays_out w n a len cap hn
  · obtain ⟨N, rfl⟩ : ∃ N : Nat, n = N := ⟨n.toNat, by omega⟩
    rcases Nat.lt_or_ge 300 len with h | h
    · exact plays_in1 w N (by omega) (by omega) a len cap kd at_ n_ by_ kp keep hl ho h
    · exact plays_in0 w N (by omega) (by omega) a len cap kd at_ n_ by_ kp keep hl ho h

section
variable {H : Type} {enc : TypeId × Value → H} {w : World}

theorem bytes3 : Try.prog.bytesOf 3 = 8 := by kernel_rfl

theorem keep_open {fuel : Nat} {cs : List Value} {x : DataW H × List MemPlace} (h : DataW.trod enc Try.prog w 0 (fun _ => true) true fuel 33 cs = some x) (hw : ∀ n ∈ x.1.weights Try.prog 33, n ≤ reachBytes) :
    ∃ kv keep, cs = [kv] ∧ (∀ F : List Nat, (∀ y ∈ F, w.heap.size ≤ y) → KeepAt w F kv keep) ∧ keep.length * 8 ≤ 140737488351232 := by
  rcases open_ints Try.underlying33 Try.underlying3 (by kernel_rfl) h with ⟨hcs, _⟩ | ⟨y, l, c, zs, hcs, _, hl, hm, hz, hx, hcell, hwz⟩
  · exact ⟨_, [], hcs, fun F _ => ⟨none, 0, rfl, by simp, fun hne => absurd rfl hne⟩, by simp⟩
  · rw [hcs] at h
    obtain ⟨keep, hk⟩ := ints_open (a := some y) (len := l) (cap := c) h
    refine ⟨_, keep, hcs, hk, ?_⟩
    obtain ⟨ad, cap, he, _⟩ := hk [] (by simp)
    simp only [Value.slice.injEq] at he
    have hb := hw ((zs.take l).length * 8 + (zs.drop l).length * 8) (by
      rw [hx]
      simp only [DataW.weights, Try.underlying33, bytes3, lits, List.length_map, List.mem_cons]
      left
      omega)
    simp at hz
    simp only [List.length_take, List.length_drop, reachBytes] at hb
    omega

theorem weights_all {P : Program} {e : TypeId} : ∀ {l : List (DataW H)} {d : DataW H}, d ∈ l → ∀ n ∈ d.weights P e, n ∈ DataW.weightsAll P e l
  | x :: l, d, hd, n, hn => by
    simp only [DataW.weightsAll, List.mem_append]
    rcases List.mem_cons.1 hd with rfl | hd
    · exact .inl hn
    · exact .inr (weights_all hd n hn)

/-- A slice of calls that came in, as the law reads it. -/
theorem plays_open {fuel : Nat} {a : Option Addr} {len cap : Nat} {x : DataW H × List MemPlace} (h : DataW.trod enc Try.prog w 0 (fun _ => true) true fuel 22 (Value.slice a len cap).cells.toList = some x) (hw : ∀ n ∈ x.1.weights Try.prog 22, n ≤ reachBytes) :
    len ≤ 9223372036854775807 ∧ ∃ kd at_ n_ by_ kp keep, PlayAt w a len kd at_ n_ by_ kp keep := by
  have hc35 : Try.prog.cellsOf 35 = 5 := by kernel_rfl
  rcases Go.Deep.open_slice Try.underlying22 h with ⟨hcs, _⟩ | ⟨ad, l, c, m, n, D, Pl, hcs, hb, hl, hm, hmm, hx, hi⟩
  · simp [Value.cells] at hcs
    obtain ⟨rfl, rfl, rfl⟩ := hcs
    exact ⟨by omega, fun _ => 0, fun _ => 0, fun _ => 0, fun _ => 0, fun _ => .slice none 0 0, fun _ => [], ⟨fun i hi => by omega, fun i hi => by omega, fun i hi => by omega⟩⟩
  · simp [Value.cells] at hcs
    obtain ⟨rfl, rfl, rfl⟩ := hcs
    simp at hmm
    subst hmm
    refine ⟨by unfold maxLen at hm; omega, ?_⟩
    have key : ∀ i, ∃ t : Int × Int × Int × Int × Value × List Int, i < len → ad.spot = none ∧ w.cell? ⟨ad.block, ad.off + i * 5, none⟩ = some (.int .i64 t.1) ∧ w.cell? ⟨ad.block, ad.off + i * 5 + 1, none⟩ = some (.int .i64 t.2.1) ∧ w.cell? ⟨ad.block, ad.off + i * 5 + 2, none⟩ = some (.int .i64 t.2.2.1) ∧
        w.cell? ⟨ad.block, ad.off + i * 5 + 3, none⟩ = some (.int .u8 t.2.2.2.1) ∧ w.cell? ⟨ad.block, ad.off + i * 5 + 4, none⟩ = some t.2.2.2.2.1 ∧ (Lit.int .i64 t.1).wf = true ∧ (Lit.int .i64 t.2.2.1).wf = true ∧
        (∀ F : List Nat, (∀ y ∈ F, w.heap.size ≤ y) → KeepAt w F t.2.2.2.2.1 t.2.2.2.2.2) ∧ t.2.2.2.2.2.length * 8 ≤ 140737488351232 := by
      intro i
      by_cases hil : i < len
      · have sp : ad.spot = none := by
          obtain ⟨cs', hc, ht⟩ := hi 0 (by omega)
          rw [hc35] at hc
          obtain ⟨_, hcl, hat⟩ := World.cells?_some hc
          have h0 := hat 0 (by omega)
          simp only [Nat.zero_mul, Addr.add, if_true] at h0
          cases hs : ad.spot with
          | none => rfl
          | some y =>
            have hne : cs'[0]? ≠ none := by rw [List.getElem?_eq_getElem (by omega)]; simp
            exfalso
            apply hne
            rw [← h0]
            unfold World.cell?
            split <;> simp [hs]
        obtain ⟨bk, off, spt⟩ := ad
        simp at sp
        subst sp
        obtain ⟨cs', hc, ht⟩ := hi i (by omega)
        rw [hc35] at hc
        obtain ⟨_, hcl, hat⟩ := World.cells?_some hc
        obtain ⟨xs, n', _, hD, _, hxl, hf⟩ := DataW.trod_struct Try.underlying35 ht
        have cell : ∀ j, j < 5 → w.cell? ⟨bk, off + i * 5 + j, none⟩ = cs'[j]? := fun j hj => by
          have := hat j hj
          rw [Addr.add_mid, Addr.add_mid] at this
          exact this
        have get : ∀ (j : Nat) (f : Field) (k : IntKind), (Try.prog.cellsOf f.type = 1) → f.offset = j → Try.prog.underlying f.type = some (.int k) → j < 5 → DataW.trod enc Try.prog w 0 (fun _ => true) true n' f.type ((cs'.drop f.offset).take (Try.prog.cellsOf f.type)) = xs[j]? → ∃ n, w.cell? ⟨bk, off + i * 5 + j, none⟩ = some (.int k n) ∧ (Lit.int k n).wf = true := by
          intro j f k h1 h2 h3 hj h4
          obtain ⟨y, hxj⟩ : ∃ y, xs[j]? = some y := ⟨_, List.getElem?_eq_getElem (by rw [hxl]; exact hj)⟩
          rw [hxj] at h4
          obtain ⟨n, hn, _, hw⟩ := DataW.trod_int h3 h4
          rw [h1, h2] at hn
          refine ⟨n, ?_, hw⟩
          rw [cell j hj]
          have := congrArg (·[0]?) hn
          simpa using this
        obtain ⟨n0, g0, w0⟩ := get 0 _ .i64 (by kernel_rfl) rfl Try.underlying3 (by omega) (hf 0 _ rfl)
        obtain ⟨n1, g1, _⟩ := get 1 _ .i64 (by kernel_rfl) rfl Try.underlying3 (by omega) (hf 1 _ rfl)
        obtain ⟨n2, g2, w2⟩ := get 2 _ .i64 (by kernel_rfl) rfl Try.underlying3 (by omega) (hf 2 _ rfl)
        obtain ⟨n3, g3, _⟩ := get 3 _ .u8 (by kernel_rfl) rfl Try.underlying5 (by omega) (hf 3 _ rfl)
        have h4 := hf 4 _ rfl
        obtain ⟨y4, hy4⟩ : ∃ y, xs[4]? = some y := ⟨_, List.getElem?_eq_getElem (by rw [hxl]; decide)⟩
        rw [hy4] at h4
        have hDi : D i = .agg (xs.map (·.1)) := (Prod.mk.inj hD).1
        have hw4 : ∀ n ∈ y4.1.weights Try.prog 33, n ≤ reachBytes := fun n hn => by
          refine hw n ?_
          rw [hx]
          simp only [DataW.weights, Try.underlying22, List.mem_cons, List.mem_append]
          refine .inr (.inl (weights_all (List.mem_map.2 ⟨i, List.mem_range.2 hil, rfl⟩) n ?_))
          rw [hDi]
          simp only [DataW.weights, Try.underlying35]
          exact DataW.weights_mem_each (j := 4) (t := 33) (d := y4.1) rfl (by rw [List.getElem?_map, hy4]; rfl) n hn
        obtain ⟨kv, keep, hkv, hk1, hk2⟩ := keep_open h4 hw4
        have hc33 : Try.prog.cellsOf 33 = 1 := by kernel_rfl
        have g4 : w.cell? ⟨bk, off + i * 5 + 4, none⟩ = some kv := by
          rw [cell 4 (by omega)]
          have := congrArg (·[0]?) hkv
          simpa [hc33] using this
        exact ⟨(n0, n1, n2, n3, kv, keep), fun _ => ⟨rfl, g0, g1, g2, g3, g4, w0, w2, hk1, hk2⟩⟩
      · exact ⟨(0, 0, 0, 0, .slice none 0 0, []), fun h => absurd h hil⟩
    obtain ⟨f, hf⟩ := Classical.axiomOfChoice key
    refine ⟨fun i => (f i).1, fun i => (f i).2.1, fun i => (f i).2.2.1, fun i => (f i).2.2.2.1, fun i => (f i).2.2.2.2.1, fun i => (f i).2.2.2.2.2, ⟨fun i hil => ?_, fun i hil => ?_, fun i hil => ?_⟩⟩
    · obtain ⟨sp, g0, g1, g2, g3, g4, _⟩ := hf i hil
      refine ⟨ad.block, ad.off, ?_, World.block_lt_of_cell? w ⟨ad.block, ad.off + i * 5, none⟩ g0, g0, g1, g2, g3, g4⟩
      obtain ⟨bk, off, spt⟩ := ad
      simp at sp
      subst sp
      rfl
    · obtain ⟨_, _, _, _, _, _, w0, w2, _⟩ := hf i hil
      simp [Lit.wf, IntKind.min, IntKind.max, IntKind.signed, IntKind.bits] at w0 w2
      exact ⟨w0, w2⟩
    · obtain ⟨_, _, _, _, _, _, _, _, k1, k2⟩ := hf i hil
      exact ⟨k1, k2⟩
end

set_option maxRecDepth 100000 in
theorem diskPlays_lifted (os : Os) (started : os.Started) (H : Type) (enc : TypeId × Value → H) :
    ReturnsInHanded {} Try.checked os 3 .any (Rows.diskPlaysSpec.pre6 enc Try.prog Try.f3 Rows.diskPlaysRow.domain false) (Rows.diskPlaysSpec.post enc Try.prog Try.f3 false true false false) := by
  refine returnsInHanded_of_change_sized (C := Try.checked) ownK started (by kernel_rfl) Try.func3
    (ChangeSpec.witness6 (enc := enc) (C := Try.checked) false ⟨#[], #[.int .i64 0, .slice none 0 0], []⟩ 8 (by kernel_rfl) (by kernel_rfl) (by kernel_rfl) (by kernel_rfl)) ?_
  intro W base args ds gs before hval0 hW hcnd hsz0 _
  have hval : ∀ (j : Nat) t v, Try.f3.params[j]? = some t → args[j]? = some v → Value.okWide Try.prog W .any base t v := hval0
  have hsz : (DataW.weightsEach Try.prog (Try.f3.params.toList ++ Rows.diskPlaysSpec.plain.varTypes Try.prog) (ds ++ gs)).all (· ≤ reachBytes) = true := hsz0
  have hW' := hW
  obtain ⟨p, q, hA0, hV, rfl, hfz, hnd⟩ := hW
  have hA : DataW.TrodAll enc Try.prog W 0 (fun _ => true) true Try.f3.params.toList args.toList ds p := hA0
  rw [Try.params3] at hA hval hsz
  obtain ⟨v0, vs0, d0, ds0, p0, q0, hargs, rfl, rfl, h0, r0⟩ := trodAll_cons hA
  obtain ⟨v1, vs1, d1, ds1, p1, q1, rfl, rfl, rfl, h1, r1⟩ := trodAll_cons r0
  obtain ⟨rfl, rfl, rfl⟩ := trodAll_nil r1
  obtain rfl : args = #[v0, v1] := by cases args; simp_all
  obtain ⟨rfl, rfl⟩ := trodVars_none hV
  obtain ⟨a0, rfl, rfl, rfl, w0⟩ := open_int Try.underlying3 (hval 0 3 v0 rfl rfl) h0
  obtain ⟨a1, len1, cap1, rfl⟩ := okWide_slice Try.underlying22 (hval 1 22 v1 rfl rfl)
  have k1 := h1
  have lt1 : ∀ x ∈ p1, x.block < W.heap.size := by obtain ⟨m, hm⟩ := k1; exact DataW.trod_lt m _ _ _ hm
  have hw1 : ∀ n ∈ d1.weights Try.prog 22, n ≤ reachBytes := fun n hn => by
    have := List.all_eq_true.1 hsz n (DataW.weights_mem_each (j := 1) (t := 22) (d := d1) rfl rfl n hn)
    simpa using this
  obtain ⟨hl, kd, at_, n_, by_, kp, keep, ho⟩ : len1 ≤ 9223372036854775807 ∧ ∃ kd at_ n_ by_ kp keep, PlayAt W a1 len1 kd at_ n_ by_ kp keep := by
    obtain ⟨fuel, hf⟩ := h1
    exact plays_open hf hw1
  clear hA0 hval0
  refine (plays_all W a0 a1 len1 cap1 kd at_ n_ by_ kp keep hl ho).mono fun e W' ⟨he, on⟩ => ?_
  subst he
  have bel : Below W.heap.size W W' := on.below (Nat.le_refl _) (by simp)
  exact ⟨_, rfl, _, _, _, [], _, [], hW', trodAll_mk1 (shut_bool Try.underlying4 _), (trodAll_cons_mk (shut_int Try.underlying3 w0) (trodAll_cons_mk (Below.trod laidK (by kernel_rfl) (of_decide_eq_true (by kernel_rfl)) k1 bel lt1) trodAll_mk0)), rfl, bel.frame _, fun h => by cases h⟩

theorem diskPlays_holds : Rows.DiskPlaysSaid :=
  OpenClaim.holds_of_wide 3 Try.f3 rfl rfl rfl rfl rfl rfl rfl ⟨rfl, rfl, rfl, rfl, rfl⟩ rfl rfl rfl rfl rfl (by kernel_rfl) Try.func3 (by kernel_rfl)
    (of_decide_eq_true (by kernel_rfl)) (by unfold Func.isWrapper; first | (rw [if_pos (by decide +kernel)]; kernel_rfl) | (rw [if_neg (by decide +kernel)]; exact ⟨rfl, rfl⟩))
    (fun os started H enc _ => diskPlays_lifted os started H enc)
#print axioms diskPlays_holds
end Go.Proofs.Ytabddepidhfelaa
