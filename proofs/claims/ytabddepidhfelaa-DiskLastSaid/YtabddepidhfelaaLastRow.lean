/- Proved: DiskLast returns true for every input, and each argument reads afterwards as it read before. No condition beyond the row's own. -/
import Derived.Test.YtabddepidhfelaaRows
import Derived.Test.YtabddepidhfelaaLast
import Derived.ProofKit
import Derived.OpenShut
import Derived.ShutString
import Derived.ChangeOld
import Derived.Deep.Slices
set_option linter.unusedSimpArgs false
namespace Go.Proofs.Ytabddepidhfelaa
open Go.ChangeShapes Go.WideShapes Go.ChangeAt Go.RowKit

def intAt (w : World) (p : Addr) : Int := match w.cell? p with | some (.int _ n) => n | _ => 0
theorem intAt_eq {w : World} {p : Addr} {k : IntKind} {n : Int} (h : w.cell? p = some (.int k n)) : intAt w p = n := by simp [intAt, h]

theorem own : ownKnob Try.prog.godebug = none := by kernel_rfl
theorem laidOut : laidOutB Try.prog = true := by kernel_rfl

section
variable {H : Type} {enc : TypeId × Value → H} {w : World}

/-- A slice of calls that came in, as the law reads it. -/
theorem ops_open {fuel : Nat} {a : Option Addr} {len cap : Nat} {x : DataW H × List MemPlace} (h : DataW.trod enc Try.prog w 0 (fun _ => true) true fuel 22 (Value.slice a len cap).cells.toList = some x) :
    len ≤ 9223372036854775807 ∧ ∃ kd at_ by_, OpsAt w a len kd at_ by_ := by
  have hc35 : Try.prog.cellsOf 35 = 5 := by kernel_rfl
  rcases Go.Deep.open_slice Try.underlying22 h with ⟨hcs, _⟩ | ⟨ad, l, c, m, n, D, Pl, hcs, hb, hl, hm, hmm, hx, hi⟩
  · simp [Value.cells] at hcs
    obtain ⟨rfl, rfl, rfl⟩ := hcs
    exact ⟨by omega, fun _ => 0, fun _ => 0, fun _ => 0, ⟨fun i hi => by omega, fun i hi => by omega⟩⟩
  · simp [Value.cells] at hcs
    obtain ⟨rfl, rfl, rfl⟩ := hcs
    simp at hmm
    subst hmm
    refine ⟨by unfold maxLen at hm; omega, fun i => intAt w ⟨ad.block, ad.off + i * 5, none⟩, fun i => intAt w ⟨ad.block, ad.off + i * 5 + 1, none⟩, fun i => intAt w ⟨ad.block, ad.off + i * 5 + 3, none⟩, ?_⟩
    have key : ∀ i, i < len → ad.spot = none ∧ (∃ n, w.cell? ⟨ad.block, ad.off + i * 5, none⟩ = some (.int .i64 n)) ∧ (∃ n, w.cell? ⟨ad.block, ad.off + i * 5 + 1, none⟩ = some (.int .i64 n) ∧ (Lit.int .i64 n).wf = true) ∧ ∃ n, w.cell? ⟨ad.block, ad.off + i * 5 + 3, none⟩ = some (.int .u8 n) := by
      intro i hil
      have sp : ad.spot = none := by
        obtain ⟨cs', hc, ht⟩ := hi 0 (by omega)
        rw [hc35] at hc
        obtain ⟨_, hcl, hat⟩ := World.cells?_some hc
        have h0 := hat 0 (by omega)
        simp only [Nat.zero_mul, Addr.add, if_true] at h0
        cases hs : ad.spot with
        | none => rfl
        | some y =>
          have hne : cs'[0]? ≠ none := by rw [List.getElem?_eq_getElem (by omega)]; simp
          exfalso
          apply hne
          rw [← h0]
          unfold World.cell?
          split <;> simp [hs]
      obtain ⟨bk, off, spt⟩ := ad
      simp at sp
      subst sp
      obtain ⟨cs', hc, ht⟩ := hi i (by omega)
      rw [hc35] at hc
      obtain ⟨_, hcl, hat⟩ := World.cells?_some hc
      obtain ⟨xs, n', _, _, _, hxl, hf⟩ := DataW.trod_struct Try.underlying35 ht
      have cell : ∀ j, j < 5 → w.cell? ⟨bk, off + i * 5 + j, none⟩ = cs'[j]? := fun j hj => by
        have := hat j hj
        rw [Addr.add_mid, Addr.add_mid] at this
        exact this
      have get : ∀ (j : Nat) (f : Field) (k : IntKind), (Try.prog.cellsOf f.type = 1) → f.offset = j → Try.prog.underlying f.type = some (.int k) → j < 5 → DataW.trod enc Try.prog w 0 (fun _ => true) true n' f.type ((cs'.drop f.offset).take (Try.prog.cellsOf f.type)) = xs[j]? → ∃ n, w.cell? ⟨bk, off + i * 5 + j, none⟩ = some (.int k n) ∧ (Lit.int k n).wf = true := by
        intro j f k h1 h2 h3 hj h4
        obtain ⟨y, hxj⟩ : ∃ y, xs[j]? = some y := ⟨_, List.getElem?_eq_getElem (by rw [hxl]; exact hj)⟩
        rw [hxj] at h4
        obtain ⟨n, hn, _, hw⟩ := DataW.trod_int h3 h4
        rw [h1, h2] at hn
        refine ⟨n, ?_, hw⟩
        rw [cell j hj]
        have := congrArg (·[0]?) hn
        simpa using this
      refine ⟨rfl, ?_, ?_, ?_⟩
      · obtain ⟨n, hn, _⟩ := get 0 _ .i64 (by kernel_rfl) rfl Try.underlying3 (by omega) (hf 0 _ rfl)
        exact ⟨n, hn⟩
      · exact get 1 _ .i64 (by kernel_rfl) rfl Try.underlying3 (by omega) (hf 1 _ rfl)
      · obtain ⟨n, hn, _⟩ := get 3 _ .u8 (by kernel_rfl) rfl Try.underlying5 (by omega) (hf 3 _ rfl)
        exact ⟨n, hn⟩
    refine ⟨fun i hil => ?_, fun i hil => ?_⟩
    · obtain ⟨sp, ⟨n0, c0⟩, ⟨n1, c1, _⟩, ⟨n3, c3⟩⟩ := key i hil
      refine ⟨ad.block, ad.off, ?_, World.block_lt_of_cell? w ⟨ad.block, ad.off + i * 5, none⟩ c0, ?_, ?_, ?_⟩
      · obtain ⟨bk, off, spt⟩ := ad
        simp at sp
        subst sp
        rfl
      · rw [intAt_eq c0]; exact c0
      · rw [intAt_eq c1]; exact c1
      · rw [intAt_eq c3]; exact c3
    · obtain ⟨sp, _, ⟨n1, c1, hw⟩, _⟩ := key i hil
      simp only [intAt_eq c1]
      simp [Lit.wf, IntKind.min, IntKind.max, IntKind.signed, IntKind.bits] at hw
      exact hw
end

set_option maxRecDepth 100000 in
theorem diskLast_lifted (os : Os) (started : os.Started) (H : Type) (enc : TypeId × Value → H) :
    ReturnsInHanded {} Try.checked os 6 .any (Rows.diskLastSpec.pre6 enc Try.prog Try.f6 Rows.diskLastRow.domain false) (Rows.diskLastSpec.post enc Try.prog Try.f6 false true false false) := by
  refine returnsInHanded_of_change (C := Try.checked) own started (by kernel_rfl) Try.func6
    (ChangeSpec.witness6 (enc := enc) (C := Try.checked) false ⟨#[], #[.slice none 0 0], []⟩ 8 (by kernel_rfl) (by kernel_rfl) (by kernel_rfl) (by kernel_rfl)) ?_
  intro W base args ds gs before hval0 hW hcnd _
  have hval : ∀ (j : Nat) t v, Try.f6.params[j]? = some t → args[j]? = some v → Value.okWide Try.prog W .any base t v := hval0
  have hW' := hW
  obtain ⟨p, q, hA0, hV, rfl, hfz, hnd⟩ := hW
  have hA : DataW.TrodAll enc Try.prog W 0 (fun _ => true) true Try.f6.params.toList args.toList ds p := hA0
  rw [Try.params6] at hA hval
  obtain ⟨v0, vs0, d0, ds0, p0, q0, hargs, rfl, rfl, h0, r0⟩ := trodAll_cons hA
  obtain ⟨rfl, rfl, rfl⟩ := trodAll_nil r0
  obtain rfl : args = #[v0] := by cases args; simp_all
  obtain ⟨rfl, rfl⟩ := trodVars_none hV
  obtain ⟨a0, len0, cap0, rfl⟩ := okWide_slice Try.underlying22 (hval 0 22 v0 rfl rfl)
  have k0 := h0
  have lt0 : ∀ x ∈ p0, x.block < W.heap.size := by obtain ⟨m, hm⟩ := k0; exact DataW.trod_lt m _ _ _ hm
  obtain ⟨hl, kd, at_, by_, ho⟩ : len0 ≤ 9223372036854775807 ∧ ∃ kd at_ by_, OpsAt W a0 len0 kd at_ by_ := by
    obtain ⟨fuel, hf⟩ := h0
    exact ops_open hf
  clear hA0 hval0
  refine (last_any W a0 len0 cap0 kd at_ by_ hl ho).mono fun e W' ⟨he, on⟩ => ?_
  subst he
  have bel : Below W.heap.size W W' := on.below (Nat.le_refl _) (by simp)
  exact ⟨_, rfl, _, _, _, [], _, [], hW', trodAll_mk1 (shut_bool Try.underlying4 _), (trodAll_cons_mk (Below.trod laidOut (by kernel_rfl) (of_decide_eq_true (by kernel_rfl)) k0 bel lt0) trodAll_mk0), rfl, bel.frame _, fun h => by cases h⟩

theorem diskLast_holds : Rows.DiskLastSaid :=
  OpenClaim.holds_of_wide 6 Try.f6 rfl rfl rfl rfl rfl rfl rfl ⟨rfl, rfl, rfl, rfl, rfl⟩ rfl rfl rfl rfl rfl (by kernel_rfl) Try.func6 (by kernel_rfl)
    (of_decide_eq_true (by kernel_rfl)) (by unfold Func.isWrapper; first | (rw [if_pos (by decide +kernel)]; kernel_rfl) | (rw [if_neg (by decide +kernel)]; exact ⟨rfl, rfl⟩))
    (fun os started H enc _ => diskLast_lifted os started H enc)
#print axioms diskLast_holds
end Go.Proofs.Ytabddepidhfelaa
