/- The keys of a set of numbers, sorted. -/
import Derived.Test.YtoccnaebckcfmaaShelf
import Derived.Test.YtoccnaebckcfmaaK1
set_option linter.unusedSimpArgs false
set_option linter.unusedVariables false
set_option maxRecDepth 8000
namespace Go.Proofs.Ytoccnaebckcfmaa
open Go.RowKit Go.Maps Go.Sort Go.Shelf Go.MapKept
open Go.WideElems (Fit rg)

/-- slices.Sort's two contracts, at the fence that asks nothing. -/
theorem sortsA (m : Nat) : AnyZI.SortsIn Try.prog Try.sortedA_ren Fence.wide m :=
  ⟨fun blk off cap ss W hH hblk hsz => callsIn_wide.2 (AnyM.slices_Sort_int Try.sortA blk off cap ss W hH hblk hsz),
   fun p cap W => callsIn_wide.2 (AnyM.slices_Sort_int_none Try.sortA p cap W)⟩

def relU (_ : Value) : Option (DataW Unit × List MemPlace) := some (.nil, [])

theorem wf_small {x : Int} (h0 : 0 ≤ x) (h1 : x < 8192) : (Lit.int .i64 x).wf = true := by
  simp [Lit.wf, IntKind.min, IntKind.max, IntKind.signed, IntKind.bits]
  omega

theorem owns_of {w : World} {b : Nat} {pin : List Int} (h : MapAt w b (setF pin)) (hn : pin.Nodup) (hw : ∀ x ∈ pin, 0 ≤ x ∧ x < 8192) (hl : pin.length ≤ 8192) :
    ∃ D0 : DataW Unit, w.ownsMap Try.prog 3 relU b pin.length D0 ∧ pin.Perm (intKeys D0) := by
  obtain ⟨es, clock, hb, ok⟩ := h
  have key : ∀ e ∈ es.toList, ∃ k, e.key = .int .i64 k ∧ k ∈ pin ∧ rg Try.prog 3 relU e = (.int .i64 k, .nil) := fun e he => by
    obtain ⟨k, v, h1, h2⟩ := ok.form e he
    have hp : k ∈ pin := by
      have := (ok.has k v).2 ⟨e, he, h1, h2⟩
      unfold setF at this
      split at this
      · assumption
      · cases this
    have hkey := Maps.keyOf_int_mk (P := Try.prog) Try.underlying3 (wf_small (hw k hp).1 (hw k hp).2)
    refine ⟨k, h1, hp, ?_⟩
    unfold rg WideElems.rd
    rw [h1, hkey]
    rfl
  have hsz : es.size ≤ pin.length := by
    have : (es.toList.map (fun e => RowKit.intOf e.key)).length ≤ pin.length := by
      refine length_le_of_nodup ?_ (fun x hx => ?_)
      · rw [List.nodup_iff_pairwise_ne, List.pairwise_map]
        refine ok.keys.imp_of_mem fun {x y} hx hy hne he => ?_
        obtain ⟨kx, h1, _⟩ := key x hx
        obtain ⟨ky, h2, _⟩ := key y hy
        rw [h1, h2] at he hne
        exact hne (by simp [RowKit.intOf] at he; rw [he])
      · obtain ⟨e, he, rfl⟩ := List.mem_map.1 hx
        obtain ⟨k, h1, h2, _⟩ := key e he
        rw [h1]
        exact h2
    simpa using this
  have hown : w.ownsMap Try.prog 3 relU b pin.length (.map ((es.toList.map (rg Try.prog 3 relU)).foldr DataW.insert [])) := by
    refine ⟨es, clock, hb, ⟨by unfold maxLen; omega, ⟨?_, ?_⟩, fun x hx => ?_⟩, hsz, rfl⟩
    · intro x hx
      exact ok.lt x (by simpa using hx)
    · have := (stamped_iff es clock).2 ⟨ok.lt, ok.born, ok.keys⟩
      exact this.2
    · obtain ⟨k, h1, h2, _⟩ := key x hx
      have hkey := Maps.keyOf_int_mk (P := Try.prog) Try.underlying3 (wf_small (hw k h2).1 (hw k h2).2)
      unfold WideElems.rd
      rw [h1, hkey]
      exact ⟨_, rfl⟩
  refine ⟨_, hown, ?_⟩
  obtain ⟨es', hD, hpw, _⟩ := hown.entries (Maps.int_keyed Try.underlying3)
  simp only [DataW.map.injEq] at hD
  rw [hD]
  refine perm_intKeys hpw (fun p hp => ?_) hn (fun x => ?_)
  · rw [← hD] at hp
    obtain ⟨e, he, rfl⟩ := List.mem_map.1 (mem_sorted.1 hp)
    obtain ⟨k, _, _, h3⟩ := key e he
    exact ⟨k, by rw [h3]⟩
  · rw [has_eq, List.any_eq_true, ← hD]
    constructor
    · intro hx
      obtain ⟨e, he, hk, _⟩ := (ok.has x #[]).1 (by simp [setF, hx])
      obtain ⟨k, h1, h2, h3⟩ := key e he
      rw [hk] at h1
      simp at h1
      subst h1
      exact ⟨_, mem_sorted.2 (List.mem_map.2 ⟨e, he, rfl⟩), by rw [h3]; simp [Lit.sameKey]⟩
    · rintro ⟨p, hp, hs⟩
      obtain ⟨e, he, rfl⟩ := List.mem_map.1 (mem_sorted.1 hp)
      obtain ⟨k, h1, h2, h3⟩ := key e he
      rw [h3] at hs
      simp [Lit.sameKey] at hs
      exact hs ▸ h2

theorem keys_any (mb : Option Nat) (w : World) : Calls Try.prog 75 #[.map mb] w fun e w' => e = .returned (.func (.func 89) #[] #[.pointer (some ⟨w.heap.size, 0, none⟩)]) ∧ w' = w.alloc (.cells #[.map mb] 72) :=
  (callsIn_wide (n := 5)).1 (AnyZI.keys_in Try.keysA Fence.wide 5 trivial rfl mb w)

def sorted (l : List Int) : List Int := l.mergeSort (fun x y => decide (x ≤ y))

theorem sorted_any {w : World} {Bm b : Nat} {pin : List Int} (h : MapAt w b (setF pin)) (hn : pin.Nodup) (hw : ∀ x ∈ pin, 0 ≤ x ∧ x < 8192) (hl : pin.length ≤ 8192) (hB : w.cell? ⟨Bm, 0, none⟩ = some (.map (some b))) (hBl : Bm < w.heap.size) :
    Calls Try.prog 74 #[.func (.func 89) #[] #[.pointer (some ⟨Bm, 0, none⟩)]] w fun e w' => ∃ v, e = .returned v ∧ w'.ownsRow w.heap.size 3 1 v pin.length ((sorted pin).map (Value.int .i64)) ∧ Only [] w w' := by
  obtain ⟨D0, hown, hperm⟩ := owns_of h hn hw hl
  have hsz := hown.size_le
  have hseq : SeqGives Fence.wide 2 Try.prog 89 #[.pointer (some ⟨Bm, 0, none⟩)] encZ (fun ss => ss.Perm (intKeys D0)) (Maps.size D0) w :=
    AnyZI.keys_gives (ρ := Try.keysA_ren) { Try.keysA with } Fence.wide _ trivial rfl (by omega) Bm b pin.length D0 _ hBl hB hown
  have cS := AnyZI.sorted_in Try.sortedA Fence.wide 5 trivial trivial trivial trivial rfl (by omega) (sortsA _) (enters_of Try.func88 (by kernel_rfl) rfl) 89 #[.pointer (some ⟨Bm, 0, none⟩)] trivial (enters_of Try.func89 (by kernel_rfl) rfl) _ _ (by unfold maxLen; omega) (by omega) _ hseq
  change CallsIn _ _ Try.prog 74 _ _ _ at cS
  refine ((callsIn_wide (n := 5)).1 cS).mono ?_
  rintro e w' ⟨v, ss, rfl, hS, hrow, hnil, hb⟩
  have hp : ss.Perm pin := hS.trans hperm.symm
  refine ⟨v, rfl, ?_, ⟨hb.os, hb.tape, hb.output, hb.size, fun k hk _ => hb.block k hk⟩⟩
  rw [hp.length_eq, mergeSort_of_perm_i hp] at hrow
  exact hrow

end Go.Proofs.Ytoccnaebckcfmaa
