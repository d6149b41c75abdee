/- Arguments that are slices of bytes and of ints, as the laws read them. -/
import Derived.Test.YtabddepidhfelaaRows
import Derived.Test.YtabddepidhfelaaDo
import Derived.ProofKit
import Derived.OpenShut
import Derived.ShutString
import Derived.ChangeOld
set_option linter.unusedSimpArgs false
namespace Go.Proofs.Ytabddepidhfelaa
open Go.ChangeShapes Go.WideShapes Go.ChangeAt Go.RowKit

theorem ownK : ownKnob Try.prog.godebug = none := by kernel_rfl
theorem laidK : laidOutB Try.prog = true := by kernel_rfl

section
variable {H : Type} {enc : TypeId × Value → H} {w : World}

theorem spot_none {w : World} {x : Addr} {u : Value} (h : w.cell? x = some u) : x = ⟨x.block, x.off, none⟩ := by
  obtain ⟨b, o, s⟩ := x
  cases s with
  | none => rfl
  | some y =>
    exfalso
    unfold World.cell? at h
    split at h <;> simp at h

theorem bytes_open {fuel : Nat} {a : Option Addr} {len cap : Nat} {x : DataW H × List MemPlace} (h : DataW.trod enc Try.prog w 0 (fun _ => true) true fuel 37 (Value.slice a len cap).cells.toList = some x) :
    len ≤ 9223372036854775807 ∧ ∃ z, BytesAt w a len z := by
  rcases open_ints Try.underlying37 Try.underlying5 (by kernel_rfl) h with ⟨hcs, _⟩ | ⟨y, l, c, zs, hcs, _, hl, hm, hz, _, hcell, hwz⟩
  · simp [Value.cells] at hcs
    obtain ⟨rfl, rfl, rfl⟩ := hcs
    exact ⟨by omega, fun _ => 0, ⟨fun i hi => by omega⟩⟩
  · simp [Value.cells] at hcs
    obtain ⟨rfl, rfl, rfl⟩ := hcs
    simp at hz
    refine ⟨by unfold maxLen at hm; omega, fun i => zs.getD i 0, ⟨fun i hi => ?_⟩⟩
    have h0 := hcell 0 (by omega)
    rw [show y.add 0 = y by simp [Addr.add]] at h0
    have hy := spot_none h0
    have hi' := hcell i (by omega)
    refine ⟨y.block, y.off, congrArg some hy, World.block_lt_of_cell? w y h0, ?_⟩
    rw [hy, Addr.add_mid] at hi'
    exact hi'

theorem ints_open {fuel : Nat} {a : Option Addr} {len cap : Nat} {x : DataW H × List MemPlace} (h : DataW.trod enc Try.prog w 0 (fun _ => true) true fuel 33 (Value.slice a len cap).cells.toList = some x) :
    ∃ keep : List Int, ∀ F : List Nat, (∀ y ∈ F, w.heap.size ≤ y) → KeepAt w F (.slice a len cap) keep := by
  rcases open_ints Try.underlying33 Try.underlying3 (by kernel_rfl) h with ⟨hcs, _⟩ | ⟨y, l, c, zs, hcs, _, hl, hm, hz, _, hcell, hwz⟩
  · simp [Value.cells] at hcs
    obtain ⟨rfl, rfl, rfl⟩ := hcs
    exact ⟨[], fun F _ => ⟨none, 0, rfl, by simp, fun hne => absurd rfl hne⟩⟩
  · simp [Value.cells] at hcs
    obtain ⟨rfl, rfl, rfl⟩ := hcs
    simp at hz
    have hlen : (zs.take len).length = len := by simp; omega
    refine ⟨zs.take len, fun F hF => ⟨some y, cap, by rw [hlen], by rw [hlen]; unfold maxLen at hm; omega, fun hne => ?_⟩⟩
    have hpos : 0 < len := by
      cases len with
      | zero => simp at hne
      | succ n => omega
    have h0 := hcell 0 (by omega)
    rw [show y.add 0 = y by simp [Addr.add]] at h0
    have hy := spot_none h0
    have hlt := World.block_lt_of_cell? w y h0
    refine ⟨y.block, y.off, congrArg some hy, hlt, fun hx => by have := hF _ hx; omega, fun j z hz' => ?_⟩
    have hj : j < len := by have := (List.getElem?_eq_some_iff.1 hz').1; omega
    have hc := hcell j (by omega)
    rw [hy, Addr.add_mid] at hc
    rw [hc]
    rw [List.getElem?_take_of_lt hj] at hz'
    rw [List.getD_eq_getElem?_getD, hz']
    rfl
end
end Go.Proofs.Ytabddepidhfelaa
