/- The document's Parse: where the marks don't stand. -/
import Derived.Test.YtjbojboiagbofaaDoorC28
set_option linter.unusedSimpArgs false
set_option linter.unusedVariables false
namespace Go.Proofs.YtjbojboiagbofaaDoor
open Go.RowKit Go.Shelf

theorem toNat_of {c : UInt8} {k : Nat} (hk : k < 256) (h : c = UInt8.ofNat k) : c.toNat = k := by subst h; simp [UInt8.toNat_ofNat]; omega
theorem toNat_ne {c : UInt8} {k : UInt8} (h : c ≠ k) : ¬ (c.toNat : Int) = (k.toNat : Int) := fun e => h (UInt8.toNat_inj.1 (by omega))
set_option maxHeartbeats 1000000 in
set_option maxRecDepth 20000 in
theorem rparse_len (l : List UInt8) (h : l.length ≠ 26) (w : World) :
    Calls Tryd.prog 19 #[.string ⟨l.toArray⟩] w fun e w' => e = .returned (.tuple #[.int .i64 0, .int .i64 80]) ∧ Below w.heap.size w w' := by
  have hz : (⟨l.toArray⟩ : ByteArray).size = l.length := rfl
  generalize (⟨l.toArray⟩ : ByteArray) = S at *
  have h1 : ¬ (S.size : Int) = 26 := by omega
  have h2 : ((S.size : Int) != 26) = true := by simpa using h1
  clear hz h
  go_enter Tryd.func19, Tryd.ntmps19
  go_wp2
  go_ret2
  exact ⟨rfl, Below.refl _ _⟩
set_option maxHeartbeats 1000000 in
set_option maxRecDepth 20000 in
theorem rparse_mark0 (l : List UInt8) (h : l.length = 26)  (f : at0 l 2 ≠ 45) (w : World) :
    Calls Tryd.prog 19 #[.string ⟨l.toArray⟩] w fun e w' => e = .returned (.tuple #[.int .i64 0, .int .i64 80]) ∧ Below w.heap.size w w' := by
  have hz : (⟨l.toArray⟩ : ByteArray).size = 26 := h
  have A := str_at l
  have a0 := A 2
  have m : ¬ ((at0 l 2).toNat : Int) = 45 := toNat_ne f
  have m' : (((at0 l 2).toNat : Int) != 45) = true := by simpa using m
  clear  A h f
  generalize at0 l 2 = k0 at *
  generalize (⟨l.toArray⟩ : ByteArray) = S at *
  have b0 := a0 (by omega)
  clear a0
  go_enter Tryd.func19, Tryd.ntmps19
  go_wp2
  go_ret2
  exact ⟨rfl, Below.refl _ _⟩
set_option maxHeartbeats 1000000 in
set_option maxRecDepth 20000 in
theorem rparse_mark1 (l : List UInt8) (h : l.length = 26) (e0 : at0 l 2 = 45) (f : at0 l 6 ≠ 45) (w : World) :
    Calls Tryd.prog 19 #[.string ⟨l.toArray⟩] w fun e w' => e = .returned (.tuple #[.int .i64 0, .int .i64 80]) ∧ Below w.heap.size w w' := by
  have hz : (⟨l.toArray⟩ : ByteArray).size = 26 := h
  have A := str_at l
  have a0 := A 2
  have a1 := A 6
  have n0 : (at0 l 2).toNat = 45 := by rw [e0]; rfl
  have m : ¬ ((at0 l 6).toNat : Int) = 45 := toNat_ne f
  have m' : (((at0 l 6).toNat : Int) != 45) = true := by simpa using m
  clear e0 A h f
  generalize at0 l 2 = k0 at *
  generalize at0 l 6 = k1 at *
  generalize (⟨l.toArray⟩ : ByteArray) = S at *
  have b0 := a0 (by omega)
  have b1 := a1 (by omega)
  clear a0 a1
  go_enter Tryd.func19, Tryd.ntmps19
  go_wp2
  go_ret2
  exact ⟨rfl, Below.refl _ _⟩
set_option maxHeartbeats 1000000 in
set_option maxRecDepth 20000 in
theorem rparse_mark2 (l : List UInt8) (h : l.length = 26) (e0 : at0 l 2 = 45) (e1 : at0 l 6 = 45) (f : at0 l 11 ≠ 32) (w : World) :
    Calls Tryd.prog 19 #[.string ⟨l.toArray⟩] w fun e w' => e = .returned (.tuple #[.int .i64 0, .int .i64 80]) ∧ Below w.heap.size w w' := by
  have hz : (⟨l.toArray⟩ : ByteArray).size = 26 := h
  have A := str_at l
  have a0 := A 2
  have a1 := A 6
  have a2 := A 11
  have n0 : (at0 l 2).toNat = 45 := by rw [e0]; rfl
  have n1 : (at0 l 6).toNat = 45 := by rw [e1]; rfl
  have m : ¬ ((at0 l 11).toNat : Int) = 32 := toNat_ne f
  have m' : (((at0 l 11).toNat : Int) != 32) = true := by simpa using m
  clear e0 e1 A h f
  generalize at0 l 2 = k0 at *
  generalize at0 l 6 = k1 at *
  generalize at0 l 11 = k2 at *
  generalize (⟨l.toArray⟩ : ByteArray) = S at *
  have b0 := a0 (by omega)
  have b1 := a1 (by omega)
  have b2 := a2 (by omega)
  clear a0 a1 a2
  go_enter Tryd.func19, Tryd.ntmps19
  go_wp2
  go_ret2
  exact ⟨rfl, Below.refl _ _⟩
set_option maxHeartbeats 1000000 in
set_option maxRecDepth 20000 in
theorem rparse_mark3 (l : List UInt8) (h : l.length = 26) (e0 : at0 l 2 = 45) (e1 : at0 l 6 = 45) (e2 : at0 l 11 = 32) (f : at0 l 14 ≠ 58) (w : World) :
    Calls Tryd.prog 19 #[.string ⟨l.toArray⟩] w fun e w' => e = .returned (.tuple #[.int .i64 0, .int .i64 80]) ∧ Below w.heap.size w w' := by
  have hz : (⟨l.toArray⟩ : ByteArray).size = 26 := h
  have A := str_at l
  have a0 := A 2
  have a1 := A 6
  have a2 := A 11
  have a3 := A 14
  have n0 : (at0 l 2).toNat = 45 := by rw [e0]; rfl
  have n1 : (at0 l 6).toNat = 45 := by rw [e1]; rfl
  have n2 : (at0 l 11).toNat = 32 := by rw [e2]; rfl
  have m : ¬ ((at0 l 14).toNat : Int) = 58 := toNat_ne f
  have m' : (((at0 l 14).toNat : Int) != 58) = true := by simpa using m
  clear e0 e1 e2 A h f
  generalize at0 l 2 = k0 at *
  generalize at0 l 6 = k1 at *
  generalize at0 l 11 = k2 at *
  generalize at0 l 14 = k3 at *
  generalize (⟨l.toArray⟩ : ByteArray) = S at *
  have b0 := a0 (by omega)
  have b1 := a1 (by omega)
  have b2 := a2 (by omega)
  have b3 := a3 (by omega)
  clear a0 a1 a2 a3
  go_enter Tryd.func19, Tryd.ntmps19
  go_wp2
  go_ret2
  exact ⟨rfl, Below.refl _ _⟩
set_option maxHeartbeats 1000000 in
set_option maxRecDepth 20000 in
theorem rparse_mark4 (l : List UInt8) (h : l.length = 26) (e0 : at0 l 2 = 45) (e1 : at0 l 6 = 45) (e2 : at0 l 11 = 32) (e3 : at0 l 14 = 58) (f : at0 l 17 ≠ 58) (w : World) :
    Calls Tryd.prog 19 #[.string ⟨l.toArray⟩] w fun e w' => e = .returned (.tuple #[.int .i64 0, .int .i64 80]) ∧ Below w.heap.size w w' := by
  have hz : (⟨l.toArray⟩ : ByteArray).size = 26 := h
  have A := str_at l
  have a0 := A 2
  have a1 := A 6
  have a2 := A 11
  have a3 := A 14
  have a4 := A 17
  have n0 : (at0 l 2).toNat = 45 := by rw [e0]; rfl
  have n1 : (at0 l 6).toNat = 45 := by rw [e1]; rfl
  have n2 : (at0 l 11).toNat = 32 := by rw [e2]; rfl
  have n3 : (at0 l 14).toNat = 58 := by rw [e3]; rfl
  have m : ¬ ((at0 l 17).toNat : Int) = 58 := toNat_ne f
  have m' : (((at0 l 17).toNat : Int) != 58) = true := by simpa using m
  clear e0 e1 e2 e3 A h f
  generalize at0 l 2 = k0 at *
  generalize at0 l 6 = k1 at *
  generalize at0 l 11 = k2 at *
  generalize at0 l 14 = k3 at *
  generalize at0 l 17 = k4 at *
  generalize (⟨l.toArray⟩ : ByteArray) = S at *
  have b0 := a0 (by omega)
  have b1 := a1 (by omega)
  have b2 := a2 (by omega)
  have b3 := a3 (by omega)
  have b4 := a4 (by omega)
  clear a0 a1 a2 a3 a4
  go_enter Tryd.func19, Tryd.ntmps19
  go_wp2
  go_ret2
  exact ⟨rfl, Below.refl _ _⟩
set_option maxHeartbeats 1000000 in
set_option maxRecDepth 20000 in
theorem rparse_mark5 (l : List UInt8) (h : l.length = 26) (e0 : at0 l 2 = 45) (e1 : at0 l 6 = 45) (e2 : at0 l 11 = 32) (e3 : at0 l 14 = 58) (e4 : at0 l 17 = 58) (f : at0 l 20 ≠ 32) (w : World) :
    Calls Tryd.prog 19 #[.string ⟨l.toArray⟩] w fun e w' => e = .returned (.tuple #[.int .i64 0, .int .i64 80]) ∧ Below w.heap.size w w' := by
  have hz : (⟨l.toArray⟩ : ByteArray).size = 26 := h
  have A := str_at l
  have a0 := A 2
  have a1 := A 6
  have a2 := A 11
  have a3 := A 14
  have a4 := A 17
  have a5 := A 20
  have n0 : (at0 l 2).toNat = 45 := by rw [e0]; rfl
  have n1 : (at0 l 6).toNat = 45 := by rw [e1]; rfl
  have n2 : (at0 l 11).toNat = 32 := by rw [e2]; rfl
  have n3 : (at0 l 14).toNat = 58 := by rw [e3]; rfl
  have n4 : (at0 l 17).toNat = 58 := by rw [e4]; rfl
  have m : ¬ ((at0 l 20).toNat : Int) = 32 := toNat_ne f
  have m' : (((at0 l 20).toNat : Int) != 32) = true := by simpa using m
  clear e0 e1 e2 e3 e4 A h f
  generalize at0 l 2 = k0 at *
  generalize at0 l 6 = k1 at *
  generalize at0 l 11 = k2 at *
  generalize at0 l 14 = k3 at *
  generalize at0 l 17 = k4 at *
  generalize at0 l 20 = k5 at *
  generalize (⟨l.toArray⟩ : ByteArray) = S at *
  have b0 := a0 (by omega)
  have b1 := a1 (by omega)
  have b2 := a2 (by omega)
  have b3 := a3 (by omega)
  have b4 := a4 (by omega)
  have b5 := a5 (by omega)
  clear a0 a1 a2 a3 a4 a5
  go_enter Tryd.func19, Tryd.ntmps19
  go_wp2
  go_ret2
  exact ⟨rfl, Below.refl _ _⟩
set_option maxHeartbeats 1000000 in
set_option maxRecDepth 20000 in
theorem rparse_mark6 (l : List UInt8) (h : l.length = 26) (e0 : at0 l 2 = 45) (e1 : at0 l 6 = 45) (e2 : at0 l 11 = 32) (e3 : at0 l 14 = 58) (e4 : at0 l 17 = 58) (e5 : at0 l 20 = 32) (f : at0 l 21 ≠ 43) (f2 : at0 l 21 ≠ 45) (w : World) :
    Calls Tryd.prog 19 #[.string ⟨l.toArray⟩] w fun e w' => e = .returned (.tuple #[.int .i64 0, .int .i64 80]) ∧ Below w.heap.size w w' := by
  have hz : (⟨l.toArray⟩ : ByteArray).size = 26 := h
  have A := str_at l
  have a0 := A 2
  have a1 := A 6
  have a2 := A 11
  have a3 := A 14
  have a4 := A 17
  have a5 := A 20
  have a6 := A 21
  have n0 : (at0 l 2).toNat = 45 := by rw [e0]; rfl
  have n1 : (at0 l 6).toNat = 45 := by rw [e1]; rfl
  have n2 : (at0 l 11).toNat = 32 := by rw [e2]; rfl
  have n3 : (at0 l 14).toNat = 58 := by rw [e3]; rfl
  have n4 : (at0 l 17).toNat = 58 := by rw [e4]; rfl
  have n5 : (at0 l 20).toNat = 32 := by rw [e5]; rfl
  have m : ¬ ((at0 l 21).toNat : Int) = 43 := toNat_ne f
  have m' : (((at0 l 21).toNat : Int) != 43) = true := by simpa using m
  have o1 : ¬ ((at0 l 21).toNat : Int) = 45 := toNat_ne f2
  have o2 : (((at0 l 21).toNat : Int) != 45) = true := by simpa using o1
  clear e0 e1 e2 e3 e4 e5 A h f f2
  generalize at0 l 2 = k0 at *
  generalize at0 l 6 = k1 at *
  generalize at0 l 11 = k2 at *
  generalize at0 l 14 = k3 at *
  generalize at0 l 17 = k4 at *
  generalize at0 l 20 = k5 at *
  generalize at0 l 21 = k6 at *
  generalize (⟨l.toArray⟩ : ByteArray) = S at *
  have b0 := a0 (by omega)
  have b1 := a1 (by omega)
  have b2 := a2 (by omega)
  have b3 := a3 (by omega)
  have b4 := a4 (by omega)
  have b5 := a5 (by omega)
  have b6 := a6 (by omega)
  clear a0 a1 a2 a3 a4 a5 a6
  go_enter Tryd.func19, Tryd.ntmps19
  go_wp2
  go_ret2
  exact ⟨rfl, Below.refl _ _⟩
theorem rparse_marks (l : List UInt8) (h : ¬ marksR l) (w : World) :
    Calls Tryd.prog 19 #[.string ⟨l.toArray⟩] w fun e w' => e = .returned (.tuple #[.int .i64 0, .int .i64 80]) ∧ Below w.heap.size w w' := by
  by_cases h0 : l.length = 26
  · by_cases e0 : at0 l 2 = 45
    · by_cases e1 : at0 l 6 = 45
      · by_cases e2 : at0 l 11 = 32
        · by_cases e3 : at0 l 14 = 58
          · by_cases e4 : at0 l 17 = 58
            · by_cases e5 : at0 l 20 = 32
              · by_cases f : at0 l 21 = 43
                · exact absurd ⟨h0, e0, e1, e2, e3, e4, e5, .inl f⟩ h
                · by_cases f2 : at0 l 21 = 45
                  · exact absurd ⟨h0, e0, e1, e2, e3, e4, e5, .inr f2⟩ h
                  · exact rparse_mark6 l h0 e0 e1 e2 e3 e4 e5 f f2 w
              · exact rparse_mark5 l h0 e0 e1 e2 e3 e4 e5 w
            · exact rparse_mark4 l h0 e0 e1 e2 e3 e4 w
          · exact rparse_mark3 l h0 e0 e1 e2 e3 w
        · exact rparse_mark2 l h0 e0 e1 e2 w
      · exact rparse_mark1 l h0 e0 e1 w
    · exact rparse_mark0 l h0  e0 w
  · exact rparse_len l h0 w
end Go.Proofs.YtjbojboiagbofaaDoor
