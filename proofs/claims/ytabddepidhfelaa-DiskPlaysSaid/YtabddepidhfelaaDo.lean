/- A write and a barrier, whatever comes of them, beside other things. -/
import Derived.Test.YtabddepidhfelaaShown
set_option linter.unusedSimpArgs false
namespace Go.Proofs.Ytabddepidhfelaa
open Go.RowKit

def St.doWrite (S : St) (i : Int) (v : Array Value) : Int × St := if S.reach i ≠ 0 then (S.reach i, S) else if S.fuse = 0 then (2, S.fallen) else (0, S.write i v)
def St.doBarrier (S : St) : Int × St := if S.on = false then (2, S) else if S.fuse = 0 then (2, S.fallen) else (0, S.stepped.settled)

theorem Has.same {w0 w : World} {b : Nat} {F : List Nat} {S : St} {Rs : List Res} (h : Has w0 w (DRes b F S :: Rs)) : ∃ F', Has w0 w (DRes b F' S :: Rs) := ⟨F, h⟩

theorem has_doWrite {w0 w : World} {b : Nat} {F : List Nat} {S : St} {Rs : List Res} (h : Has w0 w (DRes b F S :: Rs)) (i c : Int) (hs : S.steps < 1000000000) (hp : S.pend.length < 1000000000) :
    Calls Try.prog 16 #[.pointer (some ⟨b, 0, none⟩), .int .i64 i, .slice (some ⟨w.heap.size, 0, none⟩) 64 64] (w.alloc (.cells (fullA c) 5)) fun e w' => e = .returned (.int .i64 (S.doWrite i (fullA c)).1) ∧ ∃ F', Has w0 w' (DRes b F' (S.doWrite i (fullA c)).2 :: Rs) := by
  unfold St.doWrite
  have ha := h.alloc' (.cells (fullA c) 5)
  by_cases hr : S.reach i = 0
  · rw [if_neg (by simp [hr])]
    by_cases hf : S.fuse = 0
    · rw [if_pos hf]
      refine (write_fall ha.dat i _ 64 hr hf).mono ?_
      rintro e w' ⟨rfl, hp⟩
      exact ⟨rfl, ha.disk hp⟩
    · rw [if_neg hf]
      exact has_write h i c hr hf hs hp
  · rw [if_pos hr]
    refine (write_no ha.dat i _ hr).mono ?_
    rintro e w' ⟨rfl, rfl⟩
    exact ⟨rfl, ha.same⟩

theorem has_doBarrier {w0 w : World} {b : Nat} {F : List Nat} {S : St} {Rs : List Res} (h : Has w0 w (DRes b F S :: Rs)) (hs : S.steps < 1000000000) :
    Calls Try.prog 18 #[.pointer (some ⟨b, 0, none⟩)] w fun e w' => e = .returned (.int .i64 S.doBarrier.1) ∧ ∃ F', Has w0 w' (DRes b F' S.doBarrier.2 :: Rs) := by
  unfold St.doBarrier
  cases hon : S.on with
  | false =>
    rw [if_pos rfl]
    refine (barrier_off h.dat hon).mono ?_
    rintro e w' ⟨rfl, rfl⟩
    exact ⟨rfl, h.same⟩
  | true =>
    rw [if_neg (by simp)]
    by_cases hf : S.fuse = 0
    · rw [if_pos hf]; exact has_barrier_fall h hon hf
    · rw [if_neg hf]; exact has_barrier h hon hf hs

/-- The bytes of a slice that came in. -/
structure BytesAt (w : World) (a : Option Addr) (len : Nat) (z : Nat → Int) : Prop where
  cell : ∀ i, i < len → ∃ g o, a = some ⟨g, o, none⟩ ∧ g < w.heap.size ∧ w.cell? ⟨g, o + i, none⟩ = some (.int .u8 (z i))

/-- A row of bytes of the law's own, and what should be in it. -/
structure RowIs (A : Array Value) (n : Nat) (f : Nat → Int) : Prop where
  size : A.size = n
  cell : ∀ j, j < n → A[j]? = some (.int .u8 (f j))
theorem RowIs.set {A : Array Value} {n : Nat} {f : Nat → Int} (h : RowIs A n f) (i : Nat) (c : Int) : RowIs (A.setIfInBounds i (.int .u8 c)) n (fun j => if j = i then c else f j) :=
  ⟨by simpa using h.size, fun j hj => by
    by_cases hji : j = i
    · subst hji; simp [h.size, hj]
    · have : i ≠ j := fun e => hji e.symm
      rw [Array.getElem?_setIfInBounds_ne this, h.cell j hj, if_neg hji]⟩

theorem has_set {w0 w : World} {g n i : Nat} {A : Array Value} {t : TypeId} {f : Nat → Int} {Rs : List Res} (h : Has w0 w (BRes g (.cells A t) :: Rs)) (hA : RowIs A n f) (hi : i < n) (c : Int) :
    w.cell? ⟨g, i, none⟩ = some (.int .u8 (f i)) ∧ w.frozen? ⟨g, i, none⟩ = false ∧ Has w0 (w.setCell ⟨g, i, none⟩ (.int .u8 c)) (BRes g (.cells (A.setIfInBounds i (.int .u8 c)) t) :: Rs) := by
  have hb : w.heap[g]? = some (.cells A t (0, 0)) := h.blk (by simp)
  refine ⟨(cell_of_row _ _ _ _ _ _ hb).trans (hA.cell i hi), by simp [World.frozen?, hb], h.turn (r' := BRes g (.cells (A.setIfInBounds i (.int .u8 c)) t)) ((Only.refl [g] w).setCell (by simp) _) (heap_setCell_row hb _ _) (fun x hx => ⟨.inl hx, ?_⟩)⟩
  simp [BRes] at hx
  subst hx
  simpa using (Array.getElem?_eq_some_iff.1 hb).1

section
variable {o : Oper} {a : Act}
theorem run_neq_self {x y : Operand} {s : ByteArray} {t : TypeId} (ho : o.op = .binOp .neq 9 x y t) (hx : a.eval x = .string s) (hy : a.eval y = .string s) : ∀ w, (execOp a.eval o).run Try.prog w = .ok (.value (.bool false)) w := by
  intro w
  unfold execOp
  simp only [ho, hx, hy]
  go_simp
theorem run_index37 {x y : Operand} {g j n cap : Nat} (hj : j < n) (ho : o.op = .indexAddr 37 x y) (hx : a.eval x = .slice (some ⟨g, 0, none⟩) n cap) (hy : a.eval y = .int .i64 j) : ∀ w, (execOp a.eval o).run Try.prog w = .ok (.value (.pointer (some ⟨g, j, none⟩))) w := by
  intro w
  unfold execOp
  simp only [ho, hx, hy]
  go_simp
theorem isAgg5 (w : World) : (isAgg 5).run Try.prog w = .ok false w := by kernel_rfl
end

end Go.Proofs.Ytabddepidhfelaa
