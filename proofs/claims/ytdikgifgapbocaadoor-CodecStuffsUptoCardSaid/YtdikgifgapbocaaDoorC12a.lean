/- []byte(s): a row of a call's own that is written in place. -/
import Derived.Test.YtdikgifgapbocaaDoorC10
set_option linter.unusedSimpArgs false
set_option linter.unusedVariables false
namespace Go.Proofs.YtdikgifgapbocaaDoor
open Go.RowKit Go.Shelf

/-- Block g holds l, nothing of it frozen; it is younger than w0. -/
structure RowB (w0 w : World) (g : Nat) (l : List UInt8) : Prop where
  ge : w0.heap.size ≤ g
  lt : g < w.heap.size
  cell : ∀ j c, l[j]? = some c → w.cell? ⟨g, j, none⟩ = some (.int .u8 c.toNat)
  free : ∀ j, j < l.length → w.frozen? ⟨g, j, none⟩ = false
  bel : Below w0.heap.size w0 w
theorem RowB.bs {w0 w : World} {g : Nat} {l : List UInt8} (h : RowB w0 w g l) : Bs w (some ⟨g, 0, none⟩) l := fun j c hj => ⟨g, 0, rfl, h.lt, by rw [Nat.zero_add]; exact h.cell j c hj⟩
theorem RowB.set {w0 w : World} {g : Nat} {l : List UInt8} (h : RowB w0 w g l) {j : Nat} (hj : j < l.length) (c : UInt8) : RowB w0 (w.setCell ⟨g, j, none⟩ (.int .u8 c.toNat)) g (l.set j c) := by
  refine ⟨h.ge, by simpa using h.lt, fun i x hi => ?_, fun i hi => ?_, h.bel.setCell h.ge _⟩
  · by_cases hij : i = j
    · subst hij
      rw [List.getElem?_set_self hj] at hi
      obtain rfl := Option.some.inj hi
      exact World.cell?_setCell_same _ _ _ (h.cell i _ (List.getElem?_eq_getElem hj))
    · rw [List.getElem?_set_ne (Ne.symm hij)] at hi
      exact (World.cell?_setCell_other (w := w) (a := ⟨g, j, none⟩) (b := ⟨g, i, none⟩) (v := .int .u8 c.toNat) (h := by intro e; cases e; exact hij rfl)).trans (h.cell i x hi)
  · rw [World.frozen?_setCell]
    exact h.free i (by simpa using hi)
theorem RowB.below {w0 w w' : World} {g : Nat} {l : List UInt8} (h : RowB w0 w g l) (hb : Below w.heap.size w w') : RowB w0 w' g l :=
  ⟨h.ge, Nat.lt_of_lt_of_le h.lt hb.size, fun j c hj => by rw [hb.cell (p := ⟨g, j, none⟩) h.lt]; exact h.cell j c hj, fun j hj => by rw [hb.frozen (p := ⟨g, j, none⟩) h.lt]; exact h.free j hj, h.bel.trans (hb.mono h.bel.size)⟩
theorem size_bytesRow (s : ByteArray) (cap : Nat) : (bytesRow s cap).size = s.size + (cap - s.size) := by unfold bytesRow; rw [Array.size_append, Array.size_map, Array.size_replicate]; rfl
theorem rowB_made (w0 w : World) (hb : Below w0.heap.size w0 w) (s : ByteArray) (cap : Nat) : RowB w0 (w.drew.alloc (.cells (bytesRow s cap) 5 ((bytesRow s cap).size, (bytesRow s cap).size + 1))) w.heap.size s.data.toList := by
  have hq := heap_alloc_new w.drew (.cells (bytesRow s cap) 5 ((bytesRow s cap).size, (bytesRow s cap).size + 1))
  have hl : s.data.toList.length = s.size := (Lib.size_eq s).symm
  have hz := size_bytesRow s cap
  refine ⟨hb.size, by simp, fun j c hj => ?_, fun j hj => ?_, hb.drew.alloc hb.size _⟩
  · rw [World.cell?]
    have hq' : (w.drew.alloc (.cells (bytesRow s cap) 5 ((bytesRow s cap).size, (bytesRow s cap).size + 1))).heap[w.heap.size]? = _ := hq
    simp only [hq']
    have hjl := (List.getElem?_eq_some_iff.1 hj).1
    unfold bytesRow
    rw [Array.getElem?_append_left (by rw [Array.size_map]; exact hjl)]
    rw [Array.getElem?_map]
    have : s.data[j]? = some c := by rw [← Array.getElem?_toList]; exact hj
    rw [this]
    rfl
  · unfold World.frozen?
    have hq' : (w.drew.alloc (.cells (bytesRow s cap) 5 ((bytesRow s cap).size, (bytesRow s cap).size + 1))).heap[w.heap.size]? = _ := hq
    simp only [hq']
    simp
    omega

section
variable {ops : Array Oper} {rest : List Oper} {o : Oper} {act : Act} {Q : Exit → Act → World → Prop}
theorem wpL_tobytes {w0 w : World} {x : Operand} {s : ByteArray} (hgd : o.guard = none) (ho : o.op = .convert 9 22 x) (hx : act.eval x = .string s) (hb : Below w0.heap.size w0 w) (hs : s.size ≤ maxLen)
    (h : ∀ cap w', RowB w0 w' w.heap.size s.data.toList → s.size ≤ cap → cap ≤ maxLen → Below w.heap.size w w' → wpList Tryd.prog ops Q rest (act.put o.dst (.slice (some ⟨w.heap.size, 0, none⟩) s.size cap)) w') :
    wpList Tryd.prog ops Q (o :: rest) act w := by
  have hr := run_bytes_of_string (P := Tryd.prog) w 9 22 5 s Tryd.underlying9 Tryd.underlying22 Tryd.underlying5
  refine wpList_plain hgd fun K hK => ?_
  unfold Oper.wp execOp
  rw [ho]
  simp only [hx, Sem.run_bind, hr, Result.andThen_ok, Sem.run_pure]
  exact hK _ _ (h _ _ (rowB_made w0 w hb s _) (grownCap_ge _ _ _ _) (grownCap_le_maxLen _ _ _ _ hs) ((Below.refl _ _).drew.alloc (Nat.le_refl _) _))
end
end Go.Proofs.YtdikgifgapbocaaDoor
