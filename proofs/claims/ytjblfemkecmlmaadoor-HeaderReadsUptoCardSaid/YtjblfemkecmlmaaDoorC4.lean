/- A row of bytes of a call's own that grows by one byte; its string. -/
import Derived.Test.YtjblfemkecmlmaaDoorC3
import Derived.Lib.OthersKept
set_option linter.unusedSimpArgs false
set_option linter.unusedVariables false
namespace Go.Proofs.YtjblfemkecmlmaaDoor
open Go.RowKit Go.Shelf

theorem infoB : ∃ i0 : TypeInfo, Tryd.prog.info? 5 = some i0 ∧ i0.zero = some (.int .u8 0) ∧ i0.size = 1 ∧ i0.bytes = 1 := by
  have h : (Tryd.prog.info? 5).map (fun i => (i.zero, i.size, i.bytes)) = some (some (.int .u8 0), 1, 1) := by kernel_rfl
  obtain ⟨i0, hi0, hi1⟩ := Option.map_eq_some_iff.1 h
  exact ⟨i0, hi0, congrArg (·.1) hi1, congrArg (·.2.1) hi1, congrArg (·.2.2) hi1⟩
/-- A slice of these bytes, older than w. -/
def Bs (w : World) (a : Option Addr) (l : List UInt8) : Prop := ∀ j c, l[j]? = some c → ∃ b off, a = some ⟨b, off, none⟩ ∧ b < w.heap.size ∧ w.cell? ⟨b, off + j, none⟩ = some (.int .u8 c.toNat)
def slLen : Value → Nat
  | .slice _ n _ => n
  | _ => 0
theorem Bs.below {w w' : World} {a : Option Addr} {l : List UInt8} (h : Bs w a l) (hb : Below w.heap.size w w') : Bs w' a l := fun j c hj => by
  obtain ⟨b, off, e, h1, h2⟩ := h j c hj
  exact ⟨b, off, e, Nat.lt_of_lt_of_le h1 hb.size, by rw [hb.cell (p := ⟨b, off + j, none⟩) h1]; exact h2⟩
theorem Bs.open {w : World} {a : Option Addr} {c : UInt8} {t : List UInt8} (h : Bs w a (c :: t)) : ∃ b off, a = some ⟨b, off, none⟩ ∧ b < w.heap.size ∧ ∀ j x, (c :: t)[j]? = some x → w.cell? ⟨b, off + j, none⟩ = some (.int .u8 x.toNat) := by
  obtain ⟨b, off, rfl, hb, _⟩ := h 0 c rfl
  refine ⟨b, off, rfl, hb, fun j x hj => ?_⟩
  obtain ⟨b', off', e, _, h'⟩ := h j x hj
  cases e
  exact h'

/-- The slice at a with room cap holds l, in a block from B on. -/
structure OB (B : Nat) (w : World) (a : Option Addr) (cap : Nat) (l : List UInt8) : Prop where
  own : w.ownsRow B 5 1 (.slice a l.length cap) l.length (Lib.byteCells l)
  size : B ≤ w.heap.size
theorem ownsRow_keep {w w' : World} {B : Nat} {e : TypeId} {s : Nat} {v : Value} {n : Nat} {xs : List Value} (h : w.ownsRow B e s v n xs) (hb : ∀ g, B ≤ g → g < w.heap.size → w'.heap[g]? = w.heap[g]?) : w'.ownsRow B e s v n xs := by
  refine ⟨h.1, ?_⟩
  rcases h.2 with hn | ⟨g, cap, cur, e1, e2, e3, rest⟩
  · exact .inl hn
  · exact .inr ⟨g, cap, cur, e1, e2, by rw [hb g e2 (Array.getElem?_eq_some_iff.1 e3).1]; exact e3, rest⟩
theorem OB.below {B : Nat} {w w' : World} {a : Option Addr} {cap : Nat} {l : List UInt8} (h : OB B w a cap l) (hb : Below w.heap.size w w') : OB B w' a cap l :=
  ⟨ownsRow_keep h.own (fun g _ hg => hb.block g hg), Nat.le_trans h.size hb.size⟩
theorem OB.chg {B r : Nat} {w w' : World} {a : Option Addr} {cap : Nat} {l : List UInt8} (h : OB B w a cap l) (hc : Chg r w w') (hr : r < B) : OB B w' a cap l :=
  ⟨ownsRow_keep h.own (fun g hB hg => hc.other g hg (by omega)), Nat.le_trans h.size hc.below.size⟩
theorem OB.alloc {B : Nat} {w : World} {a : Option Addr} {cap : Nat} {l : List UInt8} (h : OB B w a cap l) (o : Obj) : OB B (w.alloc o) a cap l := h.below ((Below.refl _ _).alloc (Nat.le_refl _) o)
theorem OB.nil (w : World) : OB w.heap.size w none 0 [] := ⟨World.ownsRow_nil w _ _ _, Nat.le_refl _⟩
theorem OB.cells {B : Nat} {w : World} {a : Option Addr} {cap : Nat} {l : List UInt8} (h : OB B w a cap l) : Bs w a l := by
  intro j c hj
  have hj' := (List.getElem?_eq_some_iff.1 hj).1
  rcases h.own.2 with ⟨_, e⟩ | ⟨g, cap', cur, e1, e2, e3, e4, e5, e6, e7⟩
  · omega
  · injection e1 with q1 q2 q3
    subst q1
    refine ⟨g, 0, rfl, (Array.getElem?_eq_some_iff.1 e3).1, ?_⟩
    have hg := h.own.cells (g := g) rfl j (.int .u8 c.toNat) (by simp [Lib.byteCells, hj])
    have hadd : (⟨g, 0, none⟩ : Addr).add j = ⟨g, 0 + j, none⟩ := by unfold Addr.add; split <;> simp_all
    rw [hadd] at hg
    exact hg

section
variable {ops : Array Oper} {rest : List Oper} {o : Oper} {act : Act} {Q : Exit → Act → World → Prop}
theorem wpL_ob {B : Nat} {w : World} {a : Option Addr} {cap : Nat} {l : List UInt8} {s x : Operand} {c : UInt8} {n : Nat} (hgd : o.guard = none) (ho : o.op = .call { callee := .builtin .append, args := #[s, x], argTypes := #[22, 22] })
    (hs : act.eval s = .slice a n cap) (hob : OB B w a cap l) (hn : l.length = n) (hx : act.eval x = .slice (some ⟨w.heap.size, 0, none⟩) 1 1) (hl : l.length < 70368744177664)
    (h : ∀ a' cap' w', OB B w' a' cap' (l ++ [c]) → Below B w w' → wpList Tryd.prog ops Q rest (act.put o.dst (.slice a' (n + 1) cap')) w') :
    wpList Tryd.prog ops Q (o :: rest) act (w.alloc (.cells #[.int .u8 c.toNat] 5)) := by
  obtain ⟨i0, hi, hz0, hz1, hz2⟩ := infoB
  subst hn
  refine wpList_append_own _ hgd s x 22 ho B 5 i0 (.int .u8 0) 1 1 Tryd.underlying22 hi hz0 hz1 hz2 rfl (by decide) _ _ _ hs (hob.alloc _).own ⟨w.heap.size, 0, none⟩ 1 1 [.int .u8 c.toNat] hx rfl ?_ ?_ ?_ ?_ ?_ ?_
  · intro j u hj
    match j, hj with
    | 0, hj => simp at hj; subst hj; simp [Addr.add]
  · intro u hu; simp at hu; subst hu; rfl
  · unfold maxLen; omega
  · omega
  · have := hob.size; simp; omega
  · intro v' w' hown hg _
    have hlen : (l ++ [c]).length = l.length + 1 := by simp
    obtain ⟨a', cap', rfl⟩ : ∃ a' cap', v' = .slice a' (l.length + 1) cap' := by
      rcases hown.2 with ⟨_, e⟩ | ⟨g, cap', cur, e1, _⟩
      · omega
      · exact ⟨_, _, e1⟩
    have b1 : Below B w (w.alloc (.cells #[.int .u8 c.toNat] 5)) := (Below.refl _ _).alloc hob.size _
    have b2 := b1.grown hg (hob.alloc (.cells #[.int .u8 c.toNat] 5)).size (fun k hk => (hob.own.lt k hk).1)
    refine h a' cap' w' ⟨?_, Nat.le_trans hob.size b2.size⟩ b2
    rw [hlen, Lib.byteCells_append]
    exact hown
end

/-- The bytes' numbers. -/
def nums (l : List UInt8) : List Int := l.map (fun c => (c.toNat : Int))
theorem strOfNums_nums (l : List UInt8) : strOfNums (nums l) = ⟨l.toArray⟩ := by
  unfold strOfNums nums
  rw [List.map_map]
  congr 2
  conv => rhs; rw [← List.map_id l]
  apply List.map_congr_left
  intro c _
  simp
theorem bs_string {w : World} {a : Option Addr} {l : List UInt8} (cap : Nat) (h : Bs w a l) : (convert 22 9 (.slice a l.length cap)).run Tryd.prog w = .ok (.string ⟨l.toArray⟩) w := by
  match l, h with
  | [], h =>
    show (convert 22 9 (.slice a 0 cap)).run Tryd.prog w = .ok (.string ⟨#[]⟩) w
    rw [run_convert_bytes_string w 22 9 5 a 0 cap Tryd.underlying22 Tryd.underlying5 Tryd.underlying9]
    cases a with
    | none => simp [Conv.bytesToString]; rfl
    | some ad => 
      have : (loadCells ad 0).run Tryd.prog w = .ok #[] w := by have := run_loadCells_list (P := Tryd.prog) w ad [] (by simp); simpa using this
      have h2 := run_bytesToString w (P := Tryd.prog) ad 0 cap [] (by simpa using this)
      have h3 : (Conv.bytesToString (.slice (some ad) 0 cap)).run Tryd.prog w = .ok (.string ByteArray.empty) w := by simpa using h2
      exact h3
  | c :: t, h =>
    obtain ⟨b, off, rfl, hb, hc⟩ := h.open
    have hl : (nums (c :: t)).length = (c :: t).length := by simp [nums]
    rw [run_convert_bytes_arg w 22 5 Tryd.underlying22 Tryd.underlying5 b off _ cap (nums (c :: t)) hl (fun i hi => ?_) 9 Tryd.underlying9, strOfNums_nums]
    have he : (c :: t)[i]? = some ((c :: t)[i]) := List.getElem?_eq_getElem hi
    rw [hc i _ he]
    congr 2
    unfold nums
    rw [List.getD_eq_getElem?_getD, List.getElem?_map, he]
    rfl
theorem bs_string' {w : World} {a : Option Addr} {l : List UInt8} {n : Nat} (cap : Nat) (h : Bs w a l) (hn : l.length = n) : (convert 22 9 (.slice a n cap)).run Tryd.prog w = .ok (.string ⟨l.toArray⟩) w := by
  subst hn
  exact bs_string cap h
end Go.Proofs.YtjblfemkecmlmaaDoor
