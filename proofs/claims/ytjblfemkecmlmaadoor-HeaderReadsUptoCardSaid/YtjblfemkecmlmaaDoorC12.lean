/- Parse. -/
import Derived.Test.YtjblfemkecmlmaaDoorC11
import Derived.Test.YtjblfemkecmlmaaDoorQ5
import Derived.WalkMore
set_option linter.unusedSimpArgs false
set_option linter.unusedVariables false
namespace Go.Proofs.YtjblfemkecmlmaaDoor
open Go.RowKit Go.Shelf

/-- As Q; by a goto: what J says of its label. -/
def jumpsTo (J : Nat → Act → World → Prop) (Q : Exit → Act → World → Prop) : Exit → Act → World → Prop
  | .goto l, a, w => J l a w
  | e, a, w => Q e a w
theorem wp_scope_labels {P : Program} {a : Act} {w : World} {Q : Exit → Act → World → Prop} {c : Code} (J : Nat → Act → World → Prop) (μ : Nat → Act → World → Nat)
    (M : Nat) (first : c.wp P (jumpsTo (fun l a w => J l a w ∧ μ l a w < M) Q) a w)
    (pass : ∀ l a w, J l a w → ∃ rest, findLabel c l = some rest ∧ rest.wp P (jumpsTo (fun l' a' w' => J l' a' w' ∧ μ l' a' w' < μ l a w) Q) a w) : (Code.scope c).wp P Q a w := by
  intro b k cs
  have key : ∀ n l a w, μ l a w = n → J l a w → ∃ rest, findLabel c l = some rest ∧ ∃ e a' w', Q e a' w' ∧ Arrives P (lone (b.at a (.code rest :: .inScope c :: k)) cs w) b k cs e a' w' := by
    intro n
    induction n using Nat.strongRecOn with
    | _ n ih =>
      intro l a w hn hJ
      obtain ⟨rest, hf, hwp⟩ := pass l a w hJ
      refine ⟨rest, hf, ?_⟩
      obtain ⟨e, a₁, w₁, hq, harr⟩ := hwp b (.inScope c :: k) cs
      cases e with
      | normal => exact ⟨.normal, a₁, w₁, hq, Steps.trans harr (.one step_inScope)⟩
      | exit id => exact ⟨.exit id, a₁, w₁, hq, fun k' hk => harr k' (by simp [exitTo, hk])⟩
      | goto l' =>
        obtain ⟨hJ', hlt⟩ := hq
        obtain ⟨rest', hf', e₂, a₂, w₂, hq₂, harr₂⟩ := ih _ (by omega) l' a₁ w₁ rfl hJ'
        have hg : gotoIn l' (.inScope c :: k) = some (.code rest' :: .inScope c :: k) := by simp [gotoIn, hf']
        exact ⟨e₂, a₂, w₂, hq₂, .of_steps (harr _ hg) harr₂⟩
      | ret => exact ⟨_, a₁, w₁, hq, harr⟩
      | panic ch => exact ⟨_, a₁, w₁, hq, harr⟩
      | outgrown => exact ⟨_, a₁, w₁, hq, harr⟩
  obtain ⟨e, a₁, w₁, hq, harr⟩ := first b (.inScope c :: k) cs
  cases e with
  | normal => exact ⟨.normal, a₁, w₁, hq, .head step_scope (Steps.trans harr (.one step_inScope))⟩
  | exit id => exact ⟨.exit id, a₁, w₁, hq, fun k' hk => .head step_scope (harr k' (by simp [exitTo, hk]))⟩
  | goto l' =>
    obtain ⟨rest', hf', e₂, a₂, w₂, hq₂, harr₂⟩ := key _ l' a₁ w₁ rfl hq.1
    have hg : gotoIn l' (.inScope c :: k) = some (.code rest' :: .inScope c :: k) := by simp [gotoIn, hf']
    exact ⟨e₂, a₂, w₂, hq₂, .of_steps (.head step_scope (harr _ hg)) harr₂⟩
  | ret => exact ⟨_, a₁, w₁, hq, .of_steps (.one step_scope) harr⟩
  | panic ch => exact ⟨_, a₁, w₁, hq, .of_steps (.one step_scope) harr⟩
  | outgrown => exact ⟨_, a₁, w₁, hq, .of_steps (.one step_scope) harr⟩
theorem wp_scope_three {P : Program} {a : Act} {w : World} {Q : Exit → Act → World → Prop} {c r0 r1 r2 : Code} (J : Nat → Act → World → Prop) (μ : Nat → Act → World → Nat) (M : Nat)
    (h3 : ∀ l a w, J l a w → l = 0 ∨ l = 1 ∨ l = 2) (first : c.wp P (jumpsTo (fun l a w => J l a w ∧ μ l a w < M) Q) a w)
    (f0 : findLabel c 0 = some r0) (f1 : findLabel c 1 = some r1) (f2 : findLabel c 2 = some r2)
    (p0 : ∀ a w, J 0 a w → r0.wp P (jumpsTo (fun l' a' w' => J l' a' w' ∧ μ l' a' w' < μ 0 a w) Q) a w)
    (p1 : ∀ a w, J 1 a w → r1.wp P (jumpsTo (fun l' a' w' => J l' a' w' ∧ μ l' a' w' < μ 1 a w) Q) a w)
    (p2 : ∀ a w, J 2 a w → r2.wp P (jumpsTo (fun l' a' w' => J l' a' w' ∧ μ l' a' w' < μ 2 a w) Q) a w) : (Code.scope c).wp P Q a w := by
  refine wp_scope_labels J μ M first ?_
  intro l a w hJ
  rcases h3 l a w hJ with rfl | rfl | rfl
  · exact ⟨r0, f0, p0 a w hJ⟩
  · exact ⟨r1, f1, p1 a w hJ⟩
  · exact ⟨r2, f2, p2 a w hJ⟩
/-- At a place that a jump may come to: it is enough to show it for all that may come there. -/
theorem wp_at_label {P : Program} {Q : Exit → Act → World → Prop} {c : Code} {a : Act} {w : World} (J : Nat → Act → World → Prop) (μ : Nat → Act → World → Nat) (M l : Nat)
    (hJ : J l a w) (hM : μ l a w ≤ M) (h : ∀ a w, J l a w → c.wp P (jumpsTo (fun l' a' w' => J l' a' w' ∧ μ l' a' w' < μ l a w) Q) a w) : c.wp P (jumpsTo (fun l' a' w' => J l' a' w' ∧ μ l' a' w' < M) Q) a w := by
  refine Code.wp_mono (fun e a w hq => ?_) (h a w hJ)
  cases e with
  | goto l' => exact ⟨hq.1, Nat.lt_of_lt_of_le hq.2 hM⟩
  | normal => exact hq
  | exit id => exact hq
  | ret => exact hq
  | panic ch => exact hq
  | outgrown => exact hq

theorem wrapI {x : Int} (h1 : -9223372036854775808 ≤ x) (h2 : x ≤ 9223372036854775807) : IntKind.i64.wrap x = x := by
  simp [IntKind.wrap, IntKind.signed, IntKind.bits]
  omega
theorem sl_hi (s : ByteArray) (n : Nat) (hn : n ≤ s.size) (hs : s.size ≤ 9223372036854775807) (w : World) : (Instr.sliceAt 9 (.string s) none (some (.int .i64 n)) none).run Tryd.prog w = .ok (.string (s.extract 0 n)) w := by
  have h1 : (n : Int) ≤ s.size := by omega
  go_simp
theorem sl_lo (s : ByteArray) (n : Nat) (hn : n ≤ s.size) (hs : s.size ≤ 9223372036854775807) (w : World) : (Instr.sliceAt 9 (.string s) (some (.int .i64 n)) none none).run Tryd.prog w = .ok (.string (s.extract n s.size)) w := by
  have h1 : (n : Int) ≤ s.size := by omega
  go_simp
theorem run_slice_hi {o : Oper} {a : Act} {x y : Operand} {s : ByteArray} {n : Nat} (ho : o.op = .slice 9 x none (some y) none) (hx : a.eval x = .string s) (hy : a.eval y = .int .i64 n) (hn : n ≤ s.size) (hs : s.size ≤ 9223372036854775807) : ∀ w, (execOp a.eval o).run Tryd.prog w = .ok (.value (.string (s.extract 0 n))) w := by
  intro w
  unfold execOp
  simp only [ho, hx, Option.map_some, Option.map_none, hy, Sem.run_bind, sl_hi s n hn hs w, Result.andThen_ok, Sem.run_pure]
theorem run_slice_lo {o : Oper} {a : Act} {x y : Operand} {s : ByteArray} {n : Nat} (ho : o.op = .slice 9 x (some y) none none) (hx : a.eval x = .string s) (hy : a.eval y = .int .i64 n) (hn : n ≤ s.size) (hs : s.size ≤ 9223372036854775807) : ∀ w, (execOp a.eval o).run Tryd.prog w = .ok (.value (.string (s.extract n s.size))) w := by
  intro w
  unfold execOp
  simp only [ho, hx, Option.map_some, Option.map_none, hy, Sem.run_bind, sl_lo s n hn hs w, Result.andThen_ok, Sem.run_pure]
theorem run_addi {o : Oper} {a : Act} {x : Operand} {n : Nat} (ho : o.op = .binOp .add 3 x (.const (.int .i64 1)) 3) (hx : a.eval x = .int .i64 n) (hn : n ≤ 2147483648) : ∀ w, (execOp a.eval o).run Tryd.prog w = .ok (.value (.int .i64 ((n + 1 : Nat) : Int))) w := by
  intro w
  unfold execOp
  simp only [ho, hx]
  go_simp
  exact wrapI (by omega) (by omega)
theorem keep_kp (A : List Fld) (nm vl : List UInt8) : keepR A nm vl = kpR A nm vl := rfl
/-- The name and the value are written over. -/
theorem PS.name {B : Nat} {w : World} {A : List Fld} {nm vl : List UInt8} (h : PS B w A nm vl) (nm' : List UInt8) : PS B (w.setCell ⟨B + 1, 0, none⟩ (.string ⟨nm'.toArray⟩)) A nm' vl ∧ Below B w (w.setCell ⟨B + 1, 0, none⟩ (.string ⟨nm'.toArray⟩)) := by
  have hz := h.size
  obtain ⟨a, cap, h1, h2⟩ := h.l
  obtain ⟨a', cap', h3, h4⟩ := h.v
  obtain ⟨s1, s2, s3⟩ := set_row h.n (.string ⟨nm'.toArray⟩)
  exact ⟨⟨⟨a, cap, by rw [s2 _ (by omega)]; exact h1, ownsRow_keep h2 (fun g hg _ => s2 g (by omega))⟩, s1, ⟨a', cap', by rw [s2 _ (by omega)]; exact h3, ownsRow_keep h4 (fun g hg _ => s2 g (by omega))⟩, by rw [s3]; exact hz⟩, below_set (Below.refl _ _) (by omega) _⟩
theorem PS.clear {B : Nat} {w : World} {A : List Fld} {nm vl : List UInt8} (h : PS B w A nm vl) : PS B (w.setCell ⟨B + 2, 0, none⟩ (.slice none 0 0)) A nm [] ∧ Below B w (w.setCell ⟨B + 2, 0, none⟩ (.slice none 0 0)) := by
  have hz := h.size
  obtain ⟨a, cap, h1, h2⟩ := h.l
  obtain ⟨a', cap', h3, h4⟩ := h.v
  obtain ⟨s1, s2, s3⟩ := set_row h3 (.slice none 0 0)
  exact ⟨⟨⟨a, cap, by rw [s2 _ (by omega)]; exact h1, ownsRow_keep h2 (fun g hg _ => s2 g (by omega))⟩, by rw [s2 _ (by omega)]; exact h.n, ⟨none, 0, s1, World.ownsRow_nil _ _ _ _⟩, by rw [s3]; exact hz⟩, below_set (Below.refl _ _) (by omega) _⟩
/-- The value goes on. -/
theorem PS.more {B : Nat} {w : World} {A : List Fld} {nm vl : List UInt8} (h : PS B w A nm vl) (v : List UInt8) (hv : vl.length + v.length ≤ 140737488355328) (ty : TypeId) :
    ∃ a cap a' cap' w5, w.cell? ⟨B + 2, 0, none⟩ = some (.slice a vl.length cap) ∧ (Builtin.append_ #[22, 9] ty #[.slice a vl.length cap, .string ⟨v.toArray⟩]).run Tryd.prog w = .ok (.slice a' (vl.length + v.length) cap') w5 ∧
      w5.cell? ⟨B + 2, 0, none⟩ = some (.slice a vl.length cap) ∧ w5.frozen? ⟨B + 2, 0, none⟩ = false ∧ PS B (w5.setCell ⟨B + 2, 0, none⟩ (.slice a' (vl.length + v.length) cap')) A nm (vl ++ v) ∧ Below B w (w5.setCell ⟨B + 2, 0, none⟩ (.slice a' (vl.length + v.length) cap')) := by
  have hz := h.size
  obtain ⟨a, cap, h1, h2⟩ := h.l
  obtain ⟨a2, cap2, h3, h4⟩ := h.v
  obtain ⟨i0, hi, hz0, hz1, hz2⟩ := infoB
  have hsz : (⟨v.toArray⟩ : ByteArray).size = v.length := rfl
  obtain ⟨v', w5, hr, hown, hg, hnil⟩ := Lib.run_append_own_string (P := Tryd.prog) (w := w) (B + 3) 22 9 ty 5 i0 Tryd.underlying22 Tryd.underlying9 hi hz0 hz1 hz2 _ vl.length (Lib.byteCells vl) h4 ⟨v.toArray⟩ (by unfold maxLen; omega) (by omega) (by omega)
  rw [hsz] at hown hnil
  have hv : ∃ a' cap', v' = .slice a' (vl.length + v.length) cap' := by
    rcases hown.2 with ⟨e, e2⟩ | ⟨g, cap', cur, e1, _⟩
    · exact ⟨none, 0, by rw [e, e2]⟩
    · exact ⟨_, _, e1⟩
  obtain ⟨a', cap', rfl⟩ := hv
  have hlo : ∀ k, Value.ownBlock (.slice a2 vl.length cap2) = some k → B + 3 ≤ k := own_shift h4
  have old : ∀ k, k < B + 3 → w5.heap[k]? = w.heap[k]? := fun k hk => hg.block k (by omega) (fun e => by have := hlo k e.symm; omega)
  have c1 : w5.heap[B + 2]? = some (.cells #[.slice a2 vl.length cap2] 22) := by rw [old _ (by omega)]; exact h3
  obtain ⟨s1, s2, s3⟩ := set_row c1 (.slice a' (vl.length + v.length) cap')
  have h2' := h2.kept hg (own_apart h2 h4 (by decide))
  have hbw : Below B w w5 := ⟨hg.os, hg.tape, hg.output, hg.size, fun k hk => old k (by omega)⟩
  have hsc : Lib.strCells ⟨v.toArray⟩ = Lib.byteCells v := rfl
  refine ⟨a2, cap2, a', cap', w5, by rw [cell_of_row _ _ _ _ _ _ h3]; rfl, hr, by rw [cell_of_row _ _ _ _ _ _ c1]; rfl, frozen_row c1, ⟨⟨a, cap, ?_, ?_⟩, ?_, ⟨a', cap', ?_, ?_⟩, ?_⟩, below_set hbw (by omega) _⟩
  · rw [s2 _ (by omega), old _ (by omega)]; exact h1
  · exact ownsRow_keep h2' (fun g hg1 _ => s2 g (by omega))
  · rw [s2 _ (by omega), old _ (by omega)]; exact h.n
  · rw [List.length_append]; exact s1
  · rw [List.length_append, Lib.byteCells_append]
    rw [hsc] at hown
    exact ownsRow_keep hown (fun g hg1 _ => s2 g (by omega))
  · rw [s3]; exact Nat.le_trans hz hg.size
/-- What is so at all of Parse's places: F, the fields so far; vb, how many bytes have gone by. -/
structure PI (s : List UInt8) (b off : Nat) (res : List Fld × Nat) (w0 w : World) (at_ : Nat) (F : List Fld) : Prop where
  ps : PS w0.heap.size w (fin F.dropLast) (curN F) (curV F)
  bel : Below w0.heap.size w0 w
  nm : NmOk F
  le : at_ ≤ s.length
  vl : (curV F).length ≤ at_
def PNext (s : List UInt8) (b off : Nat) (res : List Fld × Nat) (w0 w : World) (at_ : Nat) : Prop :=
  ∃ F, PI s b off res w0 w at_ F ∧ ∃ k, (s.drop at_).length < k ∧ hd k (s.drop at_) at_ F = res
def PBody (s : List UInt8) (b off : Nat) (res : List Fld × Nat) (w0 w : World) (at_ : Nat) : Prop :=
  ∃ F, PI s b off res w0 w at_ F ∧ res = (F, at_)
def PMore (s : List UInt8) (b off : Nat) (res : List Fld × Nat) (w0 w : World) (at_ : Nat) (tx : List UInt8) : Prop :=
  s.drop at_ ≠ [] ∧ ∃ F v, PI s b off res w0 w at_ F ∧ F ≠ [] ∧ tx.length ≤ s.length ∧ Lib.trimSuffix tx [13, 10] = v ∧ (curV F).length + v.length ≤ at_ + (lnL (s.drop at_)).length ∧
    ∃ k, ((s.drop at_).drop (lnL (s.drop at_)).length).length < k ∧ hd k ((s.drop at_).drop (lnL (s.drop at_)).length) (at_ + (lnL (s.drop at_)).length) (addl F v) = res
/-- What is so at a jump to a label: 0 next, 1 body, 2 more. -/
def PJ (s : List UInt8) (b off n cap : Nat) (res : List Fld × Nat) (w0 : World) (B : Nat) (l : Nat) (a : Act) (w : World) : Prop :=
  match l with
  | 0 => ∃ (at_ : Nat) (u1 u2 u3 u8 u9 u11 u12 u13 u14 u15 u16 u17 u18 u19 u20 u21 u22 u23 u24 u25 u26 u27 u28 u29 u30 u31 u32 u33 u34 u35 u36 u37 u38 u39 u40 u41 u42 u43 u44 u45 u46 u47 u48 u49 u50 u51 u52 u53 u54 : Value), a = { tmps := #[.slice (some ⟨b, off, none⟩) n cap, u1, u2, u3, .pointer (some ⟨B, 0, none⟩), .pointer (some ⟨B + 1, 0, none⟩), .pointer (some ⟨B + 2, 0, none⟩), .func (.func 17) #[] #[.pointer (some ⟨B + 1, 0, none⟩), .pointer (some ⟨B, 0, none⟩), .pointer (some ⟨B + 2, 0, none⟩)], u8, u9, .int .i64 (at_ : Int), u11, u12, u13, u14, u15, u16, u17, u18, u19, u20, u21, u22, u23, u24, u25, u26, u27, u28, u29, u30, u31, u32, u33, u34, u35, u36, u37, u38, u39, u40, u41, u42, u43, u44, u45, u46, u47, u48, u49, u50, u51, u52, u53, u54], defers := [] } ∧ Hid (PNext s b off res w0 w at_)
  | 1 => ∃ (at_ : Nat) (u1 u2 u3 u8 u9 u11 u12 u13 u14 u15 u16 u17 u18 u19 u20 u21 u22 u23 u24 u25 u26 u27 u28 u29 u30 u31 u32 u33 u34 u35 u36 u37 u38 u39 u40 u41 u42 u43 u44 u45 u46 u47 u48 u49 u50 u51 u52 u53 u54 : Value), a = { tmps := #[.slice (some ⟨b, off, none⟩) n cap, u1, u2, u3, .pointer (some ⟨B, 0, none⟩), .pointer (some ⟨B + 1, 0, none⟩), .pointer (some ⟨B + 2, 0, none⟩), .func (.func 17) #[] #[.pointer (some ⟨B + 1, 0, none⟩), .pointer (some ⟨B, 0, none⟩), .pointer (some ⟨B + 2, 0, none⟩)], u8, u9, .int .i64 (at_ : Int), u11, u12, u13, u14, u15, u16, u17, u18, u19, u20, u21, u22, u23, u24, u25, u26, u27, u28, u29, u30, u31, u32, u33, u34, u35, u36, u37, u38, u39, u40, u41, u42, u43, u44, u45, u46, u47, u48, u49, u50, u51, u52, u53, u54], defers := [] } ∧ Hid (PBody s b off res w0 w at_)
  | 2 => ∃ (at_ : Nat) (tx : List UInt8) (u1 u2 u3 u11 u12 u13 u14 u15 u16 u17 u18 u19 u20 u21 u22 u23 u24 u25 u26 u27 u28 u29 u30 u31 u32 u33 u34 u35 u36 u37 u38 u39 u40 u41 u42 u43 u44 u45 u46 u47 u48 u49 u50 u51 u52 u53 u54 : Value), a = { tmps := #[.slice (some ⟨b, off, none⟩) n cap, u1, u2, u3, .pointer (some ⟨B, 0, none⟩), .pointer (some ⟨B + 1, 0, none⟩), .pointer (some ⟨B + 2, 0, none⟩), .func (.func 17) #[] #[.pointer (some ⟨B + 1, 0, none⟩), .pointer (some ⟨B, 0, none⟩), .pointer (some ⟨B + 2, 0, none⟩)], .string ⟨(lnL (s.drop at_)).toArray⟩, .string ⟨tx.toArray⟩, .int .i64 (at_ : Int), u11, u12, u13, u14, u15, u16, u17, u18, u19, u20, u21, u22, u23, u24, u25, u26, u27, u28, u29, u30, u31, u32, u33, u34, u35, u36, u37, u38, u39, u40, u41, u42, u43, u44, u45, u46, u47, u48, u49, u50, u51, u52, u53, u54], defers := [] } ∧ Hid (PMore s b off res w0 w at_ tx)
  | _ => False
def Pμ (n : Nat) (l : Nat) (a : Act) : Nat := if l = 0 then 2 * (n - (intOf (a.tmps.getD 10 undef)).toNat) + 1 else if l = 2 then 2 * (n - (intOf (a.tmps.getD 10 undef)).toNat) else 0
theorem PI.below {s : List UInt8} {b off : Nat} {res : List Fld × Nat} {w0 w w' : World} {at_ : Nat} {F : List Fld} (h : PI s b off res w0 w at_ F) (hb : Below w.heap.size w w') : PI s b off res w0 w' at_ F :=
  ⟨h.ps.below hb, h.bel.trans (hb.mono h.bel.size), h.nm, h.le, h.vl⟩
def FPost (res : List Fld × Nat) (w : World) (e : Ending) (w' : World) : Prop := (∃ v, e = .returned (.tuple #[v, .int .i64 res.2]) ∧ FsAt w' v (fin res.1)) ∧ Below w.heap.size w w'
theorem mu_less {n a k : Nat} (h : a + k ≤ n) (hk : 0 < k) : 2 * (n - (a + k)) + 1 < 2 * (n - a) := by omega
theorem wrap_small {a : Nat} (h : a ≤ 4294967296) : wrap64 (a : Int) = a := by unfold wrap64; omega
/-- What is left of a slice, and where it lies. -/
theorem slice_rest (b off n cap at_ : Nat) (hn : n ≤ cap) (hat : at_ ≤ n) : ∃ o2, (cap = at_ ∨ o2 = off + at_) ∧ ∀ w, (Instr.sliceAt 22 (.slice (some ⟨b, off, none⟩) n cap) (some (.int .i64 (at_ : Int))) none none).run Tryd.prog w = .ok (.slice (some ⟨b, o2, none⟩) (n - at_) (cap - at_)) w := by
  by_cases hc : cap = at_
  · refine ⟨off, .inl hc, fun w => ?_⟩
    have h1 : (at_ : Int) ≤ n := by omega
    go_simp
  · refine ⟨off + at_, .inr rfl, fun w => ?_⟩
    have h1 : (at_ : Int) ≤ n := by omega
    go_simp
set_option maxHeartbeats 4000000 in
set_option maxRecDepth 100000 in
theorem parse_any (s : List UInt8) (b off n cap : Nat) (hn : s.length = n) (hl : n ≤ 2147483648) (hcap : n ≤ cap) (hc2 : cap ≤ 9223372036854775807) (w : World) (hM : Max w) (h : BP w b off s) :
    Calls Tryd.prog 8 #[.slice (some ⟨b, off, none⟩) n cap] w (FPost (hd (s.length + 1) s 0 []) w) := by
  generalize hres : hd (s.length + 1) s 0 [] = res
  unfold FPost
  have ps0 : PS w.heap.size (((w.alloc (.cells #[.slice none 0 0] 24)).alloc (.cells #[.string ⟨#[]⟩] 9)).alloc (.cells #[.slice none 0 0] 22)) [] [] [] := by
    refine ⟨⟨none, 0, ?_, World.ownsRow_nil _ _ _ _⟩, ?_, ⟨none, 0, ?_, World.ownsRow_nil _ _ _ _⟩, by simp⟩
    · rw [Below.heap_alloc _ _ _ (by simp; omega), Below.heap_alloc _ _ _ (by simp)]; exact heap_alloc_new w _
    · rw [Below.heap_alloc _ _ _ (by simp)]
      have := heap_alloc_new (w.alloc (.cells #[.slice none 0 0] 24)) (.cells #[.string ⟨#[]⟩] 9)
      simpa using this
    · have := heap_alloc_new ((w.alloc (.cells #[.slice none 0 0] 24)).alloc (.cells #[.string ⟨#[]⟩] 9)) (.cells #[.slice none 0 0] 22)
      simpa using this
  have bel0 : Below w.heap.size w (((w.alloc (.cells #[.slice none 0 0] 24)).alloc (.cells #[.string ⟨#[]⟩] 9)).alloc (.cells #[.slice none 0 0] 22)) := (((Below.refl _ _).alloc (Nat.le_refl _) _).alloc (by simp) _).alloc (by simp; omega) _
  have HN : Hid (PNext s b off res w (((w.alloc (.cells #[.slice none 0 0] 24)).alloc (.cells #[.string ⟨#[]⟩] 9)).alloc (.cells #[.slice none 0 0] 22)) 0) := Lib.hid ⟨[], ⟨ps0, bel0, fun f hf => by simp at hf, Nat.zero_le _, by simp [curV]⟩, s.length + 1, by simp, hres⟩
  clear ps0 bel0 hres
  go_enter Tryd.func8, Tryd.ntmps8
  go_wp2
  refine wp_scope_three (PJ s b off n cap res w w.heap.size) (fun l a w => Pμ n l a) (2 * n + 1) ?three ?first rfl rfl rfl ?next2 ?body ?more2
  case three =>
    intro l a wr hJ
    match l, hJ with
    | 0, _ => exact .inl rfl
    | 1, _ => exact .inr (.inl rfl)
    | 2, _ => exact .inr (.inr rfl)
    | l + 3, hJ => exact (hJ : False).elim
  case' first =>
    go_wp2
    go_step3
    rename_i K hK
    refine hK _ _ ?_
    clear hK
    refine wp_at_label (PJ s b off n cap res w w.heap.size) (fun l a w => Pμ n l a) _ 0 ?_ ?_ ?next1
    · exact ⟨0, _, _, _, _, _, _, _, _, _, _, _, _, _, _, _, _, _, _, _, _, _, _, _, _, _, _, _, _, _, _, _, _, _, _, _, _, _, _, _, _, _, _, _, _, _, _, _, _, _, rfl, HN⟩
    · show 2 * (n - 0) + 1 ≤ 2 * n + 1
      exact Nat.le_refl _
  case first | next2 =>
    rintro a wr ⟨at_, u1, u2, u3, u8, u9, u11, u12, u13, u14, u15, u16, u17, u18, u19, u20, u21, u22, u23, u24, u25, u26, u27, u28, u29, u30, u31, u32, u33, u34, u35, u36, u37, u38, u39, u40, u41, u42, u43, u44, u45, u46, u47, u48, u49, u50, u51, u52, u53, u54, rfl, HN1⟩
    obtain ⟨F, I, k, hk, hhd⟩ := HN1.out
    clear HN
    have hat := I.le
    have hM1 := hM.belowB I.bel hM.lt
    obtain ⟨o2, ho2, hsl⟩ := slice_rest b off n cap at_ hcap (by omega)
    have hB1 : BP wr b o2 (s.drop at_) := by
      rcases ho2 with e | e
      · have hnil : s.drop at_ = [] := List.drop_eq_nil_of_le (by omega)
        rw [hnil]
        exact ⟨(h.belowB I.bel h.lt).lt, fun j c hj => by simp at hj⟩
      · rw [e]; exact (h.belowB I.bel h.lt).drop at_
    have hld : (s.drop at_).length = n - at_ := by rw [List.length_drop, hn]
    have c1 := firstLine_any (s.drop at_) b o2 (n - at_) (cap - at_) hld (by omega) (by omega) (by omega) wr hM1 hB1
    have hI := Lib.hid I
    have hatn : at_ ≤ n := by omega
    clear I hB1 hM1 ho2
    go_wp2_with fail
    refine c1.mono ?_; rintro e w1 ⟨rfl, b1⟩
    have I1 := hI.out.below b1
    have q1 : w1.cell? ⟨w.heap.size + 1, 0, none⟩ = some (.string ⟨(curN F).toArray⟩) := by rw [cell_of_row _ _ _ _ _ _ I1.ps.n]; rfl
    have hI1 := Lib.hid I1
    have hll := ln_bound s at_
    have hll2 := at_bound hat
    have hll3 : (lnL (s.drop at_)).length ≤ 9223372036854775807 := Nat.le_trans hll (by rw [hn]; exact Nat.le_trans hl (by decide))
    have c2 := fun w => nameSize_any (lnL (s.drop at_)) hll3 w
    have c3 := fun w => beginsBlank_any (lnL (s.drop at_)) hll3 w
    have hcs := step_cases (s.drop at_) F
    have hln : (⟨(lnL (s.drop at_)).toArray⟩ : ByteArray).toList = lnL (s.drop at_) := by rw [Lib.toList_data]
    have hlz : (⟨(lnL (s.drop at_)).toArray⟩ : ByteArray).size = (lnL (s.drop at_)).length := rfl
    obtain ⟨at', hat'⟩ : ∃ at', at' = at_ + (lnL (s.drop at_)).length := ⟨_, rfl⟩
    have hw64 : wrap64 ((at_ : Int) + ((⟨(lnL (s.drop at_)).toArray⟩ : ByteArray).size : Int)) = (at' : Int) := by
      rw [hlz, hat', ← Int.natCast_add]; exact wrap_small (Nat.le_trans hll2 (by rw [hn]; exact Nat.le_trans hl (by decide)))
    have HAT := Lib.hid hat'
    have HHD := Lib.hid hhd
    have HK := Lib.hid hk
    have HLL : Hid (at' ≤ s.length) := Lib.hid (by rw [hat']; exact hll2)
    have hnm := nm_cur I1.nm
    clear c1 b1 hsl I1 hll hll2 hat' hhd hk hlz hI HN1 hat hld
    rcases hcs with ⟨hA, hS⟩ | ⟨hA, hB, hF, hS⟩ | ⟨hA, hB, h0, hS⟩ | ⟨hA, hB, h0, hlt, hS⟩
    · have HL : Hid (lnL (s.drop at_) = [13, 10]) := Lib.hid (beq_iff_eq.1 hA)
      rw [← hln] at hA
      have HE := Lib.hid (hd_inl HK.out HHD.out hS)
      clear hS hln c3 HK HHD hll3 hnm
      generalize (⟨(lnL (s.drop at_)).toArray⟩ : ByteArray) = lnv at *
      go_wp2_with fail
      refine (c2 _).mono ?_; rintro e w2 ⟨rfl, rfl⟩
      go_wp2_with fail
      go_step3
      rw [hw64]
      refine ⟨⟨at', _, _, _, _, _, _, _, _, _, _, _, _, _, _, _, _, _, _, _, _, _, _, _, _, _, _, _, _, _, _, _, _, _, _, _, _, _, _, _, _, _, _, _, _, _, _, _, _, _, rfl, Lib.hid ⟨F, ⟨hI1.out.ps, hI1.out.bel, hI1.out.nm, HLL.out, Nat.le_trans hI1.out.vl (by rw [HAT.out]; omega)⟩, by rw [HE.out, HAT.out, HL.out]; rfl⟩⟩, ?_⟩
      exact Nat.succ_pos (2 * (n - at_))
    · have HE := Lib.hid (hd_inr HK.out HHD.out hS)
      have hne : (⟨(curN F).toArray⟩ : ByteArray).toList.isEmpty = false := by
        rw [Lib.toList_data]
        show (curN F).isEmpty = false
        have : curN F ≠ [] := fun e => hF (hnm.1 e)
        simpa using this
      have HF := Lib.hid hF
      have hB' : ((lnL (s.drop at_)).head?.map blB == some true) = true := hB
      rw [hB'] at c3
      rw [← hln] at hA
      clear hS hln HHD hll3 hnm hB hB' hF
      generalize hlv : (⟨(lnL (s.drop at_)).toArray⟩ : ByteArray) = lnv at *
      have HLV := Lib.hid hlv
      generalize (⟨(curN F).toArray⟩ : ByteArray) = nmv at *
      clear hlv hw64 hatn
      go_wp2_with fail
      refine (c2 _).mono ?_; rintro e w2 ⟨rfl, rfl⟩
      go_wp2_with (go_at_call 21; refine (c3 _).mono ?_; rintro e w' ⟨rfl, rfl⟩)
      go_step3
      rw [← HLV.out]
      refine ⟨⟨at_, lnL (s.drop at_), _, _, _, _, _, _, _, _, _, _, _, _, _, _, _, _, _, _, _, _, _, _, _, _, _, _, _, _, _, _, _, _, _, _, _, _, _, _, _, _, _, _, _, _, _, _, _, rfl, Lib.hid ⟨HE.out.1, F, (lb (s.drop at_)).1, hI1.out, HF.out, ln_bound s at_, trimSuf_line _ 0 (Nat.zero_le _), Nat.add_le_add hI1.out.vl (lb_le _), HE.out.2⟩⟩, ?_⟩
      exact Nat.lt_succ_self (2 * (n - at_))
    · have HE := Lib.hid (hd_inl HK.out HHD.out hS)
      rw [← hln] at hA
      rw [h0] at c2
      cases hb : bgB (s.drop at_)
      · have hB' : ((lnL (s.drop at_)).head?.map blB == some true) = false := hb
        rw [hB'] at c3
        clear hS hln HHD hll3 hnm hB hB' hb h0
        generalize (⟨(lnL (s.drop at_)).toArray⟩ : ByteArray) = lnv at *
        clear hw64 hatn
        go_wp2_with fail
        refine (c2 _).mono ?_; rintro e w2 ⟨rfl, rfl⟩
        go_wp2_with (go_at_call 21; refine (c3 _).mono ?_; rintro e w' ⟨rfl, rfl⟩)
        go_step3
        refine ⟨⟨at_, _, _, _, _, _, _, _, _, _, _, _, _, _, _, _, _, _, _, _, _, _, _, _, _, _, _, _, _, _, _, _, _, _, _, _, _, _, _, _, _, _, _, _, _, _, _, _, _, _, rfl, Lib.hid ⟨F, hI1.out, by rw [HE.out]; rfl⟩⟩, ?_⟩
        exact Nat.succ_pos (2 * (n - at_))
      · have hB' : ((lnL (s.drop at_)).head?.map blB == some true) = true := hb
        rw [hB'] at c3
        have hF : F = [] := by
          rcases hB with e | e
          · rw [hb] at e; cases e
          · exact e
        have hcn : (⟨(curN F).toArray⟩ : ByteArray) = ⟨#[]⟩ := by rw [hF]; rfl
        rw [hcn] at q1
        clear hS hln HHD hll3 hnm hB hB' hb h0 hF hcn
        generalize (⟨(lnL (s.drop at_)).toArray⟩ : ByteArray) = lnv at *
        clear hw64 hatn
        go_wp2_with fail
        refine (c2 _).mono ?_; rintro e w2 ⟨rfl, rfl⟩
        go_wp2_with (go_at_call 21; refine (c3 _).mono ?_; rintro e w' ⟨rfl, rfl⟩)
        go_step3
        refine ⟨⟨at_, _, _, _, _, _, _, _, _, _, _, _, _, _, _, _, _, _, _, _, _, _, _, _, _, _, _, _, _, _, _, _, _, _, _, _, _, _, _, _, _, _, _, _, _, _, _, _, _, _, rfl, Lib.hid ⟨F, hI1.out, by rw [HE.out]; rfl⟩⟩, ?_⟩
        exact Nat.succ_pos (2 * (n - at_))
    · have HE := Lib.hid (hd_inr HK.out HHD.out hS)
      rw [← hln] at hA
      have hlb := lb_le (s.drop at_)
      have hlL := ln_bound s at_
      have HLT : Hid (nsz (lnL (s.drop at_)) + 1 ≤ (lb (s.drop at_)).1.length) := Lib.hid hlt
      have HNE : Hid ((lnL (s.drop at_)).take (nsz (lnL (s.drop at_))) ≠ []) := Lib.hid (by
        intro e
        have := congrArg List.length e
        rw [List.length_take, List.length_nil] at this
        omega)
      have hz1 : nsz (lnL (s.drop at_)) ≤ (⟨(lnL (s.drop at_)).toArray⟩ : ByteArray).size := by show _ ≤ (lnL (s.drop at_)).length; omega
      have hz3 : nsz (lnL (s.drop at_)) + 1 ≤ (⟨(lnL (s.drop at_)).toArray⟩ : ByteArray).size := by show _ ≤ (lnL (s.drop at_)).length; omega
      have hz2 : (⟨(lnL (s.drop at_)).toArray⟩ : ByteArray).size ≤ 9223372036854775807 := hll3
      have hz5 : nsz (lnL (s.drop at_)) ≤ 2147483648 := by omega
      have hx1 := str_take (lnL (s.drop at_)) (nsz (lnL (s.drop at_)))
      have hx2 := str_drop (lnL (s.drop at_)) (nsz (lnL (s.drop at_)) + 1)
      rw [show (lnL (s.drop at_)).length = (⟨(lnL (s.drop at_)).toArray⟩ : ByteArray).size from rfl] at hx2
      have hz6 : ((nsz (lnL (s.drop at_)) : Int) == 0) = false := by simpa using h0
      have hz7 : ¬ (nsz (lnL (s.drop at_)) : Int) = 0 := by omega
      clear hS HK HHD hll3 hnm h0 hlt hlb hlL hln hw64 hatn
      generalize hlv : (⟨(lnL (s.drop at_)).toArray⟩ : ByteArray) = lnv at *
      have HLV := Lib.hid hlv
      generalize nsz (lnL (s.drop at_)) = nn at *
      clear hlv
      cases hb : bgB (s.drop at_)
      · have hB' : ((lnL (s.drop at_)).head?.map blB == some true) = false := hb
        rw [hB'] at c3
        clear hB hB' hb
        have hz8 : (nn : Int) + 1 ≤ 2147483649 := by omega
        go_wp2_with fail
        refine (c2 _).mono ?_; rintro e w2 ⟨rfl, rfl⟩
        go_wp2_with (go_at_call 21; refine (c3 _).mono ?_; rintro e w' ⟨rfl, rfl⟩)
        have KP := keep_any w.heap.size (fin F.dropLast) (curN F) (curV F) (fin_len _).1 (Nat.le_trans hI1.out.vl (Nat.le_trans hI1.out.le (by rw [hn]; omega))) _ hI1.out.ps
        rw [keep_kp, kp_fin hI1.out.nm] at KP
        refine KP.mono ?_; rintro e w3 ⟨rfl, p3', b3'⟩
        have p3 := p3'.below ((Below.refl w3.heap.size w3).drew)
        have b3 := b3'.drew
        clear p3' b3'
        have HB3 := Lib.hid (hI1.out.bel.trans b3)
        obtain ⟨p4, b4⟩ := p3.name ((lnL (s.drop at_)).take nn)
        obtain ⟨p5, b5⟩ := p4.clear
        have HP5 := Lib.hid p5
        have HB5 := Lib.hid ((HB3.out.trans b4).trans b5)
        have r1 : w3.drew.heap[w.heap.size + 1]? = _ := p3.n
        obtain ⟨va, vc, r2, _⟩ := p4.v
        have g1 : w3.drew.cell? ⟨w.heap.size + 1, 0, none⟩ = some (.string ⟨(curN F).toArray⟩) := by rw [cell_of_row _ _ _ _ _ _ r1]; rfl
        have g2 : (w3.drew.setCell ⟨w.heap.size + 1, 0, none⟩ (.string ⟨((lnL (s.drop at_)).take nn).toArray⟩)).cell? ⟨w.heap.size + 2, 0, none⟩ = some (.slice va (curV F).length vc) := by rw [cell_of_row _ _ _ _ _ _ r2]; rfl
        have f1 := frozen_row (i := 0) r1
        have f2 := frozen_row (i := 0) r2
        clear p4 p5 b3 b4 b5 KP r1 r2 p3
        go_wp2_with fail
        refine wp_region_flowR Lat [0, 0, 0, 0, 0, 0, 0, 3, 3, 0] (by kernel_rfl) (by kernel_rfl) Lat.refl Lat.trans ?_
        refine fr0 rfl (fun _ => rfl) ?_
        simp only [Act.put, List.setIfInBounds_toArray, List.set_cons_succ, List.set_cons_zero]
        refine fr0 rfl (fun _ => rfl) ?_
        simp only [Act.put, List.setIfInBounds_toArray, List.set_cons_succ, List.set_cons_zero]
        refine fr0 rfl (run_slice_hi rfl rfl rfl hz1 hz2) ?_
        simp only [Act.put, List.setIfInBounds_toArray, List.set_cons_succ, List.set_cons_zero]
        refine fr0 rfl (fun _ => rfl) ?_
        simp only [Act.put, List.setIfInBounds_toArray, List.set_cons_succ, List.set_cons_zero]
        refine fr0 rfl (fun _ => rfl) ?_
        simp only [Act.put, List.setIfInBounds_toArray, List.set_cons_succ, List.set_cons_zero]
        refine fr0 rfl (run_addi rfl rfl hz5) ?_
        simp only [Act.put, List.setIfInBounds_toArray, List.set_cons_succ, List.set_cons_zero]
        refine fr0 rfl (run_slice_lo rfl rfl rfl hz3 hz2) ?_
        simp only [Act.put, List.setIfInBounds_toArray, List.set_cons_succ, List.set_cons_zero]
        rw [hx1, hx2]
        refine fr3 (u := undef) rfl (.inr (.inl ⟨run_store1 rfl rfl rfl g1 f1 rfl sizeS rfl, rfl⟩)) ?_
        simp only [Act.put]
        refine fr3 (u := undef) rfl (.inr (.inl ⟨run_store1 rfl rfl rfl g2 f2 rfl sizeBs rfl, rfl⟩)) ?_
        simp only [Act.put]
        refine fr0 (u := .string ⟨((lnL (s.drop at_)).drop (nn + 1)).toArray⟩) rfl (fun _ => rfl) ?_
        simp only [Act.put, List.setIfInBounds_toArray, List.set_cons_succ, List.set_cons_zero]
        refine frnil ?_
        go_wp2
        go_step3
        rename_i K hK
        refine hK _ _ ?_
        clear hK
        rw [← HLV.out]
        refine wp_at_label (PJ s b off n cap res w w.heap.size) (fun l a w => Pμ n l a) _ 2 ?_ ?_ ?_
        · refine ⟨at_, (lnL (s.drop at_)).drop (nn + 1), _, _, _, _, _, _, _, _, _, _, _, _, _, _, _, _, _, _, _, _, _, _, _, _, _, _, _, _, _, _, _, _, _, _, _, _, _, _, _, _, _, _, _, _, _, _, _, rfl, Lib.hid ⟨HE.out.1, F ++ [((lnL (s.drop at_)).take nn, [])], (lb (s.drop at_)).1.drop (nn + 1), ?_, by simp, ?_, trimSuf_line _ _ HLT.out, ?_, ?_⟩⟩
          · obtain ⟨d1, d2, d3⟩ := cur_snoc F ((lnL (s.drop at_)).take nn, [])
            refine ⟨by rw [d1, d2, d3]; exact HP5.out, HB5.out, ?_, hI1.out.le, by rw [d3]; exact Nat.zero_le _⟩
            intro f hf
            rcases List.mem_append.1 hf with hf | hf
            · exact hI1.out.nm f hf
            · simp at hf
              subst hf
              exact HNE.out
          · exact Nat.le_trans (by rw [List.length_drop]; omega) (ln_bound s at_)
          · rw [(cur_snoc F ((lnL (s.drop at_)).take nn, [])).2.2]
            have := lb_le (s.drop at_)
            rw [List.length_drop]
            simp only [List.length_nil]
            omega
          · rw [addl_snoc]
            exact HE.out.2
        · exact Nat.le_succ (2 * (n - at_))
        · rintro a2 w6 ⟨at2, tx, v1, v2, v3, v11, v12, v13, v14, v15, v16, v17, v18, v19, v20, v21, v22, v23, v24, v25, v26, v27, v28, v29, v30, v31, v32, v33, v34, v35, v36, v37, v38, v39, v40, v41, v42, v43, v44, v45, v46, v47, v48, v49, v50, v51, v52, v53, v54, rfl, HM2⟩
          obtain ⟨hne2, F2, v2, I2, hF2, htx, hts, hvl, k2, hk2, hhd2⟩ := HM2.out
          clear HM2
          have P6 := I2.ps.below ((Below.refl w6.heap.size w6).drew)
          obtain ⟨ra, rc, hrow, _⟩ := P6.v
          obtain ⟨va2, vc2, va3, vc3, w7, e1, e2, e3, e4, e5, e6⟩ := P6.more v2 (Nat.le_trans hvl (Nat.le_trans (at_bound I2.le) (by rw [hn]; exact Nat.le_trans hl (by decide)))) 22
          rw [cell_of_row _ _ _ _ _ _ hrow] at e1
          have e1' : Value.slice ra (curV F2).length rc = Value.slice va2 (curV F2).length vc2 := Option.some.inj e1
          injection e1' with e7 e8 e9
          subst e7 e9
          have cT := fun w => Tryd.strings_TrimSuffix ⟨tx.toArray⟩ ⟨#[13, 10]⟩ w (Nat.le_trans htx (by rw [hn]; exact Nat.le_trans hl (by decide)))
          have e10 : (⟨tx.toArray⟩ : ByteArray).data.toList = tx := rfl
          have e11 : (⟨#[13, 10]⟩ : ByteArray).data.toList = [13, 10] := rfl
          rw [e10, e11, hts] at cT
          have hne3 := lnL_pos _ hne2
          have hab := at_bound I2.le
          obtain ⟨at3, hat3⟩ : ∃ at3, at3 = at2 + (lnL (s.drop at2)).length := ⟨_, rfl⟩
          have hlz : (⟨(lnL (s.drop at2)).toArray⟩ : ByteArray).size = (lnL (s.drop at2)).length := rfl
          have hw64 : wrap64 ((at2 : Int) + ((⟨(lnL (s.drop at2)).toArray⟩ : ByteArray).size : Int)) = (at3 : Int) := by
            rw [hlz, hat3, ← Int.natCast_add]; exact wrap_small (Nat.le_trans hab (by rw [hn]; exact Nat.le_trans hl (by decide)))
          have HS3 : Hid (PNext s b off res w (w7.setCell ⟨w.heap.size + 2, 0, none⟩ (.slice va3 ((curV F2).length + v2.length) vc3)) at3) := by
            obtain ⟨d1, d2, d3, d4⟩ := cur_addl hF2 v2
            refine Lib.hid ⟨addl F2 v2, ⟨by rw [d1, d2, d3]; exact e5, I2.bel.drew.trans e6, nm_addl I2.nm _, by rw [hat3]; exact hab, ?_⟩, k2, ?_, ?_⟩
            · rw [d3, hat3, List.length_append]; exact hvl
            · rw [hat3, ← List.drop_drop]; exact hk2
            · rw [hat3, ← List.drop_drop]; exact hhd2
          have HMU : Hid (2 * (n - at3) + 1 < 2 * (n - at2)) := Lib.hid (by rw [hat3]; exact mu_less (by rw [← hn]; exact hab) hne3)
          clear e1 e5 e6 I2 P6 hvl hk2 hhd2 hts htx hne2 hne3 hab hF2 e10 e11 hlz hat3
          generalize (⟨(lnL (s.drop at2)).toArray⟩ : ByteArray) = lnv2 at *
          go_wp2
          refine wp_region_flowR Lat [1, 0, 1, 3, 3] (by kernel_rfl) (by kernel_rfl) Lat.refl Lat.trans ?_
          refine fr1 rfl (fun x hx => run_load1 rfl rfl (by rw [cell_of_row _ _ _ _ _ _ (hx.at hrow)]; rfl) isAggBs) ?_
          simp only [Act.put, List.setIfInBounds_toArray, List.set_cons_succ, List.set_cons_zero]
          refine fr0 rfl (fun _ => rfl) ?_
          simp only [Act.put, List.setIfInBounds_toArray, List.set_cons_succ, List.set_cons_zero]
          refine fr1c (u := .string ⟨v2.toArray⟩) rfl (fun x hx => .inr (.inr ⟨_, _, run_enter2 Tryd.call22 rfl rfl rfl, (cT x).mono (by rintro e w' ⟨rfl, rfl⟩; exact ⟨rfl, rfl⟩)⟩)) ?_
          simp only [Act.put, List.setIfInBounds_toArray, List.set_cons_succ, List.set_cons_zero]
          refine fr3 rfl (.inl (run_builtin_append rfl rfl rfl e2)) ?_
          simp only [Act.put, List.setIfInBounds_toArray, List.set_cons_succ, List.set_cons_zero]
          refine fr3 (u := undef) rfl (.inr (.inl ⟨run_store1 rfl rfl rfl e3 e4 rfl sizeBs rfl, rfl⟩)) ?_
          simp only [Act.put]
          refine frnil ?_
          go_wp2
          go_step3
          rw [hw64]
          exact ⟨⟨at3, _, _, _, _, _, _, _, _, _, _, _, _, _, _, _, _, _, _, _, _, _, _, _, _, _, _, _, _, _, _, _, _, _, _, _, _, _, _, _, _, _, _, _, _, _, _, _, _, _, rfl, HS3⟩, HMU.out⟩
      · have hB' : ((lnL (s.drop at_)).head?.map blB == some true) = true := hb
        rw [hB'] at c3
        have hF : F = [] := by
          rcases hB with e | e
          · rw [hb] at e; cases e
          · exact e
        have hcn : (⟨(curN F).toArray⟩ : ByteArray) = ⟨#[]⟩ := by rw [hF]; rfl
        rw [hcn] at q1
        clear hB hB' hb hF hcn
        have hz8 : (nn : Int) + 1 ≤ 2147483649 := by omega
        go_wp2_with fail
        refine (c2 _).mono ?_; rintro e w2 ⟨rfl, rfl⟩
        go_wp2_with (go_at_call 21; refine (c3 _).mono ?_; rintro e w' ⟨rfl, rfl⟩)
        have KP := keep_any w.heap.size (fin F.dropLast) (curN F) (curV F) (fin_len _).1 (Nat.le_trans hI1.out.vl (Nat.le_trans hI1.out.le (by rw [hn]; omega))) _ hI1.out.ps
        rw [keep_kp, kp_fin hI1.out.nm] at KP
        refine KP.mono ?_; rintro e w3 ⟨rfl, p3', b3'⟩
        have p3 := p3'.below ((Below.refl w3.heap.size w3).drew)
        have b3 := b3'.drew
        clear p3' b3'
        have HB3 := Lib.hid (hI1.out.bel.trans b3)
        obtain ⟨p4, b4⟩ := p3.name ((lnL (s.drop at_)).take nn)
        obtain ⟨p5, b5⟩ := p4.clear
        have HP5 := Lib.hid p5
        have HB5 := Lib.hid ((HB3.out.trans b4).trans b5)
        have r1 : w3.drew.heap[w.heap.size + 1]? = _ := p3.n
        obtain ⟨va, vc, r2, _⟩ := p4.v
        have g1 : w3.drew.cell? ⟨w.heap.size + 1, 0, none⟩ = some (.string ⟨(curN F).toArray⟩) := by rw [cell_of_row _ _ _ _ _ _ r1]; rfl
        have g2 : (w3.drew.setCell ⟨w.heap.size + 1, 0, none⟩ (.string ⟨((lnL (s.drop at_)).take nn).toArray⟩)).cell? ⟨w.heap.size + 2, 0, none⟩ = some (.slice va (curV F).length vc) := by rw [cell_of_row _ _ _ _ _ _ r2]; rfl
        have f1 := frozen_row (i := 0) r1
        have f2 := frozen_row (i := 0) r2
        clear p4 p5 b3 b4 b5 KP r1 r2 p3
        go_wp2_with fail
        refine wp_region_flowR Lat [0, 0, 0, 0, 0, 0, 0, 3, 3, 0] (by kernel_rfl) (by kernel_rfl) Lat.refl Lat.trans ?_
        refine fr0 rfl (fun _ => rfl) ?_
        simp only [Act.put, List.setIfInBounds_toArray, List.set_cons_succ, List.set_cons_zero]
        refine fr0 rfl (fun _ => rfl) ?_
        simp only [Act.put, List.setIfInBounds_toArray, List.set_cons_succ, List.set_cons_zero]
        refine fr0 rfl (run_slice_hi rfl rfl rfl hz1 hz2) ?_
        simp only [Act.put, List.setIfInBounds_toArray, List.set_cons_succ, List.set_cons_zero]
        refine fr0 rfl (fun _ => rfl) ?_
        simp only [Act.put, List.setIfInBounds_toArray, List.set_cons_succ, List.set_cons_zero]
        refine fr0 rfl (fun _ => rfl) ?_
        simp only [Act.put, List.setIfInBounds_toArray, List.set_cons_succ, List.set_cons_zero]
        refine fr0 rfl (run_addi rfl rfl hz5) ?_
        simp only [Act.put, List.setIfInBounds_toArray, List.set_cons_succ, List.set_cons_zero]
        refine fr0 rfl (run_slice_lo rfl rfl rfl hz3 hz2) ?_
        simp only [Act.put, List.setIfInBounds_toArray, List.set_cons_succ, List.set_cons_zero]
        rw [hx1, hx2]
        refine fr3 (u := undef) rfl (.inr (.inl ⟨run_store1 rfl rfl rfl g1 f1 rfl sizeS rfl, rfl⟩)) ?_
        simp only [Act.put]
        refine fr3 (u := undef) rfl (.inr (.inl ⟨run_store1 rfl rfl rfl g2 f2 rfl sizeBs rfl, rfl⟩)) ?_
        simp only [Act.put]
        refine fr0 (u := .string ⟨((lnL (s.drop at_)).drop (nn + 1)).toArray⟩) rfl (fun _ => rfl) ?_
        simp only [Act.put, List.setIfInBounds_toArray, List.set_cons_succ, List.set_cons_zero]
        refine frnil ?_
        go_wp2
        go_step3
        rename_i K hK
        refine hK _ _ ?_
        clear hK
        rw [← HLV.out]
        refine wp_at_label (PJ s b off n cap res w w.heap.size) (fun l a w => Pμ n l a) _ 2 ?_ ?_ ?_
        · refine ⟨at_, (lnL (s.drop at_)).drop (nn + 1), _, _, _, _, _, _, _, _, _, _, _, _, _, _, _, _, _, _, _, _, _, _, _, _, _, _, _, _, _, _, _, _, _, _, _, _, _, _, _, _, _, _, _, _, _, _, _, rfl, Lib.hid ⟨HE.out.1, F ++ [((lnL (s.drop at_)).take nn, [])], (lb (s.drop at_)).1.drop (nn + 1), ?_, by simp, ?_, trimSuf_line _ _ HLT.out, ?_, ?_⟩⟩
          · obtain ⟨d1, d2, d3⟩ := cur_snoc F ((lnL (s.drop at_)).take nn, [])
            refine ⟨by rw [d1, d2, d3]; exact HP5.out, HB5.out, ?_, hI1.out.le, by rw [d3]; exact Nat.zero_le _⟩
            intro f hf
            rcases List.mem_append.1 hf with hf | hf
            · exact hI1.out.nm f hf
            · simp at hf
              subst hf
              exact HNE.out
          · exact Nat.le_trans (by rw [List.length_drop]; omega) (ln_bound s at_)
          · rw [(cur_snoc F ((lnL (s.drop at_)).take nn, [])).2.2]
            have := lb_le (s.drop at_)
            rw [List.length_drop]
            simp only [List.length_nil]
            omega
          · rw [addl_snoc]
            exact HE.out.2
        · exact Nat.le_succ (2 * (n - at_))
        · rintro a2 w6 ⟨at2, tx, v1, v2, v3, v11, v12, v13, v14, v15, v16, v17, v18, v19, v20, v21, v22, v23, v24, v25, v26, v27, v28, v29, v30, v31, v32, v33, v34, v35, v36, v37, v38, v39, v40, v41, v42, v43, v44, v45, v46, v47, v48, v49, v50, v51, v52, v53, v54, rfl, HM2⟩
          obtain ⟨hne2, F2, v2, I2, hF2, htx, hts, hvl, k2, hk2, hhd2⟩ := HM2.out
          clear HM2
          have P6 := I2.ps.below ((Below.refl w6.heap.size w6).drew)
          obtain ⟨ra, rc, hrow, _⟩ := P6.v
          obtain ⟨va2, vc2, va3, vc3, w7, e1, e2, e3, e4, e5, e6⟩ := P6.more v2 (Nat.le_trans hvl (Nat.le_trans (at_bound I2.le) (by rw [hn]; exact Nat.le_trans hl (by decide)))) 22
          rw [cell_of_row _ _ _ _ _ _ hrow] at e1
          have e1' : Value.slice ra (curV F2).length rc = Value.slice va2 (curV F2).length vc2 := Option.some.inj e1
          injection e1' with e7 e8 e9
          subst e7 e9
          have cT := fun w => Tryd.strings_TrimSuffix ⟨tx.toArray⟩ ⟨#[13, 10]⟩ w (Nat.le_trans htx (by rw [hn]; exact Nat.le_trans hl (by decide)))
          have e10 : (⟨tx.toArray⟩ : ByteArray).data.toList = tx := rfl
          have e11 : (⟨#[13, 10]⟩ : ByteArray).data.toList = [13, 10] := rfl
          rw [e10, e11, hts] at cT
          have hne3 := lnL_pos _ hne2
          have hab := at_bound I2.le
          obtain ⟨at3, hat3⟩ : ∃ at3, at3 = at2 + (lnL (s.drop at2)).length := ⟨_, rfl⟩
          have hlz : (⟨(lnL (s.drop at2)).toArray⟩ : ByteArray).size = (lnL (s.drop at2)).length := rfl
          have hw64 : wrap64 ((at2 : Int) + ((⟨(lnL (s.drop at2)).toArray⟩ : ByteArray).size : Int)) = (at3 : Int) := by
            rw [hlz, hat3, ← Int.natCast_add]; exact wrap_small (Nat.le_trans hab (by rw [hn]; exact Nat.le_trans hl (by decide)))
          have HS3 : Hid (PNext s b off res w (w7.setCell ⟨w.heap.size + 2, 0, none⟩ (.slice va3 ((curV F2).length + v2.length) vc3)) at3) := by
            obtain ⟨d1, d2, d3, d4⟩ := cur_addl hF2 v2
            refine Lib.hid ⟨addl F2 v2, ⟨by rw [d1, d2, d3]; exact e5, I2.bel.drew.trans e6, nm_addl I2.nm _, by rw [hat3]; exact hab, ?_⟩, k2, ?_, ?_⟩
            · rw [d3, hat3, List.length_append]; exact hvl
            · rw [hat3, ← List.drop_drop]; exact hk2
            · rw [hat3, ← List.drop_drop]; exact hhd2
          have HMU : Hid (2 * (n - at3) + 1 < 2 * (n - at2)) := Lib.hid (by rw [hat3]; exact mu_less (by rw [← hn]; exact hab) hne3)
          clear e1 e5 e6 I2 P6 hvl hk2 hhd2 hts htx hne2 hne3 hab hF2 e10 e11 hlz hat3
          generalize (⟨(lnL (s.drop at2)).toArray⟩ : ByteArray) = lnv2 at *
          go_wp2
          refine wp_region_flowR Lat [1, 0, 1, 3, 3] (by kernel_rfl) (by kernel_rfl) Lat.refl Lat.trans ?_
          refine fr1 rfl (fun x hx => run_load1 rfl rfl (by rw [cell_of_row _ _ _ _ _ _ (hx.at hrow)]; rfl) isAggBs) ?_
          simp only [Act.put, List.setIfInBounds_toArray, List.set_cons_succ, List.set_cons_zero]
          refine fr0 rfl (fun _ => rfl) ?_
          simp only [Act.put, List.setIfInBounds_toArray, List.set_cons_succ, List.set_cons_zero]
          refine fr1c (u := .string ⟨v2.toArray⟩) rfl (fun x hx => .inr (.inr ⟨_, _, run_enter2 Tryd.call22 rfl rfl rfl, (cT x).mono (by rintro e w' ⟨rfl, rfl⟩; exact ⟨rfl, rfl⟩)⟩)) ?_
          simp only [Act.put, List.setIfInBounds_toArray, List.set_cons_succ, List.set_cons_zero]
          refine fr3 rfl (.inl (run_builtin_append rfl rfl rfl e2)) ?_
          simp only [Act.put, List.setIfInBounds_toArray, List.set_cons_succ, List.set_cons_zero]
          refine fr3 (u := undef) rfl (.inr (.inl ⟨run_store1 rfl rfl rfl e3 e4 rfl sizeBs rfl, rfl⟩)) ?_
          simp only [Act.put]
          refine frnil ?_
          go_wp2
          go_step3
          rw [hw64]
          exact ⟨⟨at3, _, _, _, _, _, _, _, _, _, _, _, _, _, _, _, _, _, _, _, _, _, _, _, _, _, _, _, _, _, _, _, _, _, _, _, _, _, _, _, _, _, _, _, _, _, _, _, _, _, rfl, HS3⟩, HMU.out⟩
  case more2 =>
    rintro a2 w6 ⟨at2, tx, v1, v2, v3, v11, v12, v13, v14, v15, v16, v17, v18, v19, v20, v21, v22, v23, v24, v25, v26, v27, v28, v29, v30, v31, v32, v33, v34, v35, v36, v37, v38, v39, v40, v41, v42, v43, v44, v45, v46, v47, v48, v49, v50, v51, v52, v53, v54, rfl, HM2⟩
    obtain ⟨hne2, F2, v2, I2, hF2, htx, hts, hvl, k2, hk2, hhd2⟩ := HM2.out
    clear HM2
    have P6 := I2.ps.below ((Below.refl w6.heap.size w6).drew)
    obtain ⟨ra, rc, hrow, _⟩ := P6.v
    obtain ⟨va2, vc2, va3, vc3, w7, e1, e2, e3, e4, e5, e6⟩ := P6.more v2 (Nat.le_trans hvl (Nat.le_trans (at_bound I2.le) (by rw [hn]; exact Nat.le_trans hl (by decide)))) 22
    rw [cell_of_row _ _ _ _ _ _ hrow] at e1
    have e1' : Value.slice ra (curV F2).length rc = Value.slice va2 (curV F2).length vc2 := Option.some.inj e1
    injection e1' with e7 e8 e9
    subst e7 e9
    have cT := fun w => Tryd.strings_TrimSuffix ⟨tx.toArray⟩ ⟨#[13, 10]⟩ w (Nat.le_trans htx (by rw [hn]; exact Nat.le_trans hl (by decide)))
    have e10 : (⟨tx.toArray⟩ : ByteArray).data.toList = tx := rfl
    have e11 : (⟨#[13, 10]⟩ : ByteArray).data.toList = [13, 10] := rfl
    rw [e10, e11, hts] at cT
    have hne3 := lnL_pos _ hne2
    have hab := at_bound I2.le
    obtain ⟨at3, hat3⟩ : ∃ at3, at3 = at2 + (lnL (s.drop at2)).length := ⟨_, rfl⟩
    have hlz : (⟨(lnL (s.drop at2)).toArray⟩ : ByteArray).size = (lnL (s.drop at2)).length := rfl
    have hw64 : wrap64 ((at2 : Int) + ((⟨(lnL (s.drop at2)).toArray⟩ : ByteArray).size : Int)) = (at3 : Int) := by
      rw [hlz, hat3, ← Int.natCast_add]; exact wrap_small (Nat.le_trans hab (by rw [hn]; exact Nat.le_trans hl (by decide)))
    have HS3 : Hid (PNext s b off res w (w7.setCell ⟨w.heap.size + 2, 0, none⟩ (.slice va3 ((curV F2).length + v2.length) vc3)) at3) := by
      obtain ⟨d1, d2, d3, d4⟩ := cur_addl hF2 v2
      refine Lib.hid ⟨addl F2 v2, ⟨by rw [d1, d2, d3]; exact e5, I2.bel.drew.trans e6, nm_addl I2.nm _, by rw [hat3]; exact hab, ?_⟩, k2, ?_, ?_⟩
      · rw [d3, hat3, List.length_append]; exact hvl
      · rw [hat3, ← List.drop_drop]; exact hk2
      · rw [hat3, ← List.drop_drop]; exact hhd2
    have HMU : Hid (2 * (n - at3) + 1 < 2 * (n - at2)) := Lib.hid (by rw [hat3]; exact mu_less (by rw [← hn]; exact hab) hne3)
    clear e1 e5 e6 I2 P6 hvl hk2 hhd2 hts htx hne2 hne3 hab hF2 e10 e11 hlz hat3
    generalize (⟨(lnL (s.drop at2)).toArray⟩ : ByteArray) = lnv2 at *
    go_wp2
    refine wp_region_flowR Lat [1, 0, 1, 3, 3] (by kernel_rfl) (by kernel_rfl) Lat.refl Lat.trans ?_
    refine fr1 rfl (fun x hx => run_load1 rfl rfl (by rw [cell_of_row _ _ _ _ _ _ (hx.at hrow)]; rfl) isAggBs) ?_
    simp only [Act.put, List.setIfInBounds_toArray, List.set_cons_succ, List.set_cons_zero]
    refine fr0 rfl (fun _ => rfl) ?_
    simp only [Act.put, List.setIfInBounds_toArray, List.set_cons_succ, List.set_cons_zero]
    refine fr1c (u := .string ⟨v2.toArray⟩) rfl (fun x hx => .inr (.inr ⟨_, _, run_enter2 Tryd.call22 rfl rfl rfl, (cT x).mono (by rintro e w' ⟨rfl, rfl⟩; exact ⟨rfl, rfl⟩)⟩)) ?_
    simp only [Act.put, List.setIfInBounds_toArray, List.set_cons_succ, List.set_cons_zero]
    refine fr3 rfl (.inl (run_builtin_append rfl rfl rfl e2)) ?_
    simp only [Act.put, List.setIfInBounds_toArray, List.set_cons_succ, List.set_cons_zero]
    refine fr3 (u := undef) rfl (.inr (.inl ⟨run_store1 rfl rfl rfl e3 e4 rfl sizeBs rfl, rfl⟩)) ?_
    simp only [Act.put]
    refine frnil ?_
    go_wp2
    go_step3
    rw [hw64]
    exact ⟨⟨at3, _, _, _, _, _, _, _, _, _, _, _, _, _, _, _, _, _, _, _, _, _, _, _, _, _, _, _, _, _, _, _, _, _, _, _, _, _, _, _, _, _, _, _, _, _, _, _, _, _, rfl, HS3⟩, HMU.out⟩
  case body =>
    rintro a wr ⟨at_, u1, u2, u3, u8, u9, u11, u12, u13, u14, u15, u16, u17, u18, u19, u20, u21, u22, u23, u24, u25, u26, u27, u28, u29, u30, u31, u32, u33, u34, u35, u36, u37, u38, u39, u40, u41, u42, u43, u44, u45, u46, u47, u48, u49, u50, u51, u52, u53, u54, rfl, HB1⟩
    obtain ⟨F, I, hr⟩ := HB1.out
    clear HN HB1
    have KP := keep_any w.heap.size (fin F.dropLast) (curN F) (curV F) (fin_len _).1 (Nat.le_trans I.vl (Nat.le_trans I.le (by rw [hn]; exact Nat.le_trans hl (by decide)))) _ I.ps
    rw [keep_kp, kp_fin I.nm] at KP
    have HI := Lib.hid I.bel
    have HE := Lib.hid hr
    clear I hr
    go_wp2_with fail
    refine KP.mono ?_; rintro e w3 ⟨rfl, p3, b3⟩
    obtain ⟨ra, rc, r1, own⟩ := p3.l
    have q1 : w3.cell? ⟨w.heap.size, 0, none⟩ = some (.slice ra (fin F).length rc) := by rw [cell_of_row _ _ _ _ _ _ r1]; rfl
    have HF := Lib.hid (OX.fs ⟨own, p3.size⟩)
    have HB := Lib.hid (HI.out.trans b3)
    clear KP p3 b3 own r1 HI
    go_wp2_with fail
    simp only [jumpsTo]
    go_ret2
    rw [HE.out]
    exact ⟨⟨_, rfl, HF.out⟩, HB.out⟩
end Go.Proofs.YtjblfemkecmlmaaDoor
