/- The state of a small disk under writes, barriers and boots; small laws of operations. -/
import Derived.Test.YtabddepidhfelaaDo
set_option linter.unusedSimpArgs false
namespace Go.Proofs.Ytabddepidhfelaa
open Go.RowKit

/-- A disk of eight sectors with the power on and without a fuse, behind at most k steps. -/
structure WInv (S : St) (f : Nat → Int) (k : Nat) : Prop where
  on : S.on = true
  fuse : S.fuse = -1
  n : S.n = 8
  steps : S.steps ≤ k
  pend : S.pend.length ≤ k
  now : ∀ j : Nat, j < 8 → (S.now j).getD Z = fullA (f j)

theorem WInv.start : WInv (St.new 8) (fun _ => 0) 0 := ⟨rfl, rfl, rfl, by simp [St.new], by simp [St.new], fun j _ => by simp only [St.new, Option.getD_none]; rfl⟩

theorem WInv.reach {S : St} {f : Nat → Int} {k : Nat} (h : WInv S f k) (i : Nat) (hi : i < 8) : S.reach i = 0 := by simp only [St.reach, h.on, h.n]; simp; omega

theorem WInv.write {S : St} {f : Nat → Int} {k : Nat} (h : WInv S f k) (i : Nat) (c : Int) : WInv (S.write i (fullA c)) (fun j => if j = i then c else f j) (k + 1) := by
  refine ⟨h.on, ?_, h.n, ?_, ?_, fun j hj => ?_⟩
  · simp [St.write, St.written, St.kept, St.stepped, h.fuse]
  · have := h.steps; simp only [St.write, St.written, St.kept, St.stepped]; omega
  · have := h.pend; simp only [St.write, St.written, St.kept, St.stepped, List.length_append, List.length_cons, List.length_nil]; omega
  · simp only [St.write, St.written, St.kept, St.stepped, updF]
    by_cases hji : j = i
    · subst hji; simp
    · have : ¬ ((j : Int) = (i : Int)) := by omega
      rw [if_neg this, if_neg hji]
      exact h.now j hj

/-- A write changes nothing of what is sure. -/
theorem write_base (S : St) (i : Int) (v : Array Value) (j : Int) : ((S.write i v).base j).getD Z = (S.base j).getD Z := by
  have e1 : (S.write i v).sure = if (S.sure i).isSome then S.sure else updF S.sure i ((S.now i).getD Z) := rfl
  have e2 : (S.write i v).now = updF S.now i v := rfl
  unfold St.base
  rw [e1, e2]
  by_cases hsome : (S.sure i).isSome = true
  · obtain ⟨u, hu⟩ := Option.isSome_iff_exists.1 hsome
    rw [if_pos hsome]
    by_cases hji : j = i
    · rw [hji, hu]; rfl
    · simp [updF, hji]
  · have hn : S.sure i = none := by simpa using hsome
    rw [if_neg hsome]
    by_cases hji : j = i
    · rw [hji, hn]; simp [updF]
    · simp [updF, hji]

/-- Behind a barrier, and m writes more. -/
structure BInv (S : St) (f : Nat → Int) (q : Nat → Nat) (z : Nat → Int) (m : Nat) : Prop where
  on : S.on = true
  fuse : S.fuse = -1
  n : S.n = 8
  steps : S.steps ≤ 100 + m
  len : S.pend.length = m
  pend : ∀ i, i < m → S.pend[i]? = some ((q i : Int), fullA (z i))
  base : ∀ j : Nat, j < 8 → (S.base j).getD Z = fullA (f j)

theorem BInv.start {S : St} {f : Nat → Int} {k : Nat} (h : WInv S f k) (hk : k ≤ 60) (q : Nat → Nat) (z : Nat → Int) : BInv S.stepped.settled f q z 0 := by
  refine ⟨h.on, ?_, h.n, ?_, rfl, fun i hi => by omega, fun j hj => ?_⟩
  · simp [St.settled, St.stepped, h.fuse]
  · have := h.steps; simp only [St.settled, St.stepped]; omega
  · simp only [St.base, St.settled, St.stepped, Option.none_or]; exact h.now j hj

theorem BInv.reach {S : St} {f : Nat → Int} {q : Nat → Nat} {z : Nat → Int} {m : Nat} (h : BInv S f q z m) (i : Nat) (hi : i < 8) : S.reach i = 0 := by simp only [St.reach, h.on, h.n]; simp; omega

theorem BInv.write {S : St} {f : Nat → Int} {q : Nat → Nat} {z : Nat → Int} {m : Nat} (h : BInv S f q z m) : BInv (S.write (q m) (fullA (z m))) f q z (m + 1) := by
  refine ⟨h.on, ?_, h.n, ?_, ?_, fun i hi => ?_, fun j hj => ?_⟩
  · simp [St.write, St.written, St.kept, St.stepped, h.fuse]
  · have := h.steps; simp only [St.write, St.written, St.kept, St.stepped]; omega
  · simp [St.write, St.written, St.kept, St.stepped, h.len]
  · simp only [St.write, St.written, St.kept, St.stepped]
    by_cases him : i < m
    · rw [List.getElem?_append_left (by rw [h.len]; exact him)]; exact h.pend i him
    · have : i = m := by omega
      subst this
      rw [List.getElem?_append_right (by rw [h.len]; omega), h.len]
      simp
  · rw [← h.base j hj]
    exact write_base S (q m) (fullA (z m)) j

theorem bootF_cases (base : Int → Option (Array Value)) (keep : List Int) (pend : List (Int × Array Value)) (k : Int) : ∀ m, bootF base keep pend m k = base k ∨ ∃ i, i < m ∧ ∃ p, pend[i]? = some p ∧ p.1 = k ∧ bootF base keep pend m k = some p.2
  | 0 => .inl rfl
  | m + 1 => by
    have ih := bootF_cases base keep pend k m
    have up : bootF base keep pend (m + 1) k = bootF base keep pend m k → bootF base keep pend (m + 1) k = base k ∨ ∃ i, i < m + 1 ∧ ∃ p, pend[i]? = some p ∧ p.1 = k ∧ bootF base keep pend (m + 1) k = some p.2 := by
      intro e
      rw [e]
      rcases ih with h | ⟨i, hi, p, hp⟩
      · exact .inl h
      · exact .inr ⟨i, by omega, p, hp⟩
    cases hp : pend[m]? with
    | none => exact up (by rw [bootF_none hp])
    | some p =>
      by_cases hs : surv keep m = true
      · by_cases hk : k = p.1
        · exact .inr ⟨m, by omega, p, hp, hk.symm, by rw [bootF_some hp, if_pos hs]; simp [updF, hk]⟩
        · exact up (by rw [bootF_some hp, if_pos hs]; simp [updF, hk])
      · exact up (by rw [bootF_some hp, if_neg hs])

/-- Behind the boot each sector has the old byte, or one of the new. -/
theorem BInv.booted {S : St} {f : Nat → Int} {q : Nat → Nat} {z : Nat → Int} {m : Nat} (h : BInv S f q z m) (keep : List Int) (j : Nat) (hj : j < 8) :
    ∃ c, ((S.booted keep).now j).getD Z = fullA c ∧ (c = f j ∨ ∃ i, i < m ∧ q i = j ∧ c = z i) := by
  simp only [St.booted]
  rcases bootF_cases S.base keep S.pend j S.pend.length with e | ⟨i, hi, p, hp, hpj, e⟩
  · exact ⟨f j, by rw [e]; exact h.base j hj, .inl rfl⟩
  · have hi' : i < m := by rw [← h.len]; exact hi
    rw [h.pend i hi'] at hp
    cases hp
    refine ⟨z i, by rw [e]; rfl, .inr ⟨i, hi', ?_, rfl⟩⟩
    simp only at hpj
    omega

section
variable {o : Oper} {a : Act}
theorem run_eql_str {x y : Operand} {s s' : ByteArray} {t : TypeId} (ho : o.op = .binOp .eql 9 x y t) (hx : a.eval x = .string s) (hy : a.eval y = .string s') : ∀ w, (execOp a.eval o).run Try.prog w = .ok (.value (.bool (s.toList == s'.toList))) w := by
  intro w
  unfold execOp
  simp only [ho, hx, hy]
  go_simp
theorem run_index47 {x y : Operand} {g j : Nat} (hj : j < 8) (ho : o.op = .indexAddr 47 x y) (hx : a.eval x = .pointer (some ⟨g, 0, none⟩)) (hy : a.eval y = .int .i64 j) : ∀ w, (execOp a.eval o).run Try.prog w = .ok (.value (.pointer (some ⟨g, j, none⟩))) w := by
  intro w
  have h1 : (0 : Int) ≤ (j : Int) := by omega
  have h2 : (j : Int) < 8 := by omega
  unfold execOp
  simp only [ho, hx, hy]
  go_simp
theorem run_index37o {x y : Operand} {g o1 j n cap : Nat} (hj : j < n) (ho : o.op = .indexAddr 37 x y) (hx : a.eval x = .slice (some ⟨g, o1, none⟩) n cap) (hy : a.eval y = .int .i64 j) : ∀ w, (execOp a.eval o).run Try.prog w = .ok (.value (.pointer (some ⟨g, o1 + j, none⟩))) w := by
  intro w
  unfold execOp
  simp only [ho, hx, hy]
  go_simp
end

section
variable {o : Oper} {a : Act}
theorem run_mul3 {y : Operand} {i : Nat} {t : TypeId} (hi : i < 1000) (ho : o.op = .binOp .mul 3 (.const (.int .i64 3)) y t) (hy : a.eval y = .int .i64 i) (_ht : t = t) : ∀ w, (execOp a.eval o).run Try.prog w = .ok (.value (.int .i64 (3 * i))) w := by
  intro w
  have hc : a.eval (.const (.int .i64 3)) = .int .i64 3 := rfl
  unfold execOp
  simp only [ho, hy, hc]
  go_simp
  exact IntWalk.i64_in _ (by omega)
theorem run_rem8 {x : Operand} {i j : Nat} {t : TypeId} (hi : i < 1000) (ho : o.op = .binOp .rem 3 x (.const (.int .i64 8)) t) (hx : a.eval x = .int .i64 (3 * (i : Int))) (_ht : t = t) (hj : 3 * i % 8 = j) : ∀ w, (execOp a.eval o).run Try.prog w = .ok (.value (.int .i64 j)) w := by
  intro w
  have hc : a.eval (.const (.int .i64 8)) = .int .i64 8 := rfl
  have he : (3 * (i : Int)) % 8 = (j : Int) := by omega
  unfold execOp
  simp only [ho, hx, hc]
  go_simp
  rw [Int.tmod_eq_emod_of_nonneg (by omega)]
  exact he
theorem run_eqi {x y : Operand} {i j : Int} {t : TypeId} {r : Bool} (ho : o.op = .binOp .eql 3 x y t) (hx : a.eval x = .int .i64 i) (hy : a.eval y = .int .i64 j) (hr : (i == j) = r) : ∀ w, (execOp a.eval o).run Try.prog w = .ok (.value (.bool r)) w := by
  intro w
  unfold execOp
  simp only [ho, hx, hy]
  subst hr
  go_simp
end

end Go.Proofs.Ytabddepidhfelaa
