/- What group does. -/
import Derived.Test.YtoccnaebckcfmaaW17
set_option linter.unusedSimpArgs false
set_option linter.unusedVariables false
set_option maxRecDepth 8000
namespace Go.Proofs.Ytoccnaebckcfmaa
open Go.RowKit

section
variable {o : Oper} {a : Act} {w : World}
theorem run_index32 {x y : Operand} {g off j n cap : Nat} (hj : j < n) (ho : o.op = .indexAddr 79 x y) (hx : a.eval x = .slice (some ⟨g, off, none⟩) n cap) (hy : a.eval y = .int .i64 j) : ∀ w, (execOp a.eval o).run Try.prog w = .ok (.value (.pointer (some ⟨g, off + j * 2, none⟩))) w := by
  intro w
  unfold execOp
  simp only [ho, hx, hy]
  go_simp
theorem run_field54m {x : Operand} {b off : Nat} (ho : o.op = .fieldAddr 112 x 0) (hx : a.eval x = .pointer (some ⟨b, off, none⟩)) :
    ∀ w, (execOp a.eval o).run Try.prog w = .ok (.value (.pointer (some ⟨b, off, none⟩))) w := by
  intro w
  unfold execOp
  simp only [ho, hx]
  go_simp
end

theorem nodup_more {l : List Int} {x : Int} (h : l.Nodup) (hx : ∀ y ∈ l, y ≠ x) : (l ++ [x]).Nodup := by
  rw [List.nodup_append]
  exact ⟨h, by simp, fun a ha b hb => by simp at hb; subst hb; exact hx a ha⟩
theorem not_twice {rs : List (Int × Nat)} {i k : Nat} {q r : Int × Nat} (h : (rs.map (·.1)).Nodup) (hik : i < k) (hq : rs[i]? = some q) (hr : rs[k]? = some r) (e : q.1 = r.1) : False := by
  have h1 : (rs.map (·.1))[i]? = some q.1 := by rw [List.getElem?_map, hq]; rfl
  have h2 : (rs.map (·.1))[k]? = some r.1 := by rw [List.getElem?_map, hr]; rfl
  obtain ⟨a1, a2⟩ := List.getElem?_eq_some_iff.1 h1
  obtain ⟨b1, b2⟩ := List.getElem?_eq_some_iff.1 h2
  exact List.pairwise_iff_getElem.1 h i k a1 b1 hik (a2.trans (e.trans b2.symm))

theorem RawsAt.only {w w' : World} {lv : Value} {rs : List (Int × Nat)} (h : RawsAt w lv rs) (ho : Only [] w w') : RawsAt w' lv rs := by
  obtain ⟨a, cap, h1, h2⟩ := h
  refine ⟨a, cap, h1, fun i r hr => ?_⟩
  obtain ⟨e0, g, o, ad, cap', e1, e2, e3, e4⟩ := h2 i r hr
  have hb := ho.block g e2 (by simp)
  exact ⟨e0, g, o, ad, cap', e1, Nat.lt_of_lt_of_le e2 ho.size, (World.cell?_of_block hb).trans e3, (World.cell?_of_block hb).trans e4⟩

end Go.Proofs.Ytoccnaebckcfmaa
