/- The document's examples come out as it says. -/
import Derived.Test.YtoccnaebckcfmaaW16
set_option linter.unusedSimpArgs false
set_option linter.unusedVariables false
set_option maxRecDepth 8000
namespace Go.Proofs.Ytoccnaebckcfmaa
open Go.RowKit

section
variable {o : Oper} {a : Act} {w : World}
theorem run_eql36 {x y : Operand} {i j : Int} (ho : o.op = .binOp .eql 36 x y 36) (hx : a.eval x = .int .i64 i) (hy : a.eval y = .int .i64 j) : ∀ w, (execOp a.eval o).run Try.prog w = .ok (.value (.bool (i == j))) w := by
  intro w
  unfold execOp
  simp only [ho, hx, hy]
  go_simp
theorem run_eql3 {x y : Operand} {i j : Int} (ho : o.op = .binOp .eql 3 x y 3) (hx : a.eval x = .int .i64 i) (hy : a.eval y = .int .i64 j) : ∀ w, (execOp a.eval o).run Try.prog w = .ok (.value (.bool (i == j))) w := by
  intro w
  unfold execOp
  simp only [ho, hx, hy]
  go_simp
theorem run_eqlS {x y : Operand} {s t : ByteArray} (ho : o.op = .binOp .eql 9 x y 9) (hx : a.eval x = .string s) (hy : a.eval y = .string t) : ∀ w, (execOp a.eval o).run Try.prog w = .ok (.value (.bool (s.toList == t.toList))) w := by
  intro w
  unfold execOp
  simp only [ho, hx, hy]
  go_simp
end

def fullL (c l : Int) : List Int := List.replicate 63 c ++ [l]
theorem fullB_sec (c l : Int) : fullB c l = sec (fullL c l) := by kernel_rfl
theorem fullL_len (c l : Int) : (fullL c l).length = 64 := by simp [fullL]

/-- Two puts in memory. -/
theorem putsAt_two {w : World} {F : List Nat} {g : Nat} {i j : Int} {av bv : Value} {v u : Array Value} {t : TypeId} (hb : w.heap[g]? = some (.cells #[.int .i64 i, av, .int .i64 j, bv] t (0, 0))) (hg : g ∉ F) (hv : Bytes64 w F av v) (hu : Bytes64 w F bv u) : PutsAt w F (.slice (some ⟨g, 0, none⟩) 2 2) [(i, v), (j, u)] := by
  refine ⟨_, _, rfl, by simp, fun k p hp => ?_⟩
  match k, hp with
  | 0, hp =>
    simp at hp
    subst hp
    exact ⟨g, 0, av, rfl, (Array.getElem?_eq_some_iff.1 hb).1, hg, by rw [cell_of_row _ _ _ _ _ _ hb]; rfl, by rw [cell_of_row _ _ _ _ _ _ hb]; rfl, hv⟩
  | 1, hp =>
    simp at hp
    subst hp
    exact ⟨g, 0, bv, rfl, (Array.getElem?_eq_some_iff.1 hb).1, hg, by rw [cell_of_row _ _ _ _ _ _ hb]; rfl, by rw [cell_of_row _ _ _ _ _ _ hb]; rfl, hu⟩
  | k + 2, hp => simp at hp

theorem writeAll_fall {S : St} (hon : S.on = true) (hf : S.fuse = 0) (ps : List (Int × Array Value)) (h : ∀ p ∈ ps, 0 ≤ p.1 ∧ p.1 < S.n) : S.writeAll ps = (2, S.fallen) := by
  cases ps with
  | nil => rw [St.writeAll, St.writes, if_pos rfl, St.doBarrier, if_neg (by simp [hon]), if_pos hf]
  | cons p ps =>
    have hp := h p (by simp)
    have hr : S.reach p.1 = 0 := by rw [St.reach, if_neg (by simp [hon]), if_neg (by omega)]
    have hw : S.doWrite p.1 p.2 = (2, S.fallen) := by rw [St.doWrite, if_neg (by simp [hr]), if_pos hf]
    have : S.writes (p :: ps) = (2, S.fallen) := by rw [St.writes, hw, if_neg (by simp)]
    rw [St.writeAll, this, if_neg (by simp)]

theorem commit_fall {S : St} (hon : S.on = true) (hf : S.fuse = 0) {a s g : Int} {ps : List (Int × Array Value)} (ha : 0 ≤ a) (hs : 3 ≤ s) (has : a + s ≤ S.n) (hok : GroupOk a s S.n (rawsOf ps)) : S.commit a s g ps = ⟨2, S.fallen, g⟩ := by
  have hlen : (ps.length : Int) ≤ roomF s := by have := hok.1; simpa [rawsOf] using this
  have hfit := room_fits hs hlen
  rw [St.commit, writeAll_fall hon hf _ (fun p hp => by have := copies_in hp; omega), if_pos (by simp)]

theorem fused_quiet (n k : Int) (f : Int → Option (Array Value)) (m : Int) : (quiet n k f).fused m = { quiet n k f with fuse := m } := rfl
theorem booted_quiet (n k : Int) (f : Int → Option (Array Value)) (keep : List Int) : ({ quiet n k f with fuse := 0 } : St).fallen.booted keep = quiet n k f := rfl
theorem WalAt.lat {w x : World} {wb b : Nat} {a s g : Int} (h : WalAt w wb b a s g) (hl : Lat w x) : WalAt x wb b a s g := hl.at h
theorem keepAt_one {w : World} {F : List Nat} {g : Nat} {z : Int} {t : TypeId} (hb : w.heap[g]? = some (.cells #[.int .i64 z] t (0, 0))) (hg : g ∉ F) : KeepAt w F (.slice (some ⟨g, 0, none⟩) 1 1) [z] := by
  refine ⟨_, _, rfl, by simp, fun _ => ⟨g, 0, rfl, (Array.getElem?_eq_some_iff.1 hb).1, hg, fun j y hy => ?_⟩⟩
  cases j with
  | succ j => simp at hy
  | zero => simp at hy; subst hy; rw [cell_of_row _ _ _ _ _ _ hb]; rfl

theorem room40 : roomF 40 = 37 := by decide
end Go.Proofs.Ytoccnaebckcfmaa
