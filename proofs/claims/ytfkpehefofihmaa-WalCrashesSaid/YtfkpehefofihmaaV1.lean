/- WalCrashes: the rows of a log's other sectors; Open behind a boot. -/
import Derived.Test.YtfkpehefofihmaaW32
import Derived.Test.YtfkpehefofihmaaW27
import Derived.Test.YtfkpehefofihmaaW25
set_option linter.unusedSimpArgs false
set_option linter.unusedVariables false
set_option maxRecDepth 8000
namespace Go.Proofs.Ytfkpehefofihmaa
open Go.RowKit

/-- The sectors f that are not the log's, on a disk of 100. -/
def rowsF (a : Int) (f : Int → Array Value) : List (Array Value) := ((List.range 100).filter (isOut a 40)).map (fun j : Nat => f (j : Int))
def toX (a : Int) (i : Nat) : Int := if (i : Int) < a then (i : Int) else (i : Int) + 40
def toXN (m i : Nat) : Nat := if i < m then i else i + 40

theorem rows_of_log {S : St} {a n : Int} {f : Int → Array Value} (h : LogIs S a 40 n 100 f) : seen S a S.n.toNat = rowsF a f := by
  have hn : S.n.toNat = 100 := by rw [h.dn]; rfl
  rw [hn]
  unfold seen rowsF
  refine List.map_congr_left fun j hj => ?_
  have := (List.mem_filter.1 hj).2
  simp only [isOut, decide_eq_true_eq] at this
  exact h.rest (j : Int) (by omega)

theorem outs_list : ∀ m : Fin 61, (List.range 100).filter (isOut ((m : Nat) : Int) 40) = (List.range 60).map (toXN m) := by decide +kernel
theorem rowsF_eq {a : Int} (ha : 0 ≤ a) (ha1 : a ≤ 60) (f : Int → Array Value) : rowsF a f = (List.range 60).map (fun i => f (toX a i)) := by
  have := outs_list ⟨a.toNat, by omega⟩
  simp only [Int.toNat_of_nonneg ha] at this
  unfold rowsF
  rw [this, List.map_map]
  refine List.map_congr_left fun j hj => ?_
  simp only [Function.comp, toXN, toX]
  congr 1
  by_cases h : j < a.toNat
  · rw [if_pos h, if_pos (by omega)]
  · rw [if_neg h, if_neg (by omega)]; omega
theorem rowsF_len {a : Int} (ha : 0 ≤ a) (ha1 : a ≤ 60) (f : Int → Array Value) : (rowsF a f).length = 60 := by rw [rowsF_eq ha ha1]; simp
theorem rowsF_mem {a : Int} {f : Int → Array Value} {c : Array Value} (h : c ∈ rowsF a f) : ∃ x : Int, 0 ≤ x ∧ x < 100 ∧ (x < a ∨ a + 40 ≤ x) ∧ c = f x := by
  obtain ⟨j, hj, rfl⟩ := List.mem_map.1 h
  have h1 := List.mem_range.1 (List.mem_filter.1 hj).1
  have h2 := (List.mem_filter.1 hj).2
  simp only [isOut, decide_eq_true_eq] at h2
  exact ⟨(j : Int), by omega, by omega, by omega, rfl⟩

def upd1 (f : Int → Array Value) (p : Int × Array Value) (x : Int) : Array Value := if x = p.1 then p.2 else f x
theorem putAll_or (g : Int → Option (Array Value)) (ps : List (Int × Array Value)) (x : Int) : putAll g ps x = (putAll (fun _ => none) ps x).or (g x) := by
  induction ps generalizing g with
  | nil => simp [putAll]
  | cons p ps ih =>
    have e1 : putAll g (p :: ps) = putAll (updF g p.1 p.2) ps := rfl
    have e2 : putAll (fun _ => none) (p :: ps) = putAll (updF (fun _ => none) p.1 p.2) ps := rfl
    rw [e1, e2, ih, ih (updF (fun _ => none) p.1 p.2), Option.or_assoc]
    congr 1
    unfold updF
    split <;> simp
theorem updL_cons (f : Int → Array Value) (p : Int × Array Value) (ps : List (Int × Array Value)) : updL f (p :: ps) = updL (upd1 f p) ps := by
  funext x
  have e2 : putAll (fun _ => none) (p :: ps) = putAll (updF (fun _ => none) p.1 p.2) ps := rfl
  unfold updL
  rw [e2, putAll_or]
  cases h : putAll (fun _ => none) ps x with
  | some v => simp
  | none =>
    simp only [Option.none_or, Option.getD_none]
    unfold updF upd1
    split <;> simp
theorem updL_nil (f : Int → Array Value) : updL f [] = f := by funext x; rfl

theorem with_rows {a : Int} (ha : 0 ≤ a) (ha1 : a ≤ 60) : ∀ (ps : List (Int × Array Value)) (f : Int → Array Value), (∀ p ∈ ps, 0 ≤ p.1 ∧ p.1 < 100 ∧ (p.1 < a ∨ a + 40 ≤ p.1)) → withL a (rowsF a f) ps = rowsF a (updL f ps)
  | [], f, _ => by rw [updL_nil]; rfl
  | p :: ps, f, h => by
    have hp := h p (by simp)
    have e : withL a (rowsF a f) (p :: ps) = withL a ((rowsF a f).set (rowOf a p.1) p.2) ps := rfl
    rw [e, updL_cons, ← with_rows ha ha1 ps (upd1 f p) (fun q hq => h q (by simp [hq]))]
    congr 1
    rw [rowsF_eq ha ha1, rowsF_eq ha ha1]
    apply List.ext_getElem?
    intro i
    by_cases hi : i < 60
    · rw [List.getElem?_set, List.getElem?_map, List.getElem?_map, List.getElem?_range hi]
      simp only [List.length_map, List.length_range, Option.map_some]
      by_cases hr : rowOf a p.1 = i
      · have : toX a i = p.1 := by
          unfold rowOf at hr; unfold toX
          split at hr <;> split <;> omega
        simp [hr, hi, upd1, this]
      · have : toX a i ≠ p.1 := by
          unfold rowOf at hr; unfold toX
          split at hr <;> split <;> omega
        simp [hr, upd1, this]
    · rw [List.getElem?_eq_none (by simp; omega), List.getElem?_eq_none (by simp; omega)]

theorem updL_isB {f : Int → Array Value} (h : ∀ x, IsB (f x)) : ∀ (ps : List (Int × Array Value)), (∀ p ∈ ps, IsB p.2) → ∀ x, IsB (updL f ps x)
  | ps, hp, x => by
    unfold updL
    cases e : putAll (fun _ => none) ps x with
    | none => exact h x
    | some v =>
      have : ∃ p ∈ ps, p.1 = x ∧ v = p.2 := by
        clear hp
        have key : ∀ (ps : List (Int × Array Value)) (g : Int → Option (Array Value)), putAll g ps x = some v → g x = some v ∨ ∃ p ∈ ps, p.1 = x ∧ v = p.2 := by
          intro ps
          induction ps with
          | nil => intro g hg; exact .inl hg
          | cons p ps ih =>
            intro g hg
            rcases ih (updF g p.1 p.2) hg with h1 | ⟨q, hq, h1, h2⟩
            · unfold updF at h1
              split at h1
              · rename_i hx
                exact .inr ⟨p, by simp, hx.symm, by simpa using h1.symm⟩
              · exact .inl h1
            · exact .inr ⟨q, by simp [hq], h1, h2⟩
        rcases key ps _ e with h1 | h1
        · cases h1
        · exact h1
      obtain ⟨p, hpm, _, rfl⟩ := this
      exact hp p hpm

/-- A disk without a fuse does not fall. -/
theorem writes_fuse : ∀ (ps : List (Int × Array Value)) (S : St), S.on = true → S.fuse = -1 → (∀ p ∈ ps, 0 ≤ p.1 ∧ p.1 < S.n) → (S.writeAll ps).1 = 0 ∧ (S.writeAll ps).2.on = true ∧ (S.writeAll ps).2.fuse = -1 ∧ (S.writeAll ps).2.n = S.n := by
  intro ps S h1 h2 h3
  obtain ⟨e1, e2, e3, e4, e5, e6⟩ := writes_live ps S h1 h2 h3
  unfold St.writeAll
  rw [if_pos e1]
  unfold St.doBarrier
  rw [if_neg (by simp [e3]), if_neg (by omega)]
  refine ⟨rfl, ?_, ?_, ?_⟩ <;> simp [St.stepped, St.settled, e2, e3, e4]
theorem finish_fuse {S : St} {a s g : Int} {ps : List (Int × Array Value)} (h1 : S.on = true) (h2 : S.fuse = -1) (h3 : ∀ p ∈ ps, 0 ≤ p.1 ∧ p.1 < S.n) (ha : 0 ≤ a ∧ a < S.n) : (S.finish a s ps g).1 = 0 := by
  obtain ⟨e1, e2, e3, e4⟩ := writes_fuse ps S h1 h2 h3
  unfold St.finish
  rw [if_pos e1]
  exact (writes_fuse [_] _ e2 e3 (fun p hp => by rw [List.mem_singleton.1 hp, e4]; exact ha)).1

end Go.Proofs.Ytfkpehefofihmaa
