/- The document's trimmed: the values are trimmed where they lie. -/
import Derived.Test.YtjblfemkecmlmaaDoorC17
set_option linter.unusedSimpArgs false
set_option linter.unusedVariables false
namespace Go.Proofs.YtjblfemkecmlmaaDoor
open Go.RowKit Go.Shelf

/-- A cell of a row of a call's own is written. -/
theorem OX.put {B : Nat} {e : TypeId} {sz n cap g : Nat} {w : World} {xs : List Value} (h : OX B e sz w (.slice (some ⟨g, 0, none⟩) n cap) n xs) (j : Nat) (hj : j < xs.length) (v : Value) :
    OX B e sz (w.setCell ⟨g, j, none⟩ v) (.slice (some ⟨g, 0, none⟩) n cap) n (xs.set j v) ∧ Below B w (w.setCell ⟨g, j, none⟩ v) ∧ w.cell? ⟨g, j, none⟩ = xs[j]? ∧ w.frozen? ⟨g, j, none⟩ = false := by
  rcases h.own.2 with ⟨e1, _⟩ | ⟨g', cap', cur, e1, e2, e3, e4, e5, e6, e7⟩
  · cases e1
  · cases e1
    have hs := setCell_eq_setRow w g j cur e (0, 0) v e3
    refine ⟨⟨⟨by rw [List.length_set]; exact h.own.1, .inr ⟨g, cap, cur.setIfInBounds j v, rfl, e2, by rw [hs]; exact setRow_heap w g cur _ e (0, 0) e3, e4, e5, by simpa using e6, ?_⟩⟩, ?_⟩, (Below.refl B w).setCell (p := ⟨g, j, none⟩) e2 v, ?_, ?_⟩
    · rw [← e7, Array.toList_setIfInBounds, List.take_set]
    · rw [hs]
      have := h.size
      simpa [World.setRow] using this
    · rw [cell_of_row _ _ _ _ _ _ e3, ← e7, List.getElem?_take_of_lt (by rw [← e7, List.length_take] at hj; omega), Array.getElem?_toList]
    · simp [World.frozen?, e3]
theorem fc_len (F : List Fld) : (F.flatMap fC).length = F.length * 2 := by
  induction F with
  | nil => rfl
  | cons f t ih => rw [List.flatMap_cons, List.length_append, ih]; simp [fC]; omega
theorem fc_set (P R : List Fld) (f : Fld) (y : List UInt8) : ((P ++ f :: R).flatMap fC).set (P.length * 2 + 1) (sV y) = (P ++ (f.1, y) :: R).flatMap fC := by
  induction P with
  | nil => simp [fC]
  | cons a t ih =>
    rw [List.cons_append, List.flatMap_cons, List.cons_append, List.flatMap_cons]
    have e : (a :: t).length * 2 + 1 = t.length * 2 + 1 + 1 + 1 := by simp; omega
    rw [e]
    simp only [fC, List.cons_append, List.nil_append, List.set_cons_succ]
    rw [ih]
theorem fc_at (P R : List Fld) (f : Fld) : ((P ++ f :: R).flatMap fC)[P.length * 2 + 1]? = some (sV f.2) := by
  induction P with
  | nil => simp [fC]
  | cons a t ih =>
    rw [List.cons_append, List.flatMap_cons]
    have e : (a :: t).length * 2 + 1 = t.length * 2 + 1 + 1 + 1 := by simp; omega
    rw [e]
    simp only [fC, List.cons_append, List.nil_append, List.getElem?_cons_succ]
    exact ih
def tF (f : Fld) : Fld := (f.1, trm f.2)
set_option maxHeartbeats 4000000 in
set_option maxRecDepth 100000 in
theorem trimmed_any (B : Nat) (a : Option Addr) (n cap : Nat) (F : List Fld) (hn : F.length = n) (hn2 : n ≤ 64) (hF : ∀ f ∈ F, f.2.length ≤ 9223372036854775807) (w : World) (h : OX B 28 2 w (.slice a n cap) n (F.flatMap fC)) :
    Calls Tryd.prog 24 #[.slice a n cap] w fun e w' => e = .returned (.slice a n cap) ∧ OX B 28 2 w' (.slice a n cap) n ((F.map tF).flatMap fC) ∧ Below B w w' := by
  go_enter Tryd.func24, Tryd.ntmps24
  go_wp2_with fail
  go_loopw [3] (fun v3 wr => ∃ P R : List Fld, v3 = .int .i64 (P.length : Nat) ∧ Hid (F = P ++ R ∧ OX B 28 2 wr (.slice a n cap) n ((P.map tF ++ R).flatMap fC) ∧ Below B w wr)) (fun v3 wr => n - (intOf v3).toNat)
  case atStart => exact ⟨[], F, rfl, Lib.hid ⟨rfl, h, Below.refl _ _⟩⟩
  case round =>
    obtain ⟨P, R, rfl, HR⟩ := hrel
    obtain ⟨hFe, hO, hbw⟩ := HR.out
    cases R with
    | nil =>
      have hPl : P.length = n := by rw [← hn, hFe]; simp
      have hlt : ¬ (P.length : Int) < n := by omega
      have HO : Hid (OX B 28 2 wr (.slice a n cap) n ((F.map tF).flatMap fC) ∧ Below B w wr) := Lib.hid (by rw [List.append_nil] at hFe hO; rw [hFe]; exact ⟨hO, hbw⟩)
      clear HR hO hbw hFe h hn hPl
      go_wp2_with fail
      go_ret
      exact ⟨rfl, HO.out⟩
    | cons f R =>
      have hPl : P.length < n := by rw [← hn, hFe]; simp
      have hfl : f.2.length ≤ 9223372036854775807 := hF f (by rw [hFe]; simp)
      obtain ⟨a', cap', e1, _, h2⟩ := hO.cells
      injection e1 with e1 e2 e3
      subst e1 e3
      rcases h2 with ⟨_, h0⟩ | ⟨g, rfl, hgB, hg, hcell⟩
      · omega
      · have hj : P.length * 2 + 1 < ((P.map tF ++ f :: R).flatMap fC).length := by rw [fc_len]; simp; omega
        obtain ⟨p1, p2, p3, p4⟩ := hO.put _ hj (sV (trm f.2))
        have e4 := fc_at (P.map tF) R f
        have e5 := fc_set (P.map tF) R f (trm f.2)
        rw [List.length_map] at e4 e5
        rw [e4] at p3
        rw [e5] at p1
        have c1 := fun w => dtrim_any f.2 hfl w
        have HP : Hid (OX B 28 2 (wr.setCell ⟨g, P.length * 2 + 1, none⟩ (sV (trm f.2))) (.slice (some ⟨g, 0, none⟩) n cap) n (((P ++ [f]).map tF ++ R).flatMap fC) ∧ Below B w (wr.setCell ⟨g, P.length * 2 + 1, none⟩ (sV (trm f.2))) ∧ F = (P ++ [f]) ++ R) := Lib.hid ⟨by
          rw [List.map_append, List.append_assoc]; exact p1, hbw.trans p2, by rw [List.append_assoc]; exact hFe⟩
        have e6 : 0 + P.length * 2 + 1 = P.length * 2 + 1 := by omega
        unfold sV at p3 HP
        have p3' : wr.cell? ⟨g, 0 + P.length * 2 + 1, none⟩ = some (.string ⟨f.2.toArray⟩) := by rw [e6]; exact p3
        have p4' : wr.frozen? ⟨g, 0 + P.length * 2 + 1, none⟩ = false := by rw [e6]; exact p4
        have hlt : (P.length : Int) < n := by omega
        generalize (⟨f.2.toArray⟩ : ByteArray) = fv at *
        generalize (⟨(trm f.2).toArray⟩ : ByteArray) = tv at *
        clear p1 p2 e4 e5 hcell HR hO hbw hFe h hj hfl hF
        go_wp2_with (go_at_call 52; refine (c1 _).mono ?_; rintro e w' ⟨rfl, rfl⟩)
        exact ⟨⟨P ++ [f], R, by rw [List.length_append]; rfl, Lib.hid ⟨HP.out.2.2, HP.out.1, HP.out.2.1⟩⟩, by simp [intOf]; omega⟩
end Go.Proofs.YtjblfemkecmlmaaDoor
