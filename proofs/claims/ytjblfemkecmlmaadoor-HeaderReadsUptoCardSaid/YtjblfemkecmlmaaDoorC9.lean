/- isBoundary, Kind. -/
import Derived.Test.YtjblfemkecmlmaaDoorC8
import Derived.Test.YtjblfemkecmlmaaDoorQ3
import Derived.OwnWalk
set_option linter.unusedSimpArgs false
set_option linter.unusedVariables false
namespace Go.Proofs.YtjblfemkecmlmaaDoor
open Go.RowKit Go.Shelf

theorem tw_all (p : UInt8 → Bool) (l : List UInt8) (h : l.all p = true) : l.takeWhile p = l := by
  induction l with
  | nil => rfl
  | cons c t ih =>
    simp at h
    rw [List.takeWhile_cons, if_pos h.1, ih (by simpa using h.2)]
theorem tw_some (p : UInt8 → Bool) (l : List UInt8) (h : l.all p = false) : (l.takeWhile p).length < l.length := by
  induction l with
  | nil => simp at h
  | cons c t ih =>
    rw [List.takeWhile_cons]
    split
    · rename_i hc
      have := ih (by simpa [hc] using h)
      simp; omega
    · simp
theorem tw_len (p : UInt8 → Bool) (l : List UInt8) : (((l.takeWhile p).length : Int) == (l.length : Int)) = l.all p := by
  cases h : l.all p
  · have := tw_some p l h
    simp; omega
  · rw [tw_all p l h]; simp
set_option maxHeartbeats 1000000 in
theorem isBoundary_any (d : List UInt8) (hd : d.length ≤ 9223372036854775807) (w : World) :
    Calls Tryd.prog 29 #[.string ⟨d.toArray⟩] w fun e w' => e = .returned (.bool (bdP d)) ∧ w' = w := by
  have c1 := fun w => count_pr ⟨d.toArray⟩ hd w
  have c2 := fun w => Tryd.strings_HasSuffix ⟨d.toArray⟩ ⟨#[32]⟩ w hd
  have e0 : (⟨d.toArray⟩ : ByteArray).data.toList = d := rfl
  have e1 : (⟨#[32]⟩ : ByteArray).data.toList = [32] := rfl
  have hz : (⟨d.toArray⟩ : ByteArray).size = d.length := rfl
  rw [e0] at c1
  rw [e0, e1, suffix_last] at c2
  have he := tw_len prB d
  unfold bdP
  generalize (d.getLast? == some 32) = q at *
  generalize d.all prB = p at *
  generalize (d.takeWhile prB).length = n at *
  rw [← hz] at he ⊢
  clear e0 e1 hd hz
  generalize (⟨d.toArray⟩ : ByteArray) = sv at *
  by_cases hl : sv.size ≤ 70
  · have hl' : (sv.size : Int) ≤ 70 := by omega
    have hl2 : decide (sv.size ≤ 70) = true := by simpa using hl
    rw [hl2]
    cases p
    · have hne : ¬ (n : Int) = sv.size := by simpa using he
      go_enter Tryd.func29, Tryd.ntmps29
      go_wp2_with (first | (go_at_call 47; refine (c1 _).mono ?_; rintro e w' ⟨rfl, rfl⟩) | (go_at_call 57; refine (c2 _).mono ?_; rintro e w' ⟨rfl, rfl⟩))
      go_ret
      exact ⟨rfl, rfl⟩
    · have hne : (n : Int) = sv.size := by simpa using he
      have HN := Lib.hid hne
      rw [hne] at he c1
      clear hne HN
      go_enter Tryd.func29, Tryd.ntmps29
      go_wp2_with (first | (go_at_call 47; refine (c1 _).mono ?_; rintro e w' ⟨rfl, rfl⟩) | (go_at_call 57; refine (c2 _).mono ?_; rintro e w' ⟨rfl, rfl⟩))
      go_ret
      exact ⟨by cases q <;> rfl, rfl⟩
  · have hl' : ¬ (sv.size : Int) ≤ 70 := by omega
    have hl2 : decide (sv.size ≤ 70) = false := by simpa using hl
    rw [hl2]
    go_enter Tryd.func29, Tryd.ntmps29
    go_wp2_with (first | (go_at_call 47; refine (c1 _).mono ?_; rintro e w' ⟨rfl, rfl⟩) | (go_at_call 57; refine (c2 _).mono ?_; rintro e w' ⟨rfl, rfl⟩))
    go_ret
    exact ⟨by cases p <;> cases q <;> rfl, rfl⟩
/-- Fields of which none is longer than L. -/
def FLe (L : Nat) (F : List Fld) : Prop := ∀ f ∈ F, f.1.length ≤ L ∧ f.2.length ≤ L
def kV (k : List UInt8 × List UInt8 × List UInt8) : Value := .tuple #[.string ⟨k.1.toArray⟩, .string ⟨k.2.1.toArray⟩, .string ⟨k.2.2.toArray⟩]
def KPost (k : List UInt8 × List UInt8 × List UInt8) (w : World) (e : Ending) (w' : World) : Prop := e = .returned (kV k) ∧ Below w.heap.size w w'
set_option maxHeartbeats 4000000 in
set_option maxRecDepth 100000 in
theorem kind_any (v : Value) (F : List Fld) (h : FLe 1000000000000 F) (hlen : F.length ≤ 1000000000000) (w : World) (hv : FsAt w v F) :
    Calls Tryd.prog 10 #[v] w (KPost (kindR F) w) := by
  have c1 := fun w hv => get_any v F ctyp (fun f hf => Nat.le_trans (h f hf).1 (by omega)) (by decide) (by omega) w hv
  have hs := getR_len (n := ctyp) h
  unfold kindR
  unfold GPost GetV at c1
  generalize (getR F ctyp).isSome = is at *
  generalize (getR F ctyp).getD [] = s at *
  clear h hlen
  have c2 := fun w => tl_any s w
  have hl0 := tl_len s
  have c3 := fun r w h => types_any r (tL s) false (by omega) w h
  have l1 := tk_len (tL s, false)
  have l2 := mk_len 47 (tkR (tL s, false)).2
  have l3 := tk_len (mkR 47 (tkR (tL s, false)).2)
  have v1 := tk_val (tL s, false)
  have v3 := tk_val (mkR 47 (tkR (tL s, false)).2)
  have c4 := fun r w h => params_any r (tkR (mkR 47 (tkR (tL s, false)).2)).2.1 (tkR (mkR 47 (tkR (tL s, false)).2)).2.2 (by simp at l1; omega) w h
  have hf := pars_fuel ((tkR (mkR 47 (tkR (tL s, false)).2)).2.1.length + 1) (s.length + 1) ((tkR (mkR 47 (tkR (tL s, false)).2)).2.1, (tkR (mkR 47 (tkR (tL s, false)).2)).2.2) [] (by unfold nbq; simp; split <;> omega) (by simp at l1; omega)
  rw [hf] at c4
  have hp1 := pars_val (s.length + 1) ((tkR (mkR 47 (tkR (tL s, false)).2)).2.1, (tkR (mkR 47 (tkR (tL s, false)).2)).2.2) [] s.length (by simp at l1 ⊢; omega) (by simp)
  have hp2 := pars_count (s.length + 1) ((tkR (mkR 47 (tkR (tL s, false)).2)).2.1, (tkR (mkR 47 (tkR (tL s, false)).2)).2.2) []
  have hp3 : nbq ((tkR (mkR 47 (tkR (tL s, false)).2)).2.1, (tkR (mkR 47 (tkR (tL s, false)).2)).2.2) ≤ s.length + 1 := by unfold nbq; simp at l1 ⊢; split <;> omega
  unfold kindS
  dsimp only
  have eta : ((tkR (mkR 47 (tkR (tL s, false)).2)).2.1, (tkR (mkR 47 (tkR (tL s, false)).2)).2.2) = (tkR (mkR 47 (tkR (tL s, false)).2)).2 := rfl
  rw [eta] at c4 hp1 hp2 hp3
  clear hf eta
  generalize parsR (s.length + 1) (tkR (mkR 47 (tkR (tL s, false)).2)).2 [] = p at *
  generalize tkR (mkR 47 (tkR (tL s, false)).2) = b at *
  generalize tkR (tL s, false) = a at *
  have hd := getR_len (n := bndy) hp1
  have c5 := fun v w hv => get_any v p.1 bndy (fun f hf => Nat.le_trans (hp1 f hf).1 (by omega)) (by decide) (by simp at hp2; omega) w hv
  unfold GPost GetV at c5
  generalize (getR p.1 bndy).isSome = is2 at *
  generalize (getR p.1 bndy).getD [] = d at *
  have c6 := fun w => isBoundary_any d (by omega) w
  have c7 := fun w => gt_any a.1 (by simp at v1; omega) w
  have c8 := fun w => gt_any b.1 (by simp at l1 v3; omega) w
  unfold PPost at c4
  unfold KPost
  clear l1 l2 l3 v1 v3 hp1 hp2 hp3 hd hs hl0
  generalize hres : (if p.2.2 = true then (txt, pln, []) else (gtS a.1, gtS b.1, if bdP d = true then d else [])) = res
  have HR := Lib.hid hres
  clear hres
  go_enter Tryd.func10, Tryd.ntmps10
  go_wp2_with fail
  refine (c1 _ hv).mono ?_; rintro e w1 ⟨rfl, b1⟩
  clear c1 hv
  go_wp2_with fail
  refine (c2 _).mono ?_; rintro e w2 ⟨rfl, b2⟩
  have B2 := b1.trans (b2.mono b1.size)
  clear c2 b1 b2
  go_wp2_with fail
  have r3 : RS (w2.alloc (.cells #[.string ⟨(tL s).toArray⟩, .bool false] 50)) w2.heap.size (tL s) false := heap_alloc_new w2 _
  have B3 : Below w.heap.size w (w2.alloc (.cells #[.string ⟨(tL s).toArray⟩, .bool false] 50)) := B2.alloc B2.size _
  have hsz := B2.size
  generalize w2.alloc (.cells #[.string ⟨(tL s).toArray⟩, .bool false] 50) = w3 at *
  generalize w2.heap.size = r at *
  clear B2
  refine (c3 r _ r3).mono ?_; rintro e w4 ⟨rfl, r4, g4⟩
  have B4 := B3.trans (g4.below.mono hsz)
  clear B3 g4 r3 c3
  go_wp2_with fail
  refine (c4 r _ r4).mono ?_; rintro e w5 ⟨⟨v5, rfl, hF5⟩, r5, g5⟩
  have B5 := B4.trans (g5.below.mono hsz)
  have q5 := r5.c1
  clear B4 g5 r4 c4
  cases hb : p.2.2
  · rw [hb] at q5
    have H5 := Lib.hid hF5
    have HR2 : Hid (res = (gtS a.1, gtS b.1, if bdP d = true then d else [])) := Lib.hid (by rw [← HR.out, hb]; rfl)
    clear r5 hb hF5 HR
    go_wp2_with fail
    refine (c5 _ _ H5.out).mono ?_; rintro e w6 ⟨rfl, b6⟩
    have B6 := B5.trans (b6.mono B5.size)
    clear B5 b6 c5 H5 q5
    cases hq : bdP d
    · rw [hq] at c6
      have HE : Hid (res = (gtS a.1, gtS b.1, [])) := Lib.hid (by rw [HR2.out, hq]; rfl)
      clear hq HR2
      go_wp2_with (go_at_call 29; refine (c6 _).mono ?_; rintro e w' ⟨rfl, rfl⟩)
      refine (c7 _).mono ?_; rintro e w7 ⟨rfl, b7⟩
      have B7 := B6.trans (b7.mono B6.size)
      clear b7 B6 c7
      go_wp2_with fail
      refine (c8 _).mono ?_; rintro e w8 ⟨rfl, b8⟩
      have B8 := Lib.hid (B7.trans (b8.mono B7.size))
      clear b8 B7 c8
      go_wp2_with fail
      go_ret3
      rw [HE.out]
      exact ⟨rfl, B8.out⟩
    · rw [hq] at c6
      have HE : Hid (res = (gtS a.1, gtS b.1, d)) := Lib.hid (by rw [HR2.out, hq]; rfl)
      clear hq HR2
      go_wp2_with (go_at_call 29; refine (c6 _).mono ?_; rintro e w' ⟨rfl, rfl⟩)
      refine (c7 _).mono ?_; rintro e w7 ⟨rfl, b7⟩
      have B7 := B6.trans (b7.mono B6.size)
      clear b7 B6 c7
      go_wp2_with fail
      refine (c8 _).mono ?_; rintro e w8 ⟨rfl, b8⟩
      have B8 := Lib.hid (B7.trans (b8.mono B7.size))
      clear b8 B7 c8
      go_wp2_with fail
      go_ret3
      rw [HE.out]
      exact ⟨rfl, B8.out⟩
  · rw [hb] at q5
    have B5' := Lib.hid B5
    have HE : Hid (res = (txt, pln, [])) := Lib.hid (by rw [← HR.out, hb]; rfl)
    clear r5 hb B5 hF5 HR
    go_wp2_with fail
    go_ret3
    rw [HE.out]
    exact ⟨rfl, B5'.out⟩
end Go.Proofs.YtjblfemkecmlmaaDoor
