/- What with does, walked. -/
import Derived.Test.YtfkpehefofihmaaW26
set_option linter.unusedSimpArgs false
set_option linter.unusedVariables false
set_option maxRecDepth 8000
namespace Go.Proofs.Ytfkpehefofihmaa
open Go.RowKit

/-- Which row a sector is. -/
def rowOf (a x : Int) : Nat := (if a + 40 ≤ x then x - 40 else x).toNat
def withL (a : Int) (vs : List (Array Value)) (ps : List (Int × Array Value)) : List (Array Value) := ps.foldl (fun vs p => vs.set (rowOf a p.1) p.2) vs
theorem withL_len (a : Int) (ps : List (Int × Array Value)) : ∀ vs : List (Array Value), (withL a vs ps).length = vs.length := by
  induction ps with
  | nil => intro vs; rfl
  | cons p ps ih => intro vs; show (withL a (vs.set _ _) ps).length = _; rw [ih]; simp
theorem withL_snoc (a : Int) (vs : List (Array Value)) (ps : List (Int × Array Value)) (p : Int × Array Value) : withL a vs (ps ++ [p]) = (withL a vs ps).set (rowOf a p.1) p.2 := by simp [withL]

def WithPost (w0 : World) (a : Int) (vs : List (Array Value)) (ps : List (Int × Array Value)) (Rs : List Res) (e : Ending) (w' : World) : Prop := ∃ G v, e = .returned v ∧ Has w0 w' (QRes G v (withL a vs ps) :: Rs)
theorem WithPost.mk {w0 : World} {a : Int} {vs : List (Array Value)} {ps : List (Int × Array Value)} {Rs : List Res} {w' : World} {G : List Nat} {v : Value} (h : Has w0 w' (QRes G v (withL a vs ps) :: Rs)) : WithPost w0 a vs ps Rs (.returned v) w' := Exists.intro G (Exists.intro v ⟨rfl, h⟩)

set_option maxHeartbeats 4000000 in
theorem with_any {w0 w : World} {G : List Nat} {v lv : Value} {vs : List (Array Value)} {ps : List (Int × Array Value)} {Rs : List Res} (h : Has w0 w (QRes G v vs :: Rs)) (hl : PutsAt w0 [] lv ps) (a : Int) (ha : 0 ≤ a) (ha1 : a ≤ 60) (hv : vs.length = 60) (hps : ∀ p ∈ ps, 0 ≤ p.1 ∧ p.1 < 100 ∧ (p.1 < a ∨ a + 40 ≤ p.1)) :
    Calls Try.prog 16 #[v, .int .i64 a, lv] w fun e w' => WithPost w0 a vs ps Rs e w' := by
  obtain ⟨va, vc, rfl⟩ := (h.qat (G := G) (v := v) (vs := vs) (by simp)).slice
  obtain ⟨ad, cap, rfl, hlen, -⟩ := hl.shape
  have hb29 := buildSlice29_0
  have hb51 := buildSlice51_0
  obtain ⟨v1, w1, hrun, G1, h1⟩ := has_qcopy h (by omega) (by omega) 29
  have HL := Lib.hid hl
  have HPS := Lib.hid hps
  have HV := Lib.hid hv
  have RUN := Lib.hid hrun
  have H1 := Lib.hid h1
  clear h hl hps hrun h1 hv
  go_enter Try.func16, Try.ntmps16
  go_wp2_with (refine wpL_value rfl (run_builtin_append rfl rfl rfl RUN.out) ?_)
  go_loopw [8] (fun x wr => ∃ (i : Nat) (G' : List Nat), i ≤ ps.length ∧ x = .int .i64 i ∧ Has w0 wr (QRes G' v1 (withL a vs (ps.take i)) :: Rs)) (fun x _ => ps.length - (intOf x).toNat)
  case atStart => exact ⟨0, G1, by omega, rfl, H1.out⟩
  case round =>
    obtain ⟨i, G', hi, rfl, hh⟩ := hrel
    by_cases hlt : i < ps.length
    · obtain ⟨p, hp⟩ : ∃ p, ps[i]? = some p := ⟨_, List.getElem?_eq_getElem hlt⟩
      obtain ⟨r0, r1, r2⟩ := HPS.out p (List.mem_of_getElem? hp)
      obtain ⟨a', cap', hsh, -, hall⟩ := (HL.out.only hh.only (by simp)).shape
      cases hsh
      obtain ⟨g1, o1, av, rfl, g1l, g2, c0, c1, hb⟩ := hall i p hp
      obtain ⟨ok, g3, o3, cap3, rfl, g3l, _, hrg⟩ := hb
      have hwl := withL_len a (ps.take i) vs
      have hrow : rowOf a p.1 < 60 := by unfold rowOf; split <;> omega
      obtain ⟨go, co, v2, w2, hv1, hrun2, ⟨u2, hcell⟩, hfz, ⟨x1, x2, x3, rfl⟩, o2, G2, h2⟩ := has_qset hh (k := rowOf a p.1) (by rw [hwl, HV.out]; exact hrow) (c := p.2) (ad := ⟨g3, o3, none⟩) (cap := cap3) ok (fun j u hu => by rw [Addr.add_mid, World.cell?_alloc_lt _ _ _ g3l]; exact hrg j u hu) 51
      have ht : ps.take (i + 1) = ps.take i ++ [p] := by rw [List.take_add_one, hp]; rfl
      rw [← withL_snoc, ← ht] at h2
      rw [hwl, HV.out] at hv1
      subst hv1
      have RUN2 := Lib.hid hrun2
      have H2 := Lib.hid h2
      clear hall hh hrun2 h2 hrg ht hwl o2 hp
      by_cases hge : a + 40 ≤ p.1
      · obtain ⟨q, hq⟩ : ∃ q : Nat, p.1 - 40 = (q : Int) := ⟨(p.1 - 40).toNat, by omega⟩
        have hrq : rowOf a p.1 = q := by unfold rowOf; rw [if_pos hge]; omega
        rw [hrq] at hcell hfz H2 hrow
        clear hrq
        go_wp2_with (refine wpL_value rfl (run_builtin_append rfl rfl rfl RUN2.out) ?_)
        go_roundw
        case rel => exact ⟨i + 1, G2, by omega, by go_num, H2.out⟩
        case measure => simp [intOf]; omega
      · obtain ⟨q, hq⟩ : ∃ q : Nat, p.1 = (q : Int) := ⟨p.1.toNat, by omega⟩
        have hrq : rowOf a p.1 = q := by unfold rowOf; rw [if_neg hge]; omega
        rw [hrq] at hcell hfz H2 hrow
        clear hrq
        go_wp2_with (refine wpL_value rfl (run_builtin_append rfl rfl rfl RUN2.out) ?_)
        go_roundw
        case rel => exact ⟨i + 1, G2, by omega, by go_num, H2.out⟩
        case measure => simp [intOf]; omega
    · have hil : i = ps.length := by omega
      subst hil
      rw [List.take_length] at hh
      have H2 := Lib.hid hh
      clear hh
      go_wp2
      go_ret
      exact WithPost.mk H2.out

end Go.Proofs.Ytfkpehefofihmaa
