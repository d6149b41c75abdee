/- List. -/
import Derived.Test.YtgdcdknmijeioaaDoorC16
set_option linter.unusedSimpArgs false
set_option linter.unusedVariables false
namespace Go.Proofs.YtgdcdknmijeioaaDoor
open Go.RowKit Go.Shelf

def aC (a : Ad) : List Value := [sV a.name, sV a.lo, sV a.dm]
def LR (r L : Nat) (res : List Ad × List UInt8 × Bool) (w0 w : World) (xs : List Ad) (l : List UInt8) (b : Bool) : Prop :=
  RS w r l b ∧ Chg r w0 w ∧ xs.length ≤ 17 ∧ l.length ≤ L ∧ ∃ k, l.length < k ∧ lstR k xs l b = res
theorem lst_go {k : Nat} {xs : List Ad} {t : List UInt8} {b : Bool} {res : List Ad × List UInt8 × Bool} (hk : (44 :: t).length < k) (h : lstR k xs (44 :: t) b = res) :
    ∃ k', (elemR t b).2.1.length < k' ∧ lstR k' (if xs.length ≤ 16 then xs ++ [(elemR t b).1] else xs) (elemR t b).2.1 (elemR t b).2.2 = res := by
  cases k with
  | zero => omega
  | succ k =>
    rw [lstR, if_pos rfl] at h
    have := len_elemR t b
    simp at hk
    exact ⟨k, by omega, h⟩
theorem lst_end {k : Nat} {xs : List Ad} {l : List UInt8} {b : Bool} {res : List Ad × List UInt8 × Bool} (h1 : (tkm 44 l).1 = false) (hk : l.length < k) (h : lstR k xs l b = res) : res = (xs, l, b) := by
  cases k with
  | zero => omega
  | succ k =>
    cases l with
    | nil => rw [← h, lstR]
    | cons c t => rw [← h, lstR, if_neg (tkm_false h1)]
theorem tkm_same {c : UInt8} {l : List UInt8} (h : (tkm c l).1 = false) : (tkm c l).2 = l := by
  cases l with
  | nil => rfl
  | cons x t =>
    simp only [tkm] at h ⊢
    split at h
    · simp at h
    · rename_i hx; rw [if_neg hx]
theorem aC_len (xs : List Ad) : (xs.flatMap aC).length = xs.length * 3 := by
  induction xs with
  | nil => rfl
  | cons a t ih => rw [List.flatMap_cons, List.length_append, ih]; simp [aC]; omega
/-- What List gives. -/
def LPost (res : List Ad × Int) (w : World) (e : Ending) (w' : World) : Prop :=
  (∃ v, e = .returned (.tuple #[v, .int .i64 res.2]) ∧ ∃ a cap, v = .slice a res.1.length cap ∧ res.1.length ≤ cap ∧ (res.1 = [] ∨ ∃ g, a = some ⟨g, 0, none⟩ ∧ w.heap.size ≤ g ∧ g < w'.heap.size ∧ ∀ j u, (res.1.flatMap aC)[j]? = some u → w'.cell? ⟨g, j, none⟩ = some u)) ∧ Below w.heap.size w w'
theorem LPost.nil {k : Int} {w w' : World} (hb : Below w.heap.size w w') : LPost ([], k) w (.returned (.tuple #[.slice none 0 0, .int .i64 k])) w' :=
  ⟨⟨_, rfl, none, 0, rfl, Nat.le_refl _, .inl rfl⟩, hb⟩
set_option maxHeartbeats 4000000 in
theorem list_any (s : List UInt8) (hl : s.length ≤ 100000000) (w : World) (hM : Max w) :
    Calls Tryd.prog 14 #[.string ⟨s.toArray⟩] w (LPost (listR s) w) := by
  have hw0 : 0 < w.heap.size := by obtain ⟨m, hm⟩ := hM; exact World.block_lt_of_cell? w _ hm
  have h1 : RS (w.alloc (.cells #[.string ⟨s.toArray⟩, .bool false] 46)) w.heap.size s false := heap_alloc_new w _
  have B1 : Below w.heap.size w (w.alloc (.cells #[.string ⟨s.toArray⟩, .bool false] 46)) := (Below.refl _ _).alloc (Nat.le_refl _) _
  have M1 := hM.below B1
  have hlen := len_elemR s false
  have hlist : listR s = (if (lstR (s.length + 1) [(elemR s false).1] (elemR s false).2.1 (elemR s false).2.2).2.2 || !(lstR (s.length + 1) [(elemR s false).1] (elemR s false).2.1 (elemR s false).2.2).2.1.isEmpty then ([], 90) else if 16 < (lstR (s.length + 1) [(elemR s false).1] (elemR s false).2.1 (elemR s false).2.2).1.length then ([], 5) else ((lstR (s.length + 1) [(elemR s false).1] (elemR s false).2.1 (elemR s false).2.2).1, 0)) := rfl
  generalize listR s = fin at *
  generalize hres : lstR (s.length + 1) [(elemR s false).1] (elemR s false).2.1 (elemR s false).2.2 = res at *
  have hR0 : ∃ k, (elemR s false).2.1.length < k ∧ lstR k [(elemR s false).1] (elemR s false).2.1 (elemR s false).2.2 = res := ⟨s.length + 1, by omega, hres⟩
  clear hres
  have c1 := element_any w.heap.size hw0 s false (by omega) _ M1 h1
  unfold AddrPost at c1
  generalize elemR s false = e1 at *
  have HL := Lib.hid hlist
  clear hlist h1
  go_enter Tryd.func14, Tryd.ntmps14
  go_wp2_with fail
  refine c1.mono ?_; rintro e w2 ⟨rfl, h2, g2⟩
  have M2 := M1.chg g2 hw0
  unfold adV
  clear c1 M1 hM
  go_wp2_with fail
  have b3 : Below w2.heap.size w2 (w2.alloc (.cells #[.string ⟨e1.1.name.toArray⟩, .string ⟨e1.1.lo.toArray⟩, .string ⟨e1.1.dm.toArray⟩] 23)) := (Below.refl _ _).alloc (Nat.le_refl _) _
  have h3 := h2.below b3
  have g3 := chg_alloc g2 h2.lt (.cells #[.string ⟨e1.1.name.toArray⟩, .string ⟨e1.1.lo.toArray⟩, .string ⟨e1.1.dm.toArray⟩] 23)
  have M3 := M2.below b3
  have hsz : (w.alloc (.cells #[.string ⟨s.toArray⟩, .bool false] 46)).heap.size = w.heap.size + 1 := by simp
  have O3 : OX (w.heap.size + 1) 23 3 (w2.alloc (.cells #[.string ⟨e1.1.name.toArray⟩, .string ⟨e1.1.lo.toArray⟩, .string ⟨e1.1.dm.toArray⟩] 23)) (.slice (some ⟨w2.heap.size, 0, none⟩) 1 1) 1 ([e1.1].flatMap aC) := by
    have hz := g2.below.size
    rw [hsz] at hz
    exact ⟨⟨rfl, .inr ⟨w2.heap.size, 1, _, rfl, hz, heap_alloc_new w2 _, Nat.le_refl _, by unfold maxLen; omega, rfl, rfl⟩⟩, by simp; omega⟩
  have HR0 : Hid (LR w.heap.size s.length res (w.alloc (.cells #[.string ⟨s.toArray⟩, .bool false] 46)) (w2.alloc (.cells #[.string ⟨e1.1.name.toArray⟩, .string ⟨e1.1.lo.toArray⟩, .string ⟨e1.1.dm.toArray⟩] 23)) [e1.1] e1.2.1 e1.2.2) := Lib.hid ⟨h3, g3, by simp, hlen, hR0⟩
  have HM3 := Lib.hid M3
  clear b3 h3 g3 M3 M2 h2 g2 hR0 hlen
  generalize w2.heap.size = k2 at *
  generalize (w2.alloc (.cells #[.string ⟨e1.1.name.toArray⟩, .string ⟨e1.1.lo.toArray⟩, .string ⟨e1.1.dm.toArray⟩] 23)) = w3 at *
  go_loopw [5] (fun v wr => ∃ (xs : List Ad) (a : Option Addr) (cap : Nat) (l : List UInt8) (b : Bool), v = .slice a xs.length cap ∧ OX (w.heap.size + 1) 23 3 wr (.slice a xs.length cap) xs.length (xs.flatMap aC) ∧ Hid (Max wr) ∧ Hid (LR w.heap.size s.length res (w.alloc (.cells #[.string ⟨s.toArray⟩, .bool false] 46)) wr xs l b)) (fun v wr => rl w.heap.size wr)
  case atStart => exact ⟨[e1.1], _, 1, _, _, rfl, O3, HM3, HR0⟩
  case round =>
    obtain ⟨xs, a, cap, l, b, rfl, hO, hMx, HR⟩ := hrel
    clear O3 HM3 HR0
    have hS := HR.out.1
    have CG := HR.out.2.1
    have HM := Lib.hid (rl_RS hS)
    have hx17 := HR.out.2.2.1
    have hlL := HR.out.2.2.2.1
    have c1 := fun w' h => take_any w.heap.size 44 l b w' h
    cases h44 : (tkm 44 l).1
    · have hE : res = (xs, l, b) := by obtain ⟨k, h1, h2⟩ := HR.out.2.2.2.2; exact lst_end h44 h1 h2
      rw [h44, tkm_same h44] at c1
      have HF : Hid (fin = if (b || !l.isEmpty) = true then ([], 90) else if 16 < xs.length then ([], 5) else (xs, 0)) := Lib.hid (by have := HL.out; rw [hE] at this; exact this)
      clear hE HR h44 HM hlL
      go_wp2_with fail
      refine (c1 _ hS).mono ?_; rintro e w4 ⟨rfl, h4, g4⟩
      have C4 := CG.trans g4
      have O4 := hO.chg g4 (Nat.lt_succ_self _)
      have BB : Below w.heap.size w w4 := B1.trans (C4.below)
      have q0 := h4.c0
      have q1 := h4.c1
      have HO := Lib.hid O4
      clear g4 CG hO hS c1 h4 C4 O4
      cases b
      · cases l with
        | nil =>
          have HF' : Hid (fin = if 16 < xs.length then ([], 5) else (xs, 0)) := HF
          clear HF
          by_cases h16 : 16 < xs.length
          · have h1 : (16 : Int) < xs.length := by omega
            have HG : Hid (fin = ([], 5)) := Lib.hid (by rw [HF'.out, if_pos h16])
            clear h16 HF' hx17
            go_wp2_with fail
            go_ret2
            rw [HG.out]
            exact LPost.nil BB
          · have h1 : ¬ (16 : Int) < xs.length := by omega
            have HG : Hid (fin = (xs, 0)) := Lib.hid (by rw [HF'.out, if_neg h16])
            clear h16 HF'
            go_wp2_with fail
            go_ret2
            rw [HG.out]
            obtain ⟨a', cap', e1', hcap, hcase⟩ := HO.out.cells
            injection e1' with y1 y2 y3
            subst y1 y3
            refine ⟨⟨_, rfl, a, cap, rfl, hcap, ?_⟩, BB⟩
            rcases hcase with ⟨_, h0⟩ | ⟨g, rfl, hB, hg, hcell⟩
            · exact .inl (List.length_eq_zero_iff.1 h0)
            · exact .inr ⟨g, rfl, by omega, hg, hcell⟩
        | cons c t =>
          have HG : Hid (fin = ([], 90)) := HF
          have he : (⟨(c :: t).toArray⟩ : ByteArray).toList.isEmpty = false := by rw [Lib.toList_data]; rfl
          clear HF hx17
          generalize (⟨(c :: t).toArray⟩ : ByteArray) = sv at *
          go_wp2_with fail
          go_ret2
          rw [HG.out]
          exact LPost.nil BB
      · have HG : Hid (fin = ([], 90)) := HF
        clear HF hx17
        go_wp2_with fail
        go_ret2
        rw [HG.out]
        exact LPost.nil BB
    · obtain ⟨t, rfl⟩ := tkm_true h44
      obtain ⟨k, hk1, hk2⟩ := HR.out.2.2.2.2
      have HN := Lib.hid (lst_go hk1 hk2)
      have ht : tkm 44 (44 :: t) = (true, t) := by simp [tkm]
      rw [ht] at c1
      have htl : t.length ≤ 1000000000 := by simp at hlL; omega
      have c2 := fun w' M h => element_any w.heap.size hw0 t b htl w' M h
      unfold AddrPost at c2
      have hel := len_elemR t b
      generalize elemR t b = er at *
      clear hk1 hk2 HR h44 ht htl
      go_wp2_with fail
      refine (c1 _ hS).mono ?_; rintro e w4 ⟨rfl, h4, g4⟩
      have C4 := CG.trans g4
      have O4 := hO.chg g4 (Nat.lt_succ_self _)
      have M4 := hMx.out.chg g4 hw0
      clear g4 CG hO hS c1 hMx
      go_wp2_with fail
      refine (c2 _ M4 h4).mono ?_; rintro e w5 ⟨rfl, h5, g5⟩
      have C5 := C4.trans g5
      have O5 := O4.chg g5 (Nat.lt_succ_self _)
      have M5 := M4.chg g5 hw0
      clear g5 C4 O4 h4 c2 M4
      unfold adV
      have h6 := rs_alloc h5 (.cells #[.string ⟨er.1.name.toArray⟩, .string ⟨er.1.lo.toArray⟩, .string ⟨er.1.dm.toArray⟩] 23)
      have C6 := chg_alloc C5 h5.lt (.cells #[.string ⟨er.1.name.toArray⟩, .string ⟨er.1.lo.toArray⟩, .string ⟨er.1.dm.toArray⟩] 23)
      have O6 := O5.alloc (.cells #[.string ⟨er.1.name.toArray⟩, .string ⟨er.1.lo.toArray⟩, .string ⟨er.1.dm.toArray⟩] 23)
      have M6 := max_alloc M5 (.cells #[.string ⟨er.1.name.toArray⟩, .string ⟨er.1.lo.toArray⟩, .string ⟨er.1.dm.toArray⟩] 23)
      have A6 := heap_alloc_new w5 (.cells #[.string ⟨er.1.name.toArray⟩, .string ⟨er.1.lo.toArray⟩, .string ⟨er.1.dm.toArray⟩] 23)
      have r0 := cellA A6 0 _ rfl
      have r1 := cellA A6 1 _ rfl
      have r2 := cellA A6 2 _ rfl
      clear A6 C5 O5 M5 h5
      by_cases h16 : xs.length ≤ 16
      · have h1 : ¬ (16 : Int) < xs.length := by omega
        have h1' : (xs.length : Int) ≤ 16 := by omega
        rw [if_pos h16] at HN
        have H6 := Lib.hid h6
        have HC6 := Lib.hid C6
        have HM6 := Lib.hid M6
        clear h6 C6 M6 hx17
        generalize hW : (w5.alloc (.cells #[.string ⟨er.1.name.toArray⟩, .string ⟨er.1.lo.toArray⟩, .string ⟨er.1.dm.toArray⟩] 23)) = w6 at *
        go_wp2_with (at_builtin; refine wpL_ox (t := 31) (z := .agg #[.string ByteArray.empty, .string ByteArray.empty, .string ByteArray.empty]) (bytes := 48) (news := aC er.1) Tryd.underlying31 infoA rfl (by decide) rfl rfl rfl O6 rfl rfl rfl (by intro u hu; simp [aC] at hu; rcases hu with rfl | rfl | rfl <;> rfl) (by unfold maxLen; omega) (by omega) ?_; intro v9 w9 O9 b9)
        obtain ⟨a9, cap9, rfl, _⟩ := O9.cells
        have h9 := H6.out.belowB b9 (Nat.lt_succ_self _)
        have C9 := HC6.out.belowB (by rw [hsz]; exact b9) (by rw [hsz]; omega)
        have M9 : Max w9 := by
          obtain ⟨m, hm⟩ := HM6.out
          exact ⟨m, by rw [b9.cell (p := ⟨0, 0, none⟩) (by show 0 < w.heap.size + 1; omega)]; exact hm⟩
        have m9 := rl_RS h9
        have O9' : OX (w.heap.size + 1) 23 3 w9 (.slice a9 (xs ++ [er.1]).length cap9) (xs ++ [er.1]).length ((xs ++ [er.1]).flatMap aC) := by
          rw [List.length_append, List.flatMap_append]; simpa using O9
        have H9 := Lib.hid h9
        have HC9 := Lib.hid C9
        have HM9 := Lib.hid M9
        clear h9 C9 M9 O9 b9 O6
        go_wp2_with fail
        refine ⟨⟨xs ++ [er.1], a9, cap9, er.2.1, er.2.2, by rw [List.length_append]; rfl, O9', HM9, Lib.hid ⟨H9.out, HC9.out, ?_, ?_, HN.out⟩⟩, ?_⟩
        · rw [List.length_append]; simp; omega
        · simp at hlL; omega
        · rw [m9, HM.out]; simp; omega
      · have h1 : ¬ (xs.length : Int) ≤ 16 := by omega
        rw [if_neg h16] at HN
        have H6 := Lib.hid h6
        have HC6 := Lib.hid C6
        have HM6 := Lib.hid M6
        have m6 := rl_RS h6
        clear h6 C6 M6
        go_wp2_with fail
        refine ⟨⟨xs, a, cap, er.2.1, er.2.2, rfl, O6, HM6, Lib.hid ⟨H6.out, HC6.out, hx17, ?_, HN.out⟩⟩, ?_⟩
        · simp at hlL; omega
        · rw [m6, HM.out]; simp; omega
end Go.Proofs.YtgdcdknmijeioaaDoor
