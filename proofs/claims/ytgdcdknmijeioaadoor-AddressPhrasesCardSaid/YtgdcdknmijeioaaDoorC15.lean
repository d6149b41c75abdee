/- reader: phrase. -/
import Derived.Test.YtgdcdknmijeioaaDoorC14
set_option linter.unusedSimpArgs false
set_option linter.unusedVariables false
namespace Go.Proofs.YtgdcdknmijeioaaDoor
open Go.RowKit Go.Shelf

theorem join_any {B : Nat} {w : World} {a : Option Addr} {n cap : Nat} (ws : List (List UInt8)) (h : OX B 9 1 w (.slice a n cap) n (ws.map sV)) (hn : n = ws.length) (h1 : n ≤ 140737488355328) (h2 : (Lib.join ws [32]).length ≤ 140737488355328) :
    Calls Tryd.prog 64 #[.slice a n cap, .string ⟨#[32]⟩] w fun e w' => e = .returned (.string ⟨(Lib.join ws [32]).toArray⟩) ∧ Below w.heap.size w w' := by
  obtain ⟨a', cap', e1, hc, hcase⟩ := h.cells
  injection e1 with q1 q2 q3
  subst q1 q3
  rcases hcase with ⟨rfl, h0⟩ | ⟨g, rfl, hB, hg, hcell⟩
  · have hw : ws = [] := List.length_eq_zero_iff.1 (by omega)
    subst hw
    rw [h0]
    refine (Tryd.strings_Join_none none cap ⟨#[32]⟩ w).mono ?_
    rintro e w' ⟨rfl, rfl⟩
    exact ⟨rfl, Below.refl _ _⟩
  · have hl : (ws.map (fun l => (⟨l.toArray⟩ : ByteArray))).length = n := by simp [hn]
    have hm : (ws.map (fun l => (⟨l.toArray⟩ : ByteArray))).map (·.data.toList) = ws := by
      rw [List.map_map]
      conv => rhs; rw [← List.map_id ws]
      apply List.map_congr_left
      intro x _
      rfl
    have c := Tryd.strings_Join g 0 cap (ws.map (fun l => (⟨l.toArray⟩ : ByteArray))) ⟨#[32]⟩ w (fun j x hj => by
      rw [Nat.zero_add]
      refine hcell j _ ?_
      rw [List.getElem?_map] at hj ⊢
      obtain ⟨y, hy, rfl⟩ := Option.map_eq_some_iff.1 hj
      rw [hy]
      rfl) hg (by rw [hl]; exact h1) (by rw [hl]; exact hc) (by rw [hm]; exact h2)
    rw [hl, hm] at c
    exact c
theorem eqIn_func (w : World) (d : Nat) (f : Fn) (a c : Array Value) : (Op.equalIn (d + 1) 63 (.func f a c) .nilFunc).run Tryd.prog w = .ok false w := by
  simp [Op.equalIn, run_underlying Tryd.underlying63]
theorem eqIn_nilFunc (w : World) (d : Nat) : (Op.equalIn (d + 1) 63 .nilFunc .nilFunc).run Tryd.prog w = .ok true w := by
  simp [Op.equalIn, run_underlying Tryd.underlying63]
theorem eq_func (w : World) (f : Fn) (a c : Array Value) : (Op.equal 63 (.func f a c) .nilFunc).run Tryd.prog w = .ok false w := eqIn_func w 9999 f a c
theorem eq_nilFunc (w : World) : (Op.equal 63 .nilFunc .nilFunc).run Tryd.prog w = .ok true w := eqIn_nilFunc w 9999
theorem neq_func (w : World) (f : Fn) (a c : Array Value) : (binOp .neq 63 (.func f a c) .nilFunc).run Tryd.prog w = .ok (.bool true) w := by
  simp only [binOp]
  simp [eq_func]
theorem neq_nilFunc (w : World) : (binOp .neq 63 .nilFunc .nilFunc).run Tryd.prog w = .ok (.bool false) w := by
  simp only [binOp]
  simp [eq_nilFunc]
theorem tkm_true {c : UInt8} {l : List UInt8} (h : (tkm c l).1 = true) : ∃ t, l = c :: t := by
  cases l with
  | nil => simp [tkm] at h
  | cons x t =>
    simp only [tkm] at h
    split at h
    · rename_i e; exact ⟨t, by rw [e]⟩
    · simp at h
theorem tkm_false {c x : UInt8} {t : List UInt8} (h : (tkm c (x :: t)).1 = false) : ¬ x = c := by
  simp only [tkm] at h
  split at h
  · simp at h
  · assumption
def rl (r : Nat) (w : World) : Nat := match w.cell? ⟨r, 0, none⟩ with | some (.string s) => s.size | _ => 0
theorem rl_RS {r : Nat} {w : World} {l : List UInt8} {b : Bool} (h : RS w r l b) : rl r w = l.length := by
  unfold rl
  rw [h.c0]
  rfl
def PR (r L : Nat) (res : List (List UInt8) × List UInt8 × Bool) (w0 w : World) (ws : List (List UInt8)) (l : List UInt8) (b : Bool) : Prop :=
  RS w r l b ∧ Chg r w0 w ∧ ws.length + l.length ≤ L ∧ ∃ k, l.length < k ∧ phr k ws l b = res
theorem phr_quo {k : Nat} {ws : List (List UInt8)} {t : List UInt8} {b : Bool} {res : List (List UInt8) × List UInt8 × Bool} (hk : (34 :: t).length < k) (h : phr k ws (34 :: t) b = res) :
    ∃ k', (((quR t b).2.1).dropWhile blB).length < k' ∧ phr k' (ws ++ [(quR t b).1]) ((quR t b).2.1.dropWhile blB) (quR t b).2.2 = res := by
  cases k with
  | zero => omega
  | succ k =>
    simp only [phr, if_true] at h
    refine ⟨k, ?_, h⟩
    have h1 := len_dropWhile blB (quR t b).2.1
    have h2 := len_quR t b
    simp at hk
    omega
theorem phr_pla {k : Nat} {ws : List (List UInt8)} {c : UInt8} {t : List UInt8} {b : Bool} {res : List (List UInt8) × List UInt8 × Bool} (hc : ¬ c = 34) (hp : 0 < ((c :: t).takeWhile wbB).length) (hk : (c :: t).length < k) (h : phr k ws (c :: t) b = res) :
    ((((c :: t).dropWhile wbB).dropWhile blB).length < (c :: t).length) ∧ ∃ k', (((c :: t).dropWhile wbB).dropWhile blB).length < k' ∧ phr k' (ws ++ [(c :: t).takeWhile wbB]) (((c :: t).dropWhile wbB).dropWhile blB) b = res := by
  have hw : wbB c = true := by
    rw [List.takeWhile_cons] at hp
    split at hp
    · assumption
    · simp at hp
  have h4 : (((c :: t).dropWhile wbB).dropWhile blB).length < (c :: t).length := by
    have h1 := len_dropWhile blB ((c :: t).dropWhile wbB)
    have h2 := congrArg List.length (List.takeWhile_append_dropWhile (p := wbB) (l := c :: t))
    rw [List.length_append] at h2
    omega
  refine ⟨h4, ?_⟩
  cases k with
  | zero => omega
  | succ k =>
    rw [phr, if_neg hc, if_pos hw] at h
    exact ⟨k, by omega, h⟩
theorem phr_end {k : Nat} {ws : List (List UInt8)} {l : List UInt8} {b : Bool} {res : List (List UInt8) × List UInt8 × Bool} (h1 : (tkm 34 l).1 = false) (hp : ¬ 0 < (l.takeWhile wbB).length) (hk : l.length < k) (h : phr k ws l b = res) : res = (ws, l, b) := by
  cases k with
  | zero => omega
  | succ k =>
    cases l with
    | nil => rw [← h, phr]
    | cons c t =>
      have hw : ¬ wbB c = true := by
        intro e
        rw [List.takeWhile_cons, if_pos e] at hp
        simp at hp
      rw [← h, phr, if_neg (tkm_false h1), if_neg hw]
def PhPost (r : Nat) (res : List UInt8 × List UInt8 × Bool) (w : World) (e : Ending) (w' : World) : Prop := e = .returned (.string ⟨res.1.toArray⟩) ∧ RS w' r res.2.1 res.2.2 ∧ Chg r w w'
set_option maxHeartbeats 4000000 in
theorem phrase_any (r : Nat) (l : List UInt8) (b : Bool) (hl : l.length ≤ 1000000000) (w : World) (h : RS w r l b) :
    Calls Tryd.prog 54 #[.pointer (some ⟨r, 0, none⟩)] w (PhPost r (phraseR l b) w) := by
  have hrl := h.lt
  have hlen := len_phr (l.length + 1) [] l b
  have hP : Hid (PR r l.length (phr (l.length + 1) [] l b) w w [] l b) := Lib.hid ⟨h, Chg.refl _ _, by simp, l.length + 1, by omega, rfl⟩
  have hO : OX w.heap.size 9 1 w (.slice none 0 0) 0 (([] : List (List UInt8)).map sV) := ⟨World.ownsRow_nil w _ _ _, Nat.le_refl _⟩
  have hw0 := wordReader_any r l b (by omega) w h
  unfold PhPost phraseR
  generalize phr (l.length + 1) [] l b = res at *
  go_enter Tryd.func54, Tryd.ntmps54
  go_wp2_with fail
  refine hw0.mono ?_; rintro e w1 ⟨rfl, rfl⟩
  go_wp2_with fail
  go_loopw [3, 4] (fun v fv wr => ∃ (ws : List (List UInt8)) (a : Option Addr) (cap : Nat) (l' : List UInt8) (b' : Bool), v = .slice a ws.length cap ∧ fv = wrV r l' ∧ OX w1.heap.size 9 1 wr (.slice a ws.length cap) ws.length (ws.map sV) ∧ Hid (PR r l.length res w1 wr ws l' b')) (fun v fv wr => rl r wr)
  case atStart => exact ⟨[], none, 0, l, b, rfl, rfl, hO, hP⟩
  case round =>
    obtain ⟨ws, a, cap, l', b', rfl, rfl, hO', HR⟩ := hrel
    clear hO hP hw0 h
    have hS := HR.out.1
    have HM := Lib.hid (rl_RS hS)
    have CG := HR.out.2.1
    have hbd := HR.out.2.2.1
    have hwl : ws.length ≤ 1000000000 := by omega
    cases h34 : (tkm 34 l').1
    · by_cases hp : 0 < (l'.takeWhile wbB).length
      · have hv : wrV r l' = .func (.func 71) #[.pointer (some ⟨r, 0, none⟩)] #[] := by unfold wrV; rw [h34, if_neg (by decide), if_pos hp]
        rw [hv]
        obtain ⟨k, hk1, hk2⟩ := HR.out.2.2.2
        cases l' with
        | nil => simp at hp
        | cons c t =>
          obtain ⟨hdec, hnx⟩ := phr_pla (tkm_false h34) hp hk1 hk2
          have HN := Lib.hid hnx
          have c1 := fun w h => plain_any r (c :: t) b' (by omega) w h
          have c2 := fun w h => blanks_any r ((c :: t).dropWhile wbB) b' (by have := len_dropWhile wbB (c :: t); omega) w h
          generalize ((c :: t).dropWhile wbB).dropWhile blB = l2 at *
          have c3 := fun w h => wordReader_any r l2 b' (by omega) w h
          clear hv hk1 hk2 hnx hp h34 HR
          have nf := neq_func wr (.func 71) #[.pointer (some ⟨r, 0, none⟩)] #[]
          go_wp2_with fail
          refine (c1 _ hS).mono ?_; rintro e w3 ⟨rfl, h3, g3⟩
          have C3 := CG.trans g3
          have O3 := hO'.chg g3 hrl
          have H3 := Lib.hid h3
          have C3' := Lib.hid C3
          clear g3 CG hO' hS h3 C3 c1
          go_wp2_with (at_builtin; refine wpL_ox (t := 36) (z := .string ByteArray.empty) (bytes := 16) (news := [sV ((c :: t).takeWhile wbB)]) Tryd.underlying36 infoS rfl (by decide) rfl rfl rfl O3 rfl rfl rfl (by intro u hu; simp at hu; subst hu; rfl) (by unfold maxLen; omega) (by omega) ?_; intro v4 w4 O4 b4)
          obtain ⟨a4, cap4, rfl, _⟩ := O4.cells
          have h4 := H3.out.belowB b4 hrl
          have C4 := C3'.out.belowB b4 (Nat.le_of_lt hrl)
          clear H3 C3' O3 b4
          go_wp2_with fail
          refine (c2 _ h4).mono ?_; rintro e w5 ⟨rfl, h5, g5⟩
          have C5 := C4.trans g5
          have O5 := O4.chg g5 hrl
          clear g5 C4 O4 h4 c2
          go_wp2_with fail
          refine (c3 _ h5).mono ?_; rintro e w6 ⟨rfl, hw6⟩
          rw [hw6]
          clear hw6 c3
          have m5 := rl_RS h5
          have H5 := Lib.hid h5
          have C5' := Lib.hid C5
          have O5' : OX w1.heap.size 9 1 w5 (.slice a4 (ws ++ [(c :: t).takeWhile wbB]).length cap4) (ws ++ [(c :: t).takeWhile wbB]).length ((ws ++ [(c :: t).takeWhile wbB]).map sV) := by
            rw [List.length_append, List.map_append]; exact O5
          clear h5 C5 O5
          go_wp2_with fail
          refine ⟨⟨ws ++ [(c :: t).takeWhile wbB], a4, cap4, l2, b', by rw [List.length_append]; rfl, rfl, O5', Lib.hid ⟨H5.out, C5'.out, ?_, HN.out⟩⟩, ?_⟩
          · rw [List.length_append]; simp at hdec hbd ⊢; omega
          · rw [m5, HM.out]; exact hdec
      · have HE : Hid (res = (ws, l', b')) := Lib.hid (by obtain ⟨k, h1, h2⟩ := HR.out.2.2.2; exact phr_end h34 hp h1 h2)
        have hv : wrV r l' = .nilFunc := by unfold wrV; rw [h34, if_neg (by decide), if_neg hp]
        rw [hv]
        have hj : (Lib.join ws [32]).length ≤ 140737488355328 := by
          have h1 := hlen.2.1
          rw [HE.out] at h1
          have h2 : (Lib.join ws [32]).length ≤ Lib.lens ws + ws.length := by
            cases ws with
            | nil => simp [Lib.join, Lib.lens, List.intercalate]
            | cons x rr =>
              rw [Lib.join_cons, List.length_append, Lib.joinTail_length]
              simp [Lib.lens]
              omega
          simp [Lib.lens] at h1 h2 ⊢
          omega
        have c1 := fun w2 O => join_any (B := w1.heap.size) (w := w2) (a := a) (cap := cap) ws O rfl (by omega) hj
        have nf := neq_nilFunc wr
        have hdec : (decide ((0 : Int) < (ws.length : Int))) = decide (0 < ws.length) := by simp
        clear HR HM hbd hp h34 hv hlen
        go_wp2_with fail
        refine (need_any r _ _ _ _ hS).mono ?_; rintro e w3 ⟨rfl, h3, g3⟩
        have C3 := CG.trans g3
        have O3 := hO'.chg g3 hrl
        have H3 := Lib.hid h3
        have C3' := Lib.hid C3
        clear g3 CG hO' hS h3 C3
        go_wp2_with fail
        refine (c1 _ O3).mono ?_; rintro e w4 ⟨rfl, b4⟩
        go_wp2_with fail
        go_ret
        rw [HE.out]
        refine ⟨rfl, ?_, ?_⟩
        · have := H3.out.below b4
          simpa using this
        · exact C3'.out.trans (Chg.of_below b4 (Nat.le_of_lt H3.out.lt))
    · obtain ⟨t, rfl⟩ := tkm_true h34
      have hv : wrV r (34 :: t) = .func (.func 70) #[.pointer (some ⟨r, 0, none⟩)] #[] := by unfold wrV; rw [h34, if_pos rfl]
      rw [hv]
      obtain ⟨k, hk1, hk2⟩ := HR.out.2.2.2
      have HN := Lib.hid (phr_quo hk1 hk2)
      have htl : t.length ≤ 1000000000 := by simp at hbd; omega
      have hq := len_quR t b'
      have hdw := len_dropWhile blB (quR t b').2.1
      have c1 := fun w h => quoted_any r t b' htl w h
      have c2 := fun w h => blanks_any r (quR t b').2.1 (quR t b').2.2 (by omega) w h
      unfold QP at c1
      generalize (quR t b').2.1.dropWhile blB = l2 at *
      generalize (quR t b').1 = wd at *
      generalize (quR t b').2.1 = l1 at *
      generalize (quR t b').2.2 = b2 at *
      have c3 := fun w h => wordReader_any r l2 b2 (by omega) w h
      have hdec : l2.length < (34 :: t).length := by simp; omega
      have nf := neq_func wr (.func 70) #[.pointer (some ⟨r, 0, none⟩)] #[]
      clear hv hk1 hk2 h34 HR hq hdw htl
      go_wp2_with fail
      refine (c1 _ hS).mono ?_; rintro e w3 ⟨rfl, h3, g3⟩
      have C3 := CG.trans g3
      have O3 := hO'.chg g3 hrl
      have H3 := Lib.hid h3
      have C3' := Lib.hid C3
      clear g3 CG hO' hS h3 C3 c1 nf
      go_wp2_with (at_builtin; refine wpL_ox (t := 36) (z := .string ByteArray.empty) (bytes := 16) (news := [sV wd]) Tryd.underlying36 infoS rfl (by decide) rfl rfl rfl O3 rfl rfl rfl (by intro u hu; simp at hu; subst hu; rfl) (by unfold maxLen; omega) (by omega) ?_; intro v4 w4 O4 b4)
      obtain ⟨a4, cap4, rfl, _⟩ := O4.cells
      have h4 := H3.out.belowB b4 hrl
      have C4 := C3'.out.belowB b4 (Nat.le_of_lt hrl)
      clear H3 C3' O3 b4
      go_wp2_with fail
      refine (c2 _ h4).mono ?_; rintro e w5 ⟨rfl, h5, g5⟩
      have C5 := C4.trans g5
      have O5 := O4.chg g5 hrl
      clear g5 C4 O4 h4 c2
      go_wp2_with fail
      refine (c3 _ h5).mono ?_; rintro e w6 ⟨rfl, hw6⟩
      rw [hw6]
      clear hw6 c3
      have m5 := rl_RS h5
      have H5 := Lib.hid h5
      have C5' := Lib.hid C5
      have O5' : OX w1.heap.size 9 1 w5 (.slice a4 (ws ++ [wd]).length cap4) (ws ++ [wd]).length ((ws ++ [wd]).map sV) := by
        rw [List.length_append, List.map_append]; exact O5
      clear h5 C5 O5
      go_wp2_with fail
      refine ⟨⟨ws ++ [wd], a4, cap4, l2, b2, by rw [List.length_append]; rfl, rfl, O5', Lib.hid ⟨H5.out, C5'.out, ?_, HN.out⟩⟩, ?_⟩
      · rw [List.length_append]; simp at hdec hbd ⊢; omega
      · rw [m5, HM.out]; exact hdec
end Go.Proofs.YtgdcdknmijeioaaDoor
