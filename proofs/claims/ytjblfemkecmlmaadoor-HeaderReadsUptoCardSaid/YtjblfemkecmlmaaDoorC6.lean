/- Rows of fields of a call's own; reader: params. -/
import Derived.Test.YtjblfemkecmlmaaDoorC5
set_option linter.unusedSimpArgs false
set_option linter.unusedVariables false
namespace Go.Proofs.YtjblfemkecmlmaaDoor
open Go.RowKit Go.Shelf

/-- A slice of a call's own: its cells. -/
structure OX (B : Nat) (e : TypeId) (sz : Nat) (w : World) (v : Value) (n : Nat) (xs : List Value) : Prop where
  own : w.ownsRow B e sz v n xs
  size : B ≤ w.heap.size
section
variable {B : Nat} {e : TypeId} {sz : Nat} {w w' : World} {v : Value} {n : Nat} {xs : List Value}
theorem OX.below (h : OX B e sz w v n xs) (hb : Below w.heap.size w w') : OX B e sz w' v n xs :=
  ⟨ownsRow_keep h.own (fun g _ hg => hb.block g hg), Nat.le_trans h.size hb.size⟩
theorem OX.chg {r : Nat} (h : OX B e sz w v n xs) (hc : Chg r w w') (hr : r < B) : OX B e sz w' v n xs :=
  ⟨ownsRow_keep h.own (fun g hB hg => hc.other g hg (by omega)), Nat.le_trans h.size hc.below.size⟩
theorem OX.alloc (h : OX B e sz w v n xs) (o : Obj) : OX B e sz (w.alloc o) v n xs := h.below ((Below.refl _ _).alloc (Nat.le_refl _) o)
theorem OX.cells (h : OX B e sz w v n xs) : ∃ a cap, v = .slice a n cap ∧ n ≤ cap ∧ ((a = none ∧ n = 0) ∨ ∃ g, a = some ⟨g, 0, none⟩ ∧ B ≤ g ∧ g < w.heap.size ∧ ∀ j u, xs[j]? = some u → w.cell? ⟨g, j, none⟩ = some u) := by
  rcases h.own.2 with ⟨e1, e2⟩ | ⟨g, cap', cur, e1, e2, e3, e4, e5, e6, e7⟩
  · exact ⟨none, 0, by rw [e1, e2], by omega, .inl ⟨rfl, e2⟩⟩
  · refine ⟨_, cap', e1, e4, .inr ⟨g, rfl, e2, (Array.getElem?_eq_some_iff.1 e3).1, fun j u hj => ?_⟩⟩
    subst e1
    have hg := h.own.cells (g := g) rfl j u hj
    have hadd : (⟨g, 0, none⟩ : Addr).add j = ⟨g, 0 + j, none⟩ := by unfold Addr.add; split <;> simp_all
    rw [hadd, Nat.zero_add] at hg
    exact hg
end
section
variable {ops : Array Oper} {rest : List Oper} {o : Oper} {act : Act} {Q : Exit → Act → World → Prop}
theorem wpL_ox {B : Nat} {w : World} {v : Value} {e : TypeId} {sz n : Nat} {xs news : List Value} {s x : Operand} {t : TypeId} {z : Value} {bytes : Nat} {cs : Array Value}
    (ht : Tryd.prog.underlying t = some (.slice e)) (hi : (Tryd.prog.info? e).map (fun i => (i.zero, i.size, i.bytes)) = some (some z, sz, bytes)) (hzs : z.cells.size = sz) (hsz : 0 < sz)
    (hgd : o.guard = none) (ho : o.op = .call { callee := .builtin .append, args := #[s, x], argTypes := #[t, t] })
    (hs : act.eval s = v) (hob : OX B e sz w v n xs) (hx : act.eval x = .slice (some ⟨w.heap.size, 0, none⟩) 1 1) (hc : cs.toList = news) (hnl : news.length = sz) (h1 : ∀ u ∈ news, u.oneCell' = true) (hn : n + 1 ≤ maxLen) (hb : (n + 1) * bytes ≤ 140737488355328)
    (h : ∀ v' w', OX B e sz w' v' (n + 1) (xs ++ news) → Below B w w' → wpList Tryd.prog ops Q rest (act.put o.dst v') w') :
    wpList Tryd.prog ops Q (o :: rest) act (w.alloc (.cells cs e)) := by
  obtain ⟨i0, hi0, hi1⟩ := Option.map_eq_some_iff.1 hi
  have hz0 : i0.zero = some z := congrArg (·.1) hi1
  have hz1 : i0.size = sz := congrArg (·.2.1) hi1
  have hz2 : i0.bytes = bytes := congrArg (·.2.2) hi1
  refine wpList_append_own _ hgd s x t ho B e i0 z sz bytes ht hi0 hz0 hz1 hz2 hzs hsz v n xs hs (hob.alloc _).own ⟨w.heap.size, 0, none⟩ 1 1 news hx (by rw [hnl, Nat.one_mul]) ?_ h1 hn hb ?_ ?_
  · intro j u hj
    have hadd : (⟨w.heap.size, 0, none⟩ : Addr).add j = ⟨w.heap.size, j, none⟩ := by unfold Addr.add; split <;> simp_all
    rw [hadd, cell_of_row _ _ _ _ _ _ (heap_alloc_new w _)]
    rw [← hc] at hj
    simpa using hj
  · have := hob.size; simp; omega
  · intro v' w' hown hg _
    have b1 : Below B w (w.alloc (.cells cs e)) := (Below.refl _ _).alloc hob.size _
    have b2 := b1.grown hg (hob.alloc (.cells cs e)).size (fun k hk => (hob.own.lt k hk).1)
    exact h v' w' ⟨hown, Nat.le_trans hob.size b2.size⟩ b2
end
theorem infoF : (Tryd.prog.info? 28).map (fun i => (i.zero, i.size, i.bytes)) = some (some (.agg #[.string ByteArray.empty, .string ByteArray.empty]), 2, 32) := by kernel_rfl
def sV (l : List UInt8) : Value := .string ⟨l.toArray⟩
def fC (f : Fld) : List Value := [sV f.1, sV f.2]
theorem fC_len (xs : List Fld) : (xs.flatMap fC).length = xs.length * 2 := by
  induction xs with
  | nil => rfl
  | cons a t ih => rw [List.flatMap_cons, List.length_append, ih]; simp [fC]; omega
/-- The slice v holds the fields F. -/
def FsAt (w : World) (v : Value) (F : List Fld) : Prop :=
  ∃ a cap, v = .slice a F.length cap ∧ F.length ≤ cap ∧ (F = [] ∨ ∃ g off, a = some ⟨g, off, none⟩ ∧ g < w.heap.size ∧ ∀ j u, (F.flatMap fC)[j]? = some u → w.cell? ⟨g, off + j, none⟩ = some u)
theorem FsAt.below {w w' : World} {v : Value} {F : List Fld} (h : FsAt w v F) (hb : Below w.heap.size w w') : FsAt w' v F := by
  obtain ⟨a, cap, e, hc, h⟩ := h
  refine ⟨a, cap, e, hc, ?_⟩
  rcases h with h | ⟨g, off, e, hg, h⟩
  · exact .inl h
  · exact .inr ⟨g, off, e, Nat.lt_of_lt_of_le hg hb.size, fun j u hj => by rw [hb.cell (p := ⟨g, off + j, none⟩) hg]; exact h j u hj⟩
theorem OX.fs {B : Nat} {w : World} {v : Value} {F : List Fld} (h : OX B 28 2 w v F.length (F.flatMap fC)) : FsAt w v F := by
  obtain ⟨a, cap, rfl, hc, h⟩ := h.cells
  refine ⟨a, cap, rfl, hc, ?_⟩
  rcases h with ⟨_, h⟩ | ⟨g, e, _, hg, h⟩
  · exact .inl (List.length_eq_zero_iff.1 h)
  · exact .inr ⟨g, 0, e, hg, fun j u hj => by rw [Nat.zero_add]; exact h j u hj⟩
/-- What is left to do: the reader's bytes, and one if it is not bad. -/
def qm (r : Nat) (w : World) : Nat := (match w.cell? ⟨r, 0, none⟩ with | some (.string s) => s.size | _ => 0) + (match w.cell? ⟨r, 1, none⟩ with | some (.bool b) => (if b then 0 else 1) | _ => 0)
theorem qm_RS {r : Nat} {w : World} {l : List UInt8} {b : Bool} (h : RS w r l b) : qm r w = l.length + (if b then 0 else 1) := by
  unfold qm
  rw [h.c0, h.c1]
  rfl
/-- How much is left. -/
def nb (s : Rd) : Nat := s.1.length + (if s.2 then 0 else 1)
def PR (r L : Nat) (res : List Fld × Rd) (w0 w : World) (F : List Fld) (l : List UInt8) (b : Bool) : Prop :=
  RS w r l b ∧ Chg r w0 w ∧ F.length + l.length + (if b then 0 else 1) ≤ L ∧ ∃ k, l.length + (if b then 0 else 1) ≤ k ∧ parsR k (l, b) F = res
def PPost (r : Nat) (res : List Fld × Rd) (w : World) (e : Ending) (w' : World) : Prop := (∃ v, e = .returned v ∧ FsAt w' v res.1) ∧ RS w' r res.2.1 res.2.2 ∧ Chg r w w'
theorem parsR_stop {k : Nat} {l : List UInt8} {b : Bool} {F : List Fld} (h : b = true ∨ l = []) : parsR k (l, b) F = (F, (l, b)) := by
  cases k with
  | zero => rfl
  | succ k =>
    unfold parsR
    rw [if_pos]
    rcases h with h | h <;> simp [h]
theorem Chg.belowB {r B : Nat} {w0 w w' : World} (h : Chg r w0 w) (hb : Below B w w') (hB : w0.heap.size ≤ B) (hr : r ≤ w0.heap.size) : Chg r w0 w' :=
  ⟨h.below.trans (hb.mono (by omega)), fun k hk hkr => (hb.block k (by omega)).trans (h.other k hk hkr)⟩
theorem mark_rd (c : UInt8) (r : Nat) (s : Rd) (hl : s.1.length ≤ 9223372036854775807) (w : World) (h : RS w r s.1 s.2) :
    Calls Tryd.prog 54 #[.pointer (some ⟨r, 0, none⟩), .string ⟨#[c]⟩] w fun e w' => e = .returned (.tuple #[]) ∧ RS w' r (mkR c s).1 (mkR c s).2 ∧ Chg r w w' := mark_any c r s.1 s.2 hl w h
theorem token_rd (r : Nat) (s : Rd) (hl : s.1.length ≤ 9223372036854775807) (w : World) (h : RS w r s.1 s.2) :
    Calls Tryd.prog 53 #[.pointer (some ⟨r, 0, none⟩)] w (TPost r (tkR s) w) := token_any r s.1 s.2 hl w h
theorem value_rd (r : Nat) (s : Rd) (hl : s.1.length ≤ 70368744177000) (w : World) (h : RS w r s.1 s.2) :
    Calls Tryd.prog 55 #[.pointer (some ⟨r, 0, none⟩)] w (TPost r (vlR s) w) := value_any r s.1 s.2 hl w h
set_option maxHeartbeats 4000000 in
theorem params_any (r : Nat) (l0 : List UInt8) (b0 : Bool) (hl : l0.length ≤ 2147483648000) (w : World) (h : RS w r l0 b0) :
    Calls Tryd.prog 28 #[.pointer (some ⟨r, 0, none⟩)] w (PPost r (parsR (l0.length + 1) (l0, b0) []) w) := by
  have hrl := h.lt
  have HR0 : Hid (PR r (l0.length + 1) (parsR (l0.length + 1) (l0, b0) []) w w [] l0 b0) := Lib.hid ⟨h, Chg.refl _ _, by simp; split <;> omega, l0.length + 1, by split <;> omega, rfl⟩
  generalize parsR (l0.length + 1) (l0, b0) [] = res at *
  have O0 : OX w.heap.size 28 2 w (.slice none 0 0) ([] : List Fld).length (([] : List Fld).flatMap fC) := ⟨World.ownsRow_nil w _ _ _, Nat.le_refl _⟩
  unfold PPost
  go_enter Tryd.func28, Tryd.ntmps28
  go_wp2_with fail
  go_loopw [3] (fun v wr => ∃ (F : List Fld) (a : Option Addr) (cap : Nat) (l : List UInt8) (b : Bool), v = .slice a F.length cap ∧ OX w.heap.size 28 2 wr (.slice a F.length cap) F.length (F.flatMap fC) ∧ Hid (PR r (l0.length + 1) res w wr F l b)) (fun v wr => qm r wr)
  case atStart => exact ⟨[], none, 0, l0, b0, rfl, O0, HR0⟩
  case round =>
    obtain ⟨F, a, cap, l, b, rfl, hO, HR⟩ := hrel
    clear HR0 O0 h
    have hS := HR.out.1
    have hC := HR.out.2.1
    have hlen := HR.out.2.2.1
    have q0 := hS.c0
    have q1 := hS.c1
    have HM := Lib.hid (qm_RS hS)
    by_cases hend : b = true ∨ l = []
    · have HE : Hid (res = (F, (l, b))) := Lib.hid (by obtain ⟨k, _, e⟩ := HR.out.2.2.2; rw [← e]; exact parsR_stop hend)
      have HS := Lib.hid hS
      have HC := Lib.hid hC
      have HF := Lib.hid hO.fs
      clear HR hS hC hlen HM
      rcases hend with rfl | rfl
      · go_wp2_with fail
        go_ret
        rw [HE.out]
        exact ⟨⟨_, rfl, HF.out⟩, HS.out, HC.out⟩
      · cases b
        · go_wp2_with fail
          go_ret
          rw [HE.out]
          exact ⟨⟨_, rfl, HF.out⟩, HS.out, HC.out⟩
        · go_wp2_with fail
          go_ret
          rw [HE.out]
          exact ⟨⟨_, rfl, HF.out⟩, HS.out, HC.out⟩
    · obtain ⟨rfl, hne⟩ : b = false ∧ l ≠ [] := by
        cases b
        · exact ⟨rfl, fun e => hend (.inr e)⟩
        · exact absurd (.inl rfl) hend
      have HK : Hid (∃ k, nb (parR (l, false)).2 ≤ k ∧ parsR k (parR (l, false)).2 (F ++ [(parR (l, false)).1]) = res) := by
        obtain ⟨k, hk, e⟩ := HR.out.2.2.2
        obtain ⟨k, rfl⟩ : ∃ k', k = k' + 1 := ⟨k - 1, by simp at hk; omega⟩
        refine Lib.hid ⟨k, ?_, ?_⟩
        · have h1 := par_len (l, false)
          have h2 := par_less (l, false)
          simp at hk h1 h2
          unfold nb
          cases hb : (parR (l, false)).2.2
          · have := h2 hb; simp; omega
          · simp; omega
        · rw [← e]
          conv => rhs; unfold parsR
          rw [if_neg (by simpa using hne)]
      have hlen2 : Hid (F.length + 1 + nb (parR (l, false)).2 ≤ l0.length + 1) := by
        have h1 := par_len (l, false)
        have h2 := par_less (l, false)
        simp at hlen h1 h2
        refine Lib.hid ?_
        unfold nb
        cases hb : (parR (l, false)).2.2
        · have := h2 hb; simp; omega
        · simp; omega
      have hdec : Hid (nb (parR (l, false)).2 < l.length + 1) := by
        have h1 := par_len (l, false)
        have h2 := par_less (l, false)
        simp at h1 h2
        refine Lib.hid ?_
        unfold nb
        cases hb : (parR (l, false)).2.2
        · have := h2 hb; simp; omega
        · simp; omega
      have hFl : F.length ≤ l0.length + 1 := by omega
      have l1 := mk_len 59 (l, false)
      have l2 := tk_len (mkR 59 (l, false))
      have l3 := mk_len 61 (tkR (mkR 59 (l, false))).2
      have hb2 : l.length ≤ 2147483648000 := by simp at hlen; omega
      have hne2 : (⟨l.toArray⟩ : ByteArray).toList.isEmpty = false := by
        rw [Lib.toList_data]
        cases l with
        | nil => exact absurd rfl hne
        | cons c t => rfl
      have c1 := fun w h => mark_rd 59 r (l, false) (by dsimp only; omega) w h
      have c2 := fun w h => token_rd r (mkR 59 (l, false)) (by simp at l1; omega) w h
      have c3 := fun w h => mark_rd 61 r (tkR (mkR 59 (l, false))).2 (by simp at l1; omega) w h
      have c4 := fun w h => value_rd r (mkR 61 (tkR (mkR 59 (l, false))).2) (by simp at l1; omega) w h
      unfold parR at HK hlen2 hdec
      dsimp only at HK hlen2 hdec
      unfold TPost at c2 c4
      generalize mkR 59 (l, false) = x1 at *
      generalize tkR x1 = x2 at *
      generalize mkR 61 x2.2 = x3 at *
      generalize vlR x3 = x4 at *
      have HS := Lib.hid hS
      clear HR hend hne l1 l2 l3 hb2 hlen
      generalize (⟨l.toArray⟩ : ByteArray) = sv at *
      go_wp2_with fail
      refine (c1 _ HS.out).mono ?_; rintro e w1 ⟨rfl, h1, g1⟩
      have C1 := hC.trans g1
      have O1 := hO.chg g1 hrl
      clear g1 hC hO c1 q0 q1 HS hS
      go_wp2_with fail
      refine (c2 _ h1).mono ?_; rintro e w2 ⟨rfl, h2, g2⟩
      have C2 := C1.trans g2
      have O2 := O1.chg g2 hrl
      clear g2 C1 O1 c2 h1
      go_wp2_with fail
      refine (c3 _ h2).mono ?_; rintro e w3 ⟨rfl, h3, g3⟩
      have C3 := C2.trans g3
      have O3 := O2.chg g3 hrl
      clear g3 C2 O2 c3 h2
      go_wp2_with fail
      refine (c4 _ h3).mono ?_; rintro e w4 ⟨rfl, h4, g4⟩
      have HC := Lib.hid (C3.trans g4)
      have O4 := O3.chg g4 hrl
      have H4 := Lib.hid h4
      clear g4 C3 O3 c4 h3 h4
      go_wp2_with (at_builtin; refine wpL_ox (t := 24) (z := .agg #[.string ByteArray.empty, .string ByteArray.empty]) (bytes := 32) (news := fC (x2.1, x4.1)) Tryd.underlying24 infoF rfl (by decide) rfl rfl rfl O4 rfl rfl rfl (by intro u hu; simp [fC] at hu; rcases hu with rfl | rfl <;> rfl) (by unfold maxLen; omega) (by omega) ?_; intro v9 w9 O9 b9)
      obtain ⟨a9, cap9, rfl, _⟩ := O9.cells
      have h9 := H4.out.belowB b9 hrl
      have C9 := HC.out.belowB b9 (Nat.le_refl _) (Nat.le_of_lt hrl)
      have m9 := qm_RS h9
      have O9' : OX w.heap.size 28 2 w9 (.slice a9 (F ++ [(x2.1, x4.1)]).length cap9) (F ++ [(x2.1, x4.1)]).length ((F ++ [(x2.1, x4.1)]).flatMap fC) := by
        rw [List.length_append, List.flatMap_append]; simpa using O9
      refine ⟨⟨F ++ [(x2.1, x4.1)], a9, cap9, x4.2.1, x4.2.2, by rw [List.length_append]; rfl, O9', Lib.hid ⟨h9, C9, by have := hlen2.out; unfold nb at this; rw [List.length_append]; simp at this ⊢; omega, HK.out⟩⟩, ?_⟩
      rw [m9, HM.out]
      have := hdec.out
      unfold nb at this
      simp at this ⊢
      exact this
end Go.Proofs.YtjblfemkecmlmaaDoor
