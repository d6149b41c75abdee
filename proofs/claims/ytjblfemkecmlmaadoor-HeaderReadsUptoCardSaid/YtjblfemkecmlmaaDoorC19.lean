/- The document's Parse. -/
import Derived.Test.YtjblfemkecmlmaaDoorC18
import Derived.Test.YtjblfemkecmlmaaDoorQ9
import Derived.StillTailTactics
set_option linter.unusedSimpArgs false
set_option linter.unusedVariables false
namespace Go.Proofs.YtjblfemkecmlmaaDoor
open Go.RowKit Go.Shelf

/-- What lies between two places of a slice. -/
theorem slice_mid (b off n cap lo hi : Nat) (hn : n ≤ cap) (h1 : lo ≤ hi) (h2 : hi ≤ n) (s : List UInt8) (hs : s.length = n) : ∃ a2 cap2, (∀ w, (Instr.sliceAt 22 (.slice (some ⟨b, off, none⟩) n cap) (some (.int .i64 (lo : Int))) (some (.int .i64 (hi : Int))) none).run Tryd.prog w = .ok (.slice a2 (hi - lo) cap2) w) ∧
    (∀ w, Bs w (some ⟨b, off, none⟩) s → Bs w a2 ((s.drop lo).take (hi - lo))) := by
  by_cases hc : cap = lo
  · refine ⟨some ⟨b, off, none⟩, cap - lo, fun w => ?_, fun w hB j c hj => ?_⟩
    · have h3 : (lo : Int) ≤ hi := by omega
      have h4 : (hi : Int) ≤ n := by omega
      have h5 : (hi : Int) ≤ cap := by omega
      go_simp
      intro h
      omega
    · have := (List.getElem?_eq_some_iff.1 hj).1
      simp at this
      omega
  · refine ⟨some ⟨b, off + lo, none⟩, cap - lo, fun w => ?_, fun w hB j c hj => ?_⟩
    · have h3 : (lo : Int) ≤ hi := by omega
      have h4 : (hi : Int) ≤ n := by omega
      have h5 : (hi : Int) ≤ cap := by omega
      go_simp
    · have hjl := (List.getElem?_eq_some_iff.1 hj).1
      simp at hjl
      rw [List.getElem?_take_of_lt (by omega), List.getElem?_drop] at hj
      obtain ⟨b', off', e, hb, hc⟩ := hB (lo + j) c hj
      injection e with e
      injection e with e1 e2 e3
      subst e1 e2
      exact ⟨b, off + lo, rfl, hb, by rw [Nat.add_assoc]; exact hc⟩
theorem nm_int {c : UInt8} (h : nmB c = true) : (33 : Int) ≤ c.toNat ∧ (c.toNat : Int) ≤ 126 ∧ ¬ (c.toNat : Int) = 58 := by
  unfold nmB grB at h
  simp at h
  refine ⟨by omega, by omega, nat_ne h.2⟩
theorem nm_not {c : UInt8} (h : nmB c = false) : ¬ (33 : Int) ≤ c.toNat ∨ ((33 : Int) ≤ c.toNat ∧ ¬ (c.toNat : Int) ≤ 126) ∨ ((33 : Int) ≤ c.toNat ∧ (c.toNat : Int) ≤ 126 ∧ (c.toNat : Int) = 58) := by
  unfold nmB grB at h
  simp at h
  by_cases h1 : 33 ≤ c.toNat
  · by_cases h2 : c.toNat ≤ 126
    · refine .inr (.inr ⟨by omega, by omega, ?_⟩)
      have := h h1 h2
      rw [this]; rfl
    · exact .inr (.inl ⟨by omega, by omega⟩)
  · exact .inl (by omega)
theorem dfin {B : Nat} {w3 : World} {a' : Option Addr} {K cap' : Nat} {F : List Fld} (hO : OX B 28 2 w3 (.slice a' K cap') K (((F.take 64).map tF).flatMap fC)) (hK : K = ((F.take 64).map tF).length) : FsAt w3 (.slice a' K cap') (fin F) := by
  subst hK
  exact hO.fs
theorem str_cat (a b : List UInt8) : (⟨a.toArray⟩ : ByteArray) ++ ⟨b.toArray⟩ = ⟨(a ++ b).toArray⟩ := by
  apply ByteArray.ext
  simp
/-- A field more, behind a row of a call's own. -/
theorem OX.push {B : Nat} {w : World} {a : Option Addr} {n cap : Nat} {xs : List Value} (h : OX B 28 2 w (.slice a n cap) n xs) (f : Fld) (hn : n < 64) (ty : TypeId) :
    ∃ a' cap' w5, (Builtin.append_ #[24, 24] ty #[.slice a n cap, .slice (some ⟨w.heap.size, 0, none⟩) 1 1]).run Tryd.prog (w.alloc (.cells #[sV f.1, sV f.2] 28)) = .ok (.slice a' (n + 1) cap') w5 ∧ OX B 28 2 w5 (.slice a' (n + 1) cap') (n + 1) (xs ++ fC f) ∧ Below B w w5 := by
  have hz := h.size
  obtain ⟨i0, hi0, hi1⟩ := Option.map_eq_some_iff.1 infoF
  have b1 : Below w.heap.size w (w.alloc (.cells #[sV f.1, sV f.2] 28)) := (Below.refl _ _).alloc (Nat.le_refl _) _
  have hz1 : (w.alloc (.cells #[sV f.1, sV f.2] 28)).heap.size = w.heap.size + 1 := by simp
  obtain ⟨v', w5, hr, hown, hg, _⟩ := run_append_own (P := Tryd.prog) (w := w.alloc (.cells #[sV f.1, sV f.2] 28)) B 24 ty 28 i0 (.agg #[.string ByteArray.empty, .string ByteArray.empty]) 2 32 Tryd.underlying24 hi0 (congrArg (·.1) hi1) (congrArg (·.2.1) hi1) (congrArg (·.2.2) hi1) rfl (by decide) _ n xs (h.own.alloc _) ⟨w.heap.size, 0, none⟩ 1 1 (fC f) rfl (by
      intro j u hj
      have hadd : (⟨w.heap.size, 0, none⟩ : Addr).add j = ⟨w.heap.size, j, none⟩ := by unfold Addr.add; split <;> simp_all
      rw [hadd, cell_of_row _ _ _ _ _ _ (heap_alloc_new w _)]
      match j, hj with
      | 0, hj => simpa [fC] using hj
      | 1, hj => simpa [fC] using hj
      | j + 2, hj => simp [fC] at hj) (by intro u hu; simp [fC] at hu; rcases hu with rfl | rfl <;> rfl) (by unfold maxLen; omega) (by omega) (by omega)
  have hv : ∃ a' cap', v' = .slice a' (n + 1) cap' := by
    rcases hown.2 with ⟨_, e⟩ | ⟨g, cap', cur, e1, _⟩
    · omega
    · exact ⟨_, _, e1⟩
  obtain ⟨a', cap', rfl⟩ := hv
  have hlo : ∀ k, Value.ownBlock (.slice a n cap) = some k → B ≤ k := own_shift h.own
  have old : ∀ k, k < B → w5.heap[k]? = w.heap[k]? := fun k hk => by
    rw [hg.block k (by omega) (fun e => by have := hlo k e.symm; omega), b1.block k (by omega)]
  have hs5 : w.heap.size ≤ w5.heap.size := by have := hg.size; omega
  exact ⟨a', cap', w5, hr, ⟨hown, by omega⟩, ⟨hg.os, hg.tape, hg.output, hs5, old⟩⟩
theorem run_slice2 {o : Oper} {a : Act} {x y z : Operand} {v u : Value} {lo hi : Int} (ho : o.op = .slice 22 x (some y) (some z) none) (hx : a.eval x = v) (hy : a.eval y = .int .i64 lo) (hz : a.eval z = .int .i64 hi) (h : ∀ w, (Instr.sliceAt 22 v (some (.int .i64 lo)) (some (.int .i64 hi)) none).run Tryd.prog w = .ok u w) : ∀ w, (execOp a.eval o).run Tryd.prog w = .ok (.value u) w := by
  intro w
  unfold execOp
  simp only [ho, hx, hy, hz, Option.map_some, Option.map_none, Sem.run_bind, h w, Result.andThen_ok, Sem.run_pure]
def PRd (w : World) (s : List UInt8) (at_ : Nat) (F : List Fld) (wr : World) : Prop := HdI s at_ F ∧ Below w.heap.size w wr
set_option maxHeartbeats 8000000 in
set_option maxRecDepth 100000 in
theorem dparse_any (a : Option Addr) (s : List UInt8) (n cap : Nat) (hs : s.length = n) (hn : n ≤ 1048576) (hcap : n ≤ cap) (w : World) (hB : Bs w a s) :
    Calls Tryd.prog 9 #[.slice a n cap] w (FPost (hd (s.length + 1) s 0 []) w) := by
  generalize hres : hd (s.length + 1) s 0 [] = res
  unfold FPost
  have HRES := Lib.hid hres
  have O0 : OX w.heap.size 28 2 w (.slice none 0 0) (([] : List Fld).take 64).length ((([] : List Fld).take 64).flatMap fC) := ⟨World.ownsRow_nil _ _ _ _, Nat.le_refl _⟩
  have P0 : Hid (PRd w s 0 [] w) := Lib.hid ⟨HdI.start s, Below.refl _ _⟩
  clear hres
  have HS := Lib.hid hs
  go_enter Tryd.func9, Tryd.ntmps9
  go_wp2_with fail
  go_loopw [4, 5, 6] (fun v4 v5 v6 wr => ∃ (F : List Fld) (a' : Option Addr) (cap' at_ : Nat), v4 = .slice a' (F.take 64).length cap' ∧ v5 = .int .i64 at_ ∧ v6 = .int .i64 F.length ∧ OX w.heap.size 28 2 wr (.slice a' (F.take 64).length cap') (F.take 64).length ((F.take 64).flatMap fC) ∧ Hid (PRd w s at_ F wr)) (fun v4 v5 v6 wr => n - (intOf v5).toNat)
  case atStart => exact ⟨[], none, 0, 0, rfl, rfl, rfl, O0, P0⟩
  case round =>
    obtain ⟨F, a', cap', at_, rfl, rfl, rfl, hO, HP⟩ := hrel
    clear O0 P0
    have hV := HP.out.1.2.2.1
    have hle := HP.out.1.1
    have hFl := HP.out.1.2.1
    have Br := hB.below HP.out.2
    have hV2 : ∀ f ∈ F.take 64, f.2.length ≤ 9223372036854775807 := fun f hf => by have := hV.take f hf; omega
    have h64 : (F.take 64).length ≤ 64 := by simp; omega
    have cT := fun w' h => trimmed_any w.heap.size a' (F.take 64).length cap' (F.take 64) rfl h64 hV2 w' h
    by_cases hlt : at_ < n
    · have hlt' : (at_ : Int) < n := by omega
      have hne : s.drop at_ ≠ [] := by intro e; have := congrArg List.length e; simp at this; omega
      have c1 := line_any a s n cap at_ hs hn (by omega) wr Br
      have hdle := lnL_le (s.drop at_)
      have hdle2 := lb_le (s.drop at_)
      rw [List.length_drop] at hdle
      rcases dstep (s.drop at_) F hne with ⟨x1, x2, x3⟩ | ⟨c, x1, x2, x3⟩
      · have hE : (lb (s.drop at_)).1.length = 0 := by rw [x1]; rfl
        have hN : (lnL (s.drop at_)).length = 2 := by rw [ln_len, hE, x2]; rfl
        rw [hE, hN] at c1
        have HX := Lib.hid (HP.out.1.stop x3)
        have HB2 := Lib.hid HP.out.2
        have h2 : at_ + 2 ≤ n := by omega
        have hFG := Lib.hid (show (F.take 64).length = ((F.take 64).map tF).length by rw [List.length_map])
        have HFL := Lib.hid (show F.length ≤ n ∧ at_ ≤ n by omega)
        have e0 : ((at_ + 0 : Nat) : Int) = at_ := rfl
        have e2 : ((at_ + 2 : Nat) : Int) = at_ + 2 := by omega
        rw [e0, e2] at c1
        generalize (F.take 64).length = K at *
        clear x1 x2 x3 hE hN hdle hdle2 hne hV hB Br HP hV2 hs hle hFl e0 e2 hcap
        go_wp2_with fail
        refine c1.mono ?_; rintro e w' ⟨rfl, rfl⟩
        clear c1
        go_wp2_with fail
        refine (cT _ hO).mono ?_; rintro e w3 ⟨rfl, hO3, hb3⟩
        clear cT
        go_wp2_with fail
        go_ret2
        obtain rfl := HRES.out.symm.trans HX.out
        exact ⟨⟨_, rfl, dfin hO3 hFG.out⟩, HB2.out.trans hb3⟩
      · have hE0 : 0 < (lb (s.drop at_)).1.length := List.length_pos_iff.2 x1
        rw [List.getElem?_drop, Nat.add_zero] at x2
        obtain ⟨b, off, rfl, hb, r0⟩ := Br at_ c x2
        have hcb := c.toNat_lt
        have c2 := dblank_any c wr
        have hFG := Lib.hid (show (F.take 64).length = ((F.take 64).map tF).length by rw [List.length_map])
        have HFL := Lib.hid (show F.length ≤ n ∧ at_ ≤ n by omega)
        have hbnd : at_ + (lb (s.drop at_)).1.length ≤ n ∧ at_ + (lnL (s.drop at_)).length ≤ n ∧ at_ < at_ + (lnL (s.drop at_)).length := by omega
        have hen0 : at_ < at_ + (lb (s.drop at_)).1.length := by omega
        have HST := Lib.hid x3
        have HDT := Lib.hid (show (s.drop at_).take (at_ + (lb (s.drop at_)).1.length - at_) = (lb (s.drop at_)).1 by rw [Nat.add_sub_cancel_left, lb_take])
        generalize hen : at_ + (lb (s.drop at_)).1.length = en at c1 hbnd hen0 HDT
        generalize hnx : at_ + (lnL (s.drop at_)).length = nx at c1 hbnd
        have HEN := Lib.hid hen
        have HNX := Lib.hid hnx
        obtain ⟨q1, q2, q3⟩ := hbnd
        have q4 : ¬ (en : Int) = at_ := by omega
        have q5 : (at_ : Int) < n := by omega
        clear hE0 x1 x2 x3 hdle hdle2 hne hle hFl hs hen hnx hV
        rcases HST.out with ⟨hbl, hF0, hst⟩ | ⟨hbl, hF0, hst⟩ | ⟨hbl, hst1, hst2⟩
        · rw [hbl] at c2
          have HX := Lib.hid (HP.out.1.stop hst)
          have HB2 := Lib.hid HP.out.2
          subst hF0
          clear HST hst hbl HP hB Br hV2 HDT HEN HNX
          go_wp2_with fail
          refine c1.mono ?_; rintro e w' ⟨rfl, rfl⟩
          clear c1
          go_wp2_with fail
          refine c2.mono ?_; rintro e w' ⟨rfl, rfl⟩
          clear c2
          go_wp2_with fail
          refine (cT _ hO).mono ?_; rintro e w3 ⟨rfl, hO3, hb3⟩
          clear cT
          go_wp2_with fail
          go_ret2
          obtain rfl := HRES.out.symm.trans HX.out
          exact ⟨⟨_, rfl, dfin hO3 hFG.out⟩, HB2.out.trans hb3⟩
        · rw [hbl] at c2
          have HG := Lib.hid (HP.out.1.go (by rw [HS.out]; exact hlt) hst (by rw [addl_len]; omega) (HP.out.1.2.2.1.addl _ (Nat.le_refl _)))
          have HB2 := Lib.hid HP.out.2
          have hFp : ¬ (F.length : Int) = 0 := by
            have := List.length_pos_iff.2 hF0
            omega
          by_cases hm : F.length ≤ 64
          · have hm' : (F.length : Int) ≤ 64 := by omega
            obtain ⟨A, f, rfl⟩ : ∃ A f, F = A ++ [f] := ⟨F.dropLast, F.getLast hF0, (List.dropLast_concat_getLast hF0).symm⟩
            rw [addl_snoc, HNX.out] at HG
            have hAl : (A ++ [f]).length = A.length + 1 := by simp
            rw [List.take_of_length_le hm, hAl] at hO
            rw [hAl] at hm hm' hFp
            obtain ⟨a9, cap9, e1, hc9, h2⟩ := hO.cells
            injection e1 with e1 e2 e3
            subst e1 e3
            rcases h2 with ⟨_, h0⟩ | ⟨g, rfl, hgB, hg, hcell⟩
            · omega
            · have hj : A.length * 2 + 1 < ((A ++ [f]).flatMap fC).length := by rw [fc_len, hAl]; omega
              generalize hx : (lb (s.drop at_)).1 = x at *
              have bd : Below wr.heap.size wr wr.drew := (Below.refl _ _).drew
              have Brd := Br.below bd
              obtain ⟨p1, p2, p3, p4⟩ := (hO.below bd).put _ hj (sV (f.2 ++ x))
              rw [fc_at] at p3
              rw [fc_set] at p1
              obtain ⟨a2, cap2, hsl, hbs⟩ := slice_mid b off n cap at_ en hcap (by omega) q1 s HS.out
              have hbs2 := hbs _ Brd
              rw [HDT.out] at hbs2
              have hxl : x.length = en - at_ := by rw [← HEN.out]; omega
              have hcv := fun w' (h : Bs w' a2 x) => bs_string' (w := w') cap2 h hxl
              have hcv1 := hcv wr.drew hbs2
              have HP2 := Lib.hid (show OX w.heap.size 28 2 (wr.drew.setCell ⟨g, A.length * 2 + 1, none⟩ (sV (f.2 ++ x))) (.slice (some ⟨g, 0, none⟩) (A.length + 1) cap') (A.length + 1) ((A ++ [(f.1, f.2 ++ x)]).flatMap fC) ∧ Below w.heap.size w (wr.drew.setCell ⟨g, A.length * 2 + 1, none⟩ (sV (f.2 ++ x))) from ⟨p1, HB2.out.drew.trans p2⟩)
              have hsa : Hid ((⟨f.2.toArray⟩ : ByteArray) ++ ⟨x.toArray⟩ = ⟨(f.2 ++ x).toArray⟩) := Lib.hid (str_cat f.2 x)
              unfold sV at p3 HP2
              have e6 : 0 + A.length * 2 + 1 = A.length * 2 + 1 := by omega
              have p3' : wr.drew.cell? ⟨g, 0 + A.length * 2 + 1, none⟩ = some (.string ⟨f.2.toArray⟩) := by rw [e6]; exact p3
              have p4' : wr.drew.frozen? ⟨g, 0 + A.length * 2 + 1, none⟩ = false := by rw [e6]; exact p4
              have hw1 : IntKind.i64.wrap ((A.length : Int) + 1 - 1) = A.length := by rw [Int.add_sub_cancel]; exact wrapI (by omega) (by omega)
              have hsz : ¬ 9223372036854775807 < (⟨f.2.toArray⟩ : ByteArray).size + (⟨x.toArray⟩ : ByteArray).size := by
                have h1 : f.2.length ≤ at_ := HP.out.1.2.2.1 f (by simp)
                show ¬ 9223372036854775807 < f.2.length + x.length
                omega
              have hw0 : IntKind.i64.wrap (A.length : Int) = A.length := wrapI (by omega) (by omega)
              have q6 : (at_ : Int) ≤ en := by omega
              have q7 : (A.length : Int) < (A.length : Int) + 1 := by omega
              generalize hK : ((A ++ [f]).take 64).length = K at *
              have hK1 : K = A.length + 1 := by rw [← hK, List.take_of_length_le (by rw [hAl]; exact hm), hAl]
              subst hK1
              rw [hAl]
              clear HST hst hbl HP hB Br hV2 HDT HEN HNX cT hO hF0 hcell hj hbs hbs2 hx hK p1 p2 hc9 hcap hxl bd Brd
              generalize (⟨f.2.toArray⟩ : ByteArray) = fv at *
              generalize (⟨x.toArray⟩ : ByteArray) = xv at *
              go_wp2_with fail
              refine c1.mono ?_; rintro e w' ⟨rfl, rfl⟩
              clear c1
              go_wp2_with fail
              refine c2.mono ?_; rintro e w' ⟨rfl, rfl⟩
              clear c2
              go_wp2_with fail
              refine wp_region_still_tail 17 (by kernel_rfl) (by kernel_rfl) ?_
              simp only [List.take_succ_cons, List.take_zero, List.drop_succ_cons, List.drop_zero]
              change wpStill _ _ w'.drew (fun a' => wpList _ _ _ _ a' w'.drew) _ _
              generalize w'.drew = wd at *
              repeat still_step
              refine wpStill_nil ?_
              go_wp2_with fail
              have HL : Hid ((A ++ [(f.1, f.2 ++ x)]).take 64 = A ++ [(f.1, f.2 ++ x)] ∧ (A ++ [(f.1, f.2 ++ x)]).length = A.length + 1) := Lib.hid ⟨List.take_of_length_le (by simp; omega), by simp⟩
              exact ⟨⟨A ++ [(f.1, f.2 ++ x)], _, cap', nx, by rw [HL.out.1, HL.out.2], rfl, by rw [HL.out.2]; rfl, by rw [HL.out.1, HL.out.2, hsa.out]; exact HP2.out.1, Lib.hid ⟨HG.out, by rw [hsa.out]; exact HP2.out.2⟩⟩, by simp [intOf]; omega⟩
          · have hm' : ¬ (F.length : Int) ≤ 64 := by omega
            have ht64' : (addl F (lb (s.drop at_)).1).take 64 = F.take 64 := by rw [take_addl, if_neg hm]
            have hal := addl_len F (lb (s.drop at_)).1
            rw [HNX.out] at HG
            have HA := Lib.hid (show OX w.heap.size 28 2 wr (.slice a' ((addl F (lb (s.drop at_)).1).take 64).length cap') ((addl F (lb (s.drop at_)).1).take 64).length (((addl F (lb (s.drop at_)).1).take 64).flatMap fC) ∧ (F.take 64).length = ((addl F (lb (s.drop at_)).1).take 64).length ∧ F.length = (addl F (lb (s.drop at_)).1).length from by rw [ht64', hal]; exact ⟨hO, rfl, rfl⟩)
            generalize addl F (lb (s.drop at_)).1 = F2 at *
            generalize hK : (F.take 64).length = K at *
            clear HST hst hbl HP hB Br hV2 HDT HEN HNX cT hO ht64' hal hK hF0
            go_wp2_with fail
            refine c1.mono ?_; rintro e w' ⟨rfl, rfl⟩
            clear c1
            go_wp2_with fail
            refine c2.mono ?_; rintro e w' ⟨rfl, rfl⟩
            clear c2
            go_wp2_with fail
            exact ⟨⟨F2, a', cap', nx, by rw [HA.out.2.1], rfl, by rw [HA.out.2.2], HA.out.1, Lib.hid ⟨HG.out, HB2.out⟩⟩, by simp [intOf]; omega⟩
        · rw [hbl] at c2
          have HB2 := Lib.hid HP.out.2
          generalize hx : (lb (s.drop at_)).1 = x at *
          have hxl : x.length = en - at_ := by rw [← HEN.out]; omega
          have HXL := Lib.hid hxl
          have HBr := Lib.hid Br
          have HPP := Lib.hid HP.out.1
          have H1 := Lib.hid hst1
          have H2 := Lib.hid hst2
          have H0 : Hid (at_ - at_ ≤ nmLen x) := Lib.hid (by omega)
          have HCT := Lib.hid cT
          have HO := Lib.hid hO
          have HXX := Lib.hid hx
          have hKF : (F.take 64).length = if F.length < 64 then F.length else 64 := by rw [List.length_take]; split <;> omega
          have HKF := Lib.hid hKF
          generalize (F.take 64).length = K at *
          clear HST hst1 hst2 hbl HP hB Br hV2 hx hxl hKF cT hO
          go_wp2_with fail
          refine c1.mono ?_; rintro e w' ⟨rfl, rfl⟩
          clear c1
          go_wp2_with fail
          refine c2.mono ?_; rintro e w' ⟨rfl, rfl⟩
          clear c2 r0 hb
          go_wp2_with fail
          go_loopw [9] (fun v9 wk => ∃ k : Nat, v9 = .int .i64 k ∧ wk = w' ∧ at_ ≤ k ∧ k ≤ en ∧ Hid (k - at_ ≤ nmLen x)) (fun v9 wk => en - (intOf v9).toNat)
          case atStart => exact ⟨at_, rfl, rfl, Nat.le_refl _, Nat.le_of_lt hen0, H0⟩
          case round =>
            obtain ⟨k, rfl, rfl, hk1, hk2, HK⟩ := hrel
            by_cases hke : k < en
            · have hkx : k - at_ < x.length := by rw [HXL.out]; omega
              have hsk : s[k]? = some (x[k - at_]'hkx) := by
                have h1 := lb_at (s.drop at_) (k - at_) (by rw [HXX.out]; exact hkx)
                rw [HXX.out, List.getElem?_drop, show at_ + (k - at_) = k by omega] at h1
                rw [h1, List.getElem?_eq_getElem hkx]
              obtain ⟨b', off', e', hb, r0⟩ := HBr.out k _ hsk
              injection e' with e'
              injection e' with e1 e2 e3
              subst e1 e2
              have hke' : (k : Int) < en := by omega
              have hkn : (k : Int) < n := by omega
              have hken : ¬ (k : Int) = en := by omega
              have hkb := beq_no hken
              have hstep := tw_step nmB x (k - at_) hkx HK.out
              have HXD := Lib.hid (List.getElem?_eq_getElem hkx)
              have hcd := (x[k - at_]'hkx).toNat_lt
              generalize x[k - at_]'hkx = d at *
              rcases hstep with ⟨hp, hm⟩ | ⟨hp, hm⟩
              · obtain ⟨i1, i2, i3⟩ := nm_int hp
                have HM : Hid (k + 1 - at_ ≤ nmLen x) := Lib.hid (by unfold nmLen; omega)
                clear hp hm hsk H0 hkx
                go_wp2_with fail
                exact ⟨⟨k + 1, by go_num, trivial, by omega, by omega, HM⟩, by simp [intOf]; omega⟩
              · have HM : Hid (nmLen x = k - at_) := Lib.hid (by unfold nmLen; omega)
                have hdd := nm_not hp
                clear hp hm hsk H0
                have hstop : d ≠ 58 ∨ k = at_ → Hid (hd (s.length + 1) s 0 [] = (F, at_ + 0)) := fun h => Lib.hid (HPP.out.stop (H1.out (by
                  rcases h with h | h
                  · exact .inr (.inr ⟨d, by rw [HM.out]; exact HXD.out, h⟩)
                  · exact .inl (by rw [HM.out]; omega))))
                have hstep2 : d = 58 → k ≠ at_ → Hid (stepR (s.drop at_) F = .inr (F ++ [(x.take (k - at_), x.drop (k - at_ + 1))])) := fun h h2 => Lib.hid (by
                  have := H2.out (by rw [HM.out]; omega) (by rw [HM.out, ← h]; exact HXD.out)
                  rw [HM.out] at this
                  exact this)
                have cT := HCT.out
                have hO := HO.out
                by_cases h58 : d = 58
                · subst h58
                  by_cases hka : k = at_
                  · have HX := hstop (.inr hka)
                    subst hka
                    clear hstop hstep2 hdd HXD HM
                    go_wp2_with fail
                    refine (cT _ hO).mono ?_; rintro e w3 ⟨rfl, hO3, hb3⟩
                    clear cT
                    go_wp2_with fail
                    go_ret2
                    obtain rfl := HRES.out.symm.trans HX.out
                    exact ⟨⟨_, rfl, dfin hO3 hFG.out⟩, HB2.out.trans hb3⟩
                  · have HS2 := hstep2 rfl hka
                    have hka' : ¬ (k : Int) = at_ := by omega
                    have hkb2 := beq_no hka'
                    have hFn : F.length ≤ 1048576 := by have := HFL.out.1; omega
                    have HG := Lib.hid (HPP.out.go (F' := F ++ [(x.take (k - at_), x.drop (k - at_ + 1))]) (by rw [HS.out]; exact hlt) HS2.out (by simp) (by
                      rw [HXX.out]
                      exact HPP.out.2.2.1.more _ (by simp; omega) (by omega)))
                    rw [HNX.out] at HG
                    by_cases hm : F.length < 64
                    · have hm' : (F.length : Int) + 1 ≤ 64 := by omega
                      have hKe : K = F.length := by rw [HKF.out, if_pos hm]
                      subst hKe
                      have hte : F.take 64 = F := List.take_of_length_le (by omega)
                      have bd : Below wr.heap.size wr wr.drew := (Below.refl _ _).drew
                      have Brd := HBr.out.below bd
                      have Od := hO.below bd
                      rw [hte] at Od
                      obtain ⟨a2, c2, hsl1, hbs1⟩ := slice_mid b off n cap at_ k hcap hk1 (by omega) s HS.out
                      obtain ⟨a3, c3, hsl2, hbs2⟩ := slice_mid b off n cap (k + 1) en hcap (by omega) q1 s HS.out
                      have hsl2' : ∀ w, (Instr.sliceAt 22 (.slice (some ⟨b, off, none⟩) n cap) (some (.int .i64 ((k : Int) + 1))) (some (.int .i64 (en : Int))) none).run Tryd.prog w = .ok (.slice a3 (en - (k + 1)) c3) w := hsl2
                      have g1 := hbs1 _ Brd
                      have g2 := hbs2 _ Brd
                      have e1 : (s.drop at_).take (k - at_) = x.take (k - at_) := by rw [← HDT.out, List.take_take, Nat.min_eq_left (by omega)]
                      have e2 : (s.drop (k + 1)).take (en - (k + 1)) = x.drop (k - at_ + 1) := by
                        rw [← HDT.out, List.drop_take, List.drop_drop, show at_ + (k - at_ + 1) = k + 1 by omega, show en - at_ - (k - at_ + 1) = en - (k + 1) by omega]
                      rw [e1] at g1
                      rw [e2] at g2
                      have HLn := Lib.hid (show (x.take (k - at_)).length = k - at_ ∧ (x.drop (k - at_ + 1)).length = en - (k + 1) by rw [List.length_take, List.length_drop, HXL.out]; omega)
                      have lat : ∀ (ad : Option Addr) (l : List UInt8), Bs wr.drew ad l → ∀ y, Lat wr.drew y → Bs y ad l := fun ad l hB y hy j c hj => by
                        obtain ⟨b, off, e, hb, hc⟩ := hB j c hj
                        refine ⟨b, off, e, Nat.lt_of_lt_of_le hb hy.1, ?_⟩
                        rw [World.cell?, hy.2 b hb]
                        exact hc
                      have HL1 := Lib.hid (lat _ _ g1)
                      have HL2 := Lib.hid (lat _ _ g2)
                      have hwk : IntKind.i64.wrap ((k : Int) + 1) = (k : Int) + 1 := wrapI (by omega) (by omega)
                      have j1 : (at_ : Int) ≤ k := by omega
                      have j2 : (k : Int) + 1 ≤ en := by omega
                      generalize hnm : x.take (k - at_) = nm at *
                      generalize hvl : x.drop (k - at_ + 1) = vl at *
                      have HA : Hid ((F ++ [(nm, vl)]).take 64 = F ++ [(nm, vl)] ∧ (F ++ [(nm, vl)]).length = F.length + 1) := Lib.hid ⟨List.take_of_length_le (by simp; omega), by simp⟩
                      obtain ⟨a9, cap9, w9, hpush, O9, b9⟩ := Od.push (nm, vl) hm 24
                      have O9' : OX w.heap.size 28 2 w9 (.slice a9 (F.length + 1) cap9) (F.length + 1) ((F ++ [(nm, vl)]).flatMap fC) := by
                        rw [List.flatMap_append]; simpa using O9
                      have HB9 := Lib.hid ((show Below w.heap.size w wr.drew from HB2.out.drew).trans b9)
                      have hbo : (F.length + 1) * 32 ≤ 140737488355328 := by omega
                      have hmo : F.length + 1 ≤ maxLen := by unfold maxLen; omega
                      clear hstop hstep2 hdd HXD HM cT HS2 hO Brd bd g1 g2 e1 e2 hbs1 hbs2 hte hnm hvl hka hkx lat b9 O9 Od hsl2'
                      go_wp2_with fail
                      refine wp_region_flowR Lat [0, 0, 0, 0, 0, 1, 0, 0, 0, 0, 0, 1, 0, 2, 3, 0] (by kernel_rfl) (by kernel_rfl) Lat.refl Lat.trans ?_
                      refine fr0 rfl (fun _ => rfl) ?_
                      simp only [Act.put, List.setIfInBounds_toArray, List.set_cons_succ, List.set_cons_zero]
                      refine fr0 rfl (fun _ => rfl) ?_
                      simp only [Act.put, List.setIfInBounds_toArray, List.set_cons_succ, List.set_cons_zero]
                      refine fr0 rfl (fun _ => rfl) ?_
                      simp only [Act.put, List.setIfInBounds_toArray, List.set_cons_succ, List.set_cons_zero]
                      refine fr0 rfl (fun _ => rfl) ?_
                      simp only [Act.put, List.setIfInBounds_toArray, List.set_cons_succ, List.set_cons_zero]
                      refine fr0 rfl (run_slice2 rfl rfl rfl rfl hsl1) ?_
                      simp only [Act.put, List.setIfInBounds_toArray, List.set_cons_succ, List.set_cons_zero]
                      refine fr1 rfl (fun y hy => run_conv rfl rfl (bs_string' (n := k - at_) c2 (HL1.out y hy) HLn.out.1)) ?_
                      simp only [Act.put, List.setIfInBounds_toArray, List.set_cons_succ, List.set_cons_zero]
                      refine fr0 rfl (fun _ => rfl) ?_
                      simp only [Act.put, List.setIfInBounds_toArray, List.set_cons_succ, List.set_cons_zero]
                      refine fr0 rfl (fun _ => rfl) ?_
                      simp only [Act.put, List.setIfInBounds_toArray, List.set_cons_succ, List.set_cons_zero]
                      refine fr0 rfl (run_addi rfl rfl (by omega)) ?_
                      simp only [Act.put, List.setIfInBounds_toArray, List.set_cons_succ, List.set_cons_zero]
                      refine fr0 rfl (fun _ => rfl) ?_
                      simp only [Act.put, List.setIfInBounds_toArray, List.set_cons_succ, List.set_cons_zero]
                      refine fr0 rfl (run_slice2 rfl rfl rfl rfl hsl2) ?_
                      simp only [Act.put, List.setIfInBounds_toArray, List.set_cons_succ, List.set_cons_zero]
                      refine fr1 rfl (fun y hy => run_conv rfl rfl (bs_string' (n := en - (k + 1)) c3 (HL2.out y hy) HLn.out.2)) ?_
                      simp only [Act.put, List.setIfInBounds_toArray, List.set_cons_succ, List.set_cons_zero]
                      refine fr0 rfl (run_buildF rfl rfl rfl) ?_
                      simp only [Act.put, List.setIfInBounds_toArray, List.set_cons_succ, List.set_cons_zero]
                      refine fr2 rfl (Lat.alloc _ _) (.inl (run_buildSliceF rfl rfl rfl)) ?_
                      simp only [Act.put, List.setIfInBounds_toArray, List.set_cons_succ, List.set_cons_zero]
                      refine fr3 rfl (.inl (run_builtin_append rfl rfl rfl hpush)) ?_
                      simp only [Act.put, List.setIfInBounds_toArray, List.set_cons_succ, List.set_cons_zero]
                      refine fr0 (u := .slice a9 (F.length + 1) cap9) rfl (fun _ => rfl) ?_
                      simp only [Act.put, List.setIfInBounds_toArray, List.set_cons_succ, List.set_cons_zero]
                      refine frnil ?_
                      go_wp2_with fail
                      exact ⟨⟨F ++ [(nm, vl)], a9, cap9, nx, by rw [HA.out.1, HA.out.2], rfl, by rw [HA.out.2]; rfl, by rw [HA.out.1, HA.out.2]; exact O9', Lib.hid ⟨HG.out, HB9.out⟩⟩, by simp [intOf]; omega⟩
                    · have hm' : ¬ (F.length : Int) + 1 ≤ 64 := by omega
                      have HA : Hid ((F ++ [(x.take (k - at_), x.drop (k - at_ + 1))]).take 64 = F.take 64 ∧ (F ++ [(x.take (k - at_), x.drop (k - at_ + 1))]).length = F.length + 1 ∧ (F.take 64).length = K) := Lib.hid ⟨by rw [take_more, if_neg hm], by simp, by rw [HKF.out, List.length_take]; split <;> omega⟩
                      clear hstop hstep2 hdd HXD HM cT HS2
                      generalize F ++ [(x.take (k - at_), x.drop (k - at_ + 1))] = F2 at *
                      go_wp2_with fail
                      exact ⟨⟨F2, a', cap', nx, by rw [HA.out.1, HA.out.2.2], rfl, by rw [HA.out.2.1]; rfl, by rw [HA.out.1, HA.out.2.2]; exact hO, Lib.hid ⟨HG.out, HB2.out⟩⟩, by simp [intOf]; omega⟩
                · have f58 : ¬ (d.toNat : Int) = 58 := nat_ne h58
                  have f58' := beq_no f58
                  have HX := hstop (.inl h58)
                  clear hstop hstep2 HXD HM h58
                  by_cases hka : k = at_
                  · subst hka
                    rcases hdd with i1 | ⟨i1, i2⟩ | ⟨i1, i2, i3⟩
                    · skip
                      go_wp2_with fail
                      refine (cT _ hO).mono ?_; rintro e w3 ⟨rfl, hO3, hb3⟩
                      clear cT
                      go_wp2_with fail
                      go_ret2
                      obtain rfl := HRES.out.symm.trans HX.out
                      exact ⟨⟨_, rfl, dfin hO3 hFG.out⟩, HB2.out.trans hb3⟩
                    · skip
                      go_wp2_with fail
                      refine (cT _ hO).mono ?_; rintro e w3 ⟨rfl, hO3, hb3⟩
                      clear cT
                      go_wp2_with fail
                      go_ret2
                      obtain rfl := HRES.out.symm.trans HX.out
                      exact ⟨⟨_, rfl, dfin hO3 hFG.out⟩, HB2.out.trans hb3⟩
                    · exact absurd i3 f58
                  · have hka' : ¬ (k : Int) = at_ := by omega
                    have hkb2 := beq_no hka'
                    rcases hdd with i1 | ⟨i1, i2⟩ | ⟨i1, i2, i3⟩
                    · skip
                      go_wp2_with fail
                      refine (cT _ hO).mono ?_; rintro e w3 ⟨rfl, hO3, hb3⟩
                      clear cT
                      go_wp2_with fail
                      go_ret2
                      obtain rfl := HRES.out.symm.trans HX.out
                      exact ⟨⟨_, rfl, dfin hO3 hFG.out⟩, HB2.out.trans hb3⟩
                    · skip
                      go_wp2_with fail
                      refine (cT _ hO).mono ?_; rintro e w3 ⟨rfl, hO3, hb3⟩
                      clear cT
                      go_wp2_with fail
                      go_ret2
                      obtain rfl := HRES.out.symm.trans HX.out
                      exact ⟨⟨_, rfl, dfin hO3 hFG.out⟩, HB2.out.trans hb3⟩
                    · exact absurd i3 f58
            · have hke' : ¬ (k : Int) < en := by omega
              obtain rfl : k = en := by omega
              have HX : Hid (hd (s.length + 1) s 0 [] = (F, at_ + 0)) := Lib.hid (HPP.out.stop (H1.out (.inr (.inl (by have := HK.out; have h2 := HXL.out; have h3 : nmLen x ≤ x.length := len_takeWhile nmB x; omega)))))
              have cT := HCT.out
              have hO := HO.out
              clear HK H0 hke
              go_wp2_with fail
              refine (cT _ hO).mono ?_; rintro e w3 ⟨rfl, hO3, hb3⟩
              clear cT
              go_wp2_with fail
              go_ret2
              obtain rfl := HRES.out.symm.trans HX.out
              exact ⟨⟨_, rfl, dfin hO3 hFG.out⟩, HB2.out.trans hb3⟩
    · have hlt' : ¬ (at_ : Int) < n := by omega
      have HX := Lib.hid (HP.out.1.over (by rw [HS.out]; omega))
      have HB2 := Lib.hid HP.out.2
      have hFG := Lib.hid (show (F.take 64).length = ((F.take 64).map tF).length by rw [List.length_map])
      generalize (F.take 64).length = K at *
      clear HP hB Br hV2 hV hle hFl hs
      go_wp2_with fail
      refine (cT _ hO).mono ?_; rintro e w3 ⟨rfl, hO3, hb3⟩
      clear cT
      go_wp2_with fail
      go_ret2
      obtain rfl := HRES.out.symm.trans HX.out
      exact ⟨⟨_, rfl, dfin hO3 hFG.out⟩, HB2.out.trans hb3⟩
end Go.Proofs.YtjblfemkecmlmaaDoor
