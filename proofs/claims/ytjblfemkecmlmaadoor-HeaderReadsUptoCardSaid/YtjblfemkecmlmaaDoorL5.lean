/- HeaderBack's walk. -/
import Derived.Test.YtjblfemkecmlmaaDoorC15
import Derived.Test.YtjblfemkecmlmaaDoorC16
set_option linter.unusedSimpArgs false
set_option linter.unusedVariables false
namespace Go.Proofs.YtjblfemkecmlmaaDoor
open Go.RowKit Go.Shelf

theorem str_app (a b : List UInt8) : (⟨a.toArray⟩ : ByteArray) ++ ⟨b.toArray⟩ = ⟨(a ++ b).toArray⟩ := by
  apply ByteArray.ext
  simp
/-- The fields handed in, by places. -/
def FsIn (w : World) (a : Option Addr) (F : List Fld) : Prop := ∀ (j : Nat) f, F[j]? = some f → ∃ g off, a = some ⟨g, off, none⟩ ∧ g < w.heap.size ∧ w.cell? ⟨g, off + j * 2, none⟩ = some (.string ⟨f.1.toArray⟩) ∧ w.cell? ⟨g, off + j * 2 + 1, none⟩ = some (.string ⟨f.2.toArray⟩)
theorem FsIn.below {w w' : World} {a : Option Addr} {F : List Fld} (h : FsIn w a F) (hb : Below w.heap.size w w') : FsIn w' a F := fun j f hj => by
  obtain ⟨g, off, h1, h2, h3, h4⟩ := h j f hj
  exact ⟨g, off, h1, Nat.lt_of_lt_of_le h2 hb.size, by rw [hb.cell (p := ⟨g, off + j * 2, none⟩) h2]; exact h3, by rw [hb.cell (p := ⟨g, off + j * 2 + 1, none⟩) h2]; exact h4⟩
theorem FsAt.at {w : World} {a : Option Addr} {n cap : Nat} {F : List Fld} (h : FsAt w (.slice a n cap) F) : FsIn w a F ∧ F.length = n ∧ n ≤ cap := by
  obtain ⟨a', cap', e, hc, h⟩ := h
  injection e with e1 e2 e3
  subst e1 e2 e3
  refine ⟨fun j f hj => ?_, rfl, hc⟩
  rcases h with rfl | ⟨g, off, rfl, hg, hcell⟩
  · simp at hj
  · exact ⟨g, off, rfl, hg, hcell _ _ (fs_at0 hj), by rw [Nat.add_assoc]; exact hcell _ _ (fs_at hj)⟩
def BR (w wr : World) (G : List Fld) : Prop := (∀ f ∈ G, GoodF f) ∧ (textF G).length ≤ G.length * 4194304 ∧ Below w.heap.size w wr
theorem lineF_len {f : Fld} (h1 : f.1.length ≤ 1048576) (h2 : f.2.length ≤ 1048576) : (lineF f).length ≤ 4194304 := by
  unfold lineF
  simp
  omega
set_option maxHeartbeats 4000000 in
set_option maxRecDepth 100000 in
theorem back_law (a : Option Addr) (n cap : Nat) (F : List Fld) (hFn : F.length = n) (hn : n ≤ 1048576) (hF : FLe 1048576 F) (a2 : Option Addr) (n2 cap2 : Nat) (bd : List UInt8) (hbd : bd.length = n2) (hn2 : n2 ≤ 1048576) (w : World) (hA : FsIn w a F) (hB : Bs w a2 bd) (hM : Max w) :
    Calls Tryd.prog 5 #[.slice a n cap, .slice a2 n2 cap2] w fun e w' => e = .returned (.bool true) ∧ Below w.heap.size w w' := by
  have c0 := shown_any w hM
  go_enter Tryd.func5, Tryd.ntmps5
  go_wp2_with fail
  refine c0.mono ?_; rintro e w1 ⟨rfl, b1⟩
  have M1 := hM.below b1
  have A1 := hA.below b1
  have B1 := hB.below b1
  clear c0 hA hB hM
  have OO : OX w1.heap.size 28 2 (w1.alloc (.cells #[] 28)) (.slice (some ⟨w1.heap.size, 0, none⟩) ([] : List Fld).length 0) ([] : List Fld).length (([] : List Fld).flatMap fC) :=
    ⟨⟨rfl, .inr ⟨w1.heap.size, 0, #[], rfl, Nat.le_refl _, heap_alloc_new w1 _, Nat.le_refl _, by unfold maxLen; omega, rfl, rfl⟩⟩, by simp⟩
  have HB0 : Hid (BR w1 (w1.alloc (.cells #[] 28)) []) := Lib.hid ⟨by simp, by simp [textF], below_new _ _⟩
  go_wp2_with fail
  go_loopw [6, 7, 8] (fun v6 v7 v8 wr => ∃ (G : List Fld) (a' : Option Addr) (cap' i : Nat), v6 = .string ⟨(textF G).toArray⟩ ∧ v7 = .slice a' G.length cap' ∧ v8 = .int .i64 i ∧ i ≤ n ∧ G.length ≤ 60 ∧ OX w1.heap.size 28 2 wr (.slice a' G.length cap') G.length (G.flatMap fC) ∧ Hid (BR w1 wr G)) (fun v6 v7 v8 wr => n - (intOf v8).toNat)
  case atStart => exact ⟨[], _, 0, 0, rfl, rfl, rfl, Nat.zero_le _, by simp, OO, HB0⟩
  case round =>
    obtain ⟨G, a', cap', i, rfl, rfl, rfl, hi, hG, hO, HR⟩ := hrel
    clear OO HB0
    by_cases hlt : i < n ∧ G.length < 60
    · obtain ⟨h1, h2⟩ := hlt
      have hiF : i < F.length := by rw [hFn]; exact h1
      have hf : F[i]? = some F[i] := List.getElem?_eq_getElem hiF
      have hfm : F[i] ∈ F := List.getElem_mem hiF
      generalize F[i] = f at *
      obtain ⟨hf1, hf2⟩ := hF f hfm
      obtain ⟨g, off, rfl, hg, r0, r1⟩ := (A1.below HR.out.2.2) i f hf
      have c1 := fun w => good_any f.1 f.2 (by omega) (by omega) w
      unfold GdPost at c1
      have h1' : (i : Int) < n := by omega
      have h2' : (G.length : Int) < 60 := by omega
      clear hfm hf hiF hF
      go_wp2_with fail
      refine (c1 _).mono ?_; rintro e w3 ⟨⟨gd, rfl, hgd⟩, b3⟩
      have q0 := (b3.cell (p := ⟨g, off + i * 2, none⟩) hg).trans r0
      have q1 := (b3.cell (p := ⟨g, off + i * 2 + 1, none⟩) hg).trans r1
      have hg3 : g < w3.heap.size := Nat.lt_of_lt_of_le hg b3.size
      have O3 := hO.below b3
      have HB3 : Hid (BR w1 w3 G) := Lib.hid ⟨HR.out.1, HR.out.2.1, HR.out.2.2.trans (b3.mono HR.out.2.2.size)⟩
      clear r0 r1 hO HR c1 b3
      cases gd
      · go_wp2_with fail
        exact ⟨⟨G, a', cap', i + 1, rfl, rfl, by go_num, by omega, hG, O3, HB3⟩, by simp [intOf]; omega⟩
      · have HG := Lib.hid (hgd rfl)
        have hl0 : (⟨(textF G).toArray⟩ : ByteArray).size ≤ 251658240 := by
          have := HB3.out.2.1
          show (textF G).length ≤ _
          omega
        have hz1 : (⟨f.1.toArray⟩ : ByteArray).size ≤ 1048576 := hf1
        have hz2 : (⟨f.2.toArray⟩ : ByteArray).size ≤ 1048576 := hf2
        have htx : (⟨(textF G).toArray⟩ : ByteArray) ++ ⟨f.1.toArray⟩ ++ ⟨#[58, 32]⟩ ++ ⟨f.2.toArray⟩ ++ ⟨#[13, 10]⟩ = ⟨(textF (G ++ [f])).toArray⟩ := by
          rw [textF_snoc, show (⟨#[58, 32]⟩ : ByteArray) = ⟨[58, 32].toArray⟩ from rfl, show (⟨#[13, 10]⟩ : ByteArray) = ⟨[13, 10].toArray⟩ from rfl, str_app, str_app, str_app, str_app]
          unfold lineF
          simp only [List.append_assoc]
        have hl3 : (lineF f).length ≤ 4194304 := lineF_len hf1 hf2
        have HB4 : Hid ((∀ x ∈ G ++ [f], GoodF x) ∧ (textF (G ++ [f])).length ≤ (G ++ [f]).length * 4194304) := Lib.hid ⟨by
          intro x hx
          rcases List.mem_append.1 hx with hx | hx
          · exact HB3.out.1 x hx
          · simp at hx; subst hx; exact HG.out, by
          rw [textF_snoc, List.length_append, List.length_append]
          have := HB3.out.2.1
          simp only [List.length_singleton]
          omega⟩
        have HTX := Lib.hid htx
        clear htx hgd hl3 hf1 hf2
        generalize hs1 : (⟨f.1.toArray⟩ : ByteArray) = s1 at *
        generalize hs2 : (⟨f.2.toArray⟩ : ByteArray) = s2 at *
        have HS1 := Lib.hid hs1
        have HS2 := Lib.hid hs2
        clear hs1 hs2
        generalize (⟨(textF G).toArray⟩ : ByteArray) = tv at *
        go_wp2_with fail
        go_quiet (fail)
        have hdn : Below w3.heap.size w3 (w3.drewN nq) := below_dN (Below.refl _ _) nq
        have q0' := (hdn.cell (p := ⟨g, off + i * 2, none⟩) hg3).trans q0
        have q1' := (hdn.cell (p := ⟨g, off + i * 2 + 1, none⟩) hg3).trans q1
        have O4 := O3.below hdn
        have HB5 : Hid (Below w1.heap.size w1 (w3.drewN nq)) := Lib.hid (below_dN HB3.out.2.2 nq)
        rw [HTX.out]
        generalize w3.drewN nq = w4 at *
        clear q0 q1 hdn O3 hg3 hg
        have hbo : (G.length + 1) * 32 ≤ 140737488355328 := by omega
        have hmo : G.length + 1 ≤ maxLen := by unfold maxLen; omega
        go_wp2_with (at_builtin; refine Hid.out ?_)
        refine Lib.hid ?_
        refine wpL_ox (t := 24) (z := .agg #[.string ByteArray.empty, .string ByteArray.empty]) (bytes := 32) (news := fC f) Tryd.underlying24 infoF rfl (by decide) rfl rfl rfl O4 rfl (by unfold fC sV; rw [HS1.out, HS2.out]) rfl (by intro u hu; simp [fC] at hu; rcases hu with rfl | rfl <;> rfl) hmo hbo ?_
        intro v9 w9 O9 b9
        obtain ⟨a9, cap9, rfl, _⟩ := O9.cells
        have O9' : OX w1.heap.size 28 2 w9 (.slice a9 (G ++ [f]).length cap9) (G ++ [f]).length ((G ++ [f]).flatMap fC) := by
          rw [List.length_append, List.flatMap_append]; simpa using O9
        have HB9 : Hid (Below w1.heap.size w1 w9) := Lib.hid (HB5.out.trans b9)
        clear b9
        go_wp2_with fail
        exact ⟨⟨G ++ [f], a9, cap9, i + 1, rfl, by rw [List.length_append]; rfl, by go_num, by omega, by rw [List.length_append]; simp; omega, O9', Lib.hid ⟨HB4.out.1, HB4.out.2, HB9.out⟩⟩, by simp [intOf]; omega⟩
    · have hcnd : ¬ (i : Int) < n ∨ ((i : Int) < n ∧ ¬ (G.length : Int) < 60) := by omega
      obtain ⟨hg1, hg2, hbr⟩ := HR.out
      have Mr := M1.below hbr
      have Br := B1.below hbr
      have HB := Lib.hid (b1.trans (hbr.mono b1.size))
      have FG := hO.fs
      have hGo := Lib.hid hg1
      obtain ⟨p1, p2⟩ := parse_good G hg1 (by omega) bd
      have hTl : (textF G).length + 2 ≤ 251658242 := by omega
      have hle : (textF G ++ [13, 10] ++ bd).length = (textF G).length + 2 + n2 := by rw [List.length_append, List.length_append, hbd]; rfl
      have k1 := fun (g cap : Nat) (w : World) (hM : Max w) (h : BP w g 0 (textF G ++ [13, 10] ++ bd)) (hc : (textF G).length + 2 + n2 ≤ cap) (hc2 : cap ≤ 9223372036854775807) => parse_any (textF G ++ [13, 10] ++ bd) g 0 ((textF G).length + 2 + n2) cap hle (by omega) hc hc2 w hM h
      rw [p1] at k1
      unfold FPost at k1
      dsimp only at k1
      rw [p2] at k1
      have ha1 : (⟨(textF G).toArray⟩ : ByteArray) ++ ⟨#[13, 10]⟩ = ⟨(textF G ++ [13, 10]).toArray⟩ := str_app (textF G) [13, 10]
      have hlx : (textF G ++ [13, 10]).length = (textF G).length + 2 := by rw [List.length_append]; rfl
      have hzl : (⟨(textF G).toArray⟩ : ByteArray).size = (textF G).length := rfl
      have hz1 : (⟨(textF G ++ [13, 10]).toArray⟩ : ByteArray).size = (textF G).length + 2 := hlx
      have hd1 : (⟨(textF G ++ [13, 10]).toArray⟩ : ByteArray).data.toList = textF G ++ [13, 10] := rfl
      have hx1 : IntKind.i64.wrap ((textF G).length + 2 : Nat) = ((textF G).length + 2 : Nat) := wrapI (by omega) (by omega)
      rw [hlx] at k1
      generalize textF G ++ [13, 10] = tl at *
      clear HR p1 p2 hlt hg1 hg2 hle A1 B1 M1 hbr
      rcases hcnd with hcnd | ⟨hcnd, hcnd2⟩
      all_goals
        go_wp2_with (first | (refine wpL_tobytes2 (w0 := wr) (s := ⟨tl.toArray⟩) rfl rfl rfl (Below.refl _ _) (by rw [hz1]; unfold maxLen; omega) ?_; intro cap1 w2 hr hc1 hc2 hb1; have hr' : RowC wr w2 wr.heap.size cap1 tl := hr; have B2 := Br.below hb1; rw [hz1] at hc1; clear hr) | (at_builtin; refine wpL_appbytes (w0 := wr) (l := tl) (l2 := bd) rfl rfl rfl hr' hlx hc1 hc2 rfl hbd B2 (by omega) ?_; intro b3 cap3 w3 hp3 hc3 hc4 hb3))
        unfold maxLen at hc4
        refine (k1 b3 cap3 w3 (Mr.below hb3) hp3 hc3 (by omega)).mono ?_; rintro e w5 ⟨⟨v1, rfl, F1⟩, b5⟩
        have B5 := hb3.trans (b5.mono hb3.size)
        have HB5 := Lib.hid (HB.out.trans (B5.mono HB.out.size))
        have F2 := FG.below B5
        clear k1 hp3 hc3 hc4 hb3 b5 B5 Br Mr FG hO HB hGo
        obtain ⟨a1, cp1, rfl, k1, h1⟩ := F1
        have I1 := (FsAt.at ⟨a1, cp1, rfl, k1, h1⟩).1
        have I2 := (FsAt.at F2).1
        clear F2 h1 k1 hcnd hr' hc1 hc2 hb1 B2
        go_wp2_with fail
        go_loopw [11] (fun v11 wl => ∃ j : Nat, v11 = .int .i64 j ∧ j ≤ G.length ∧ Hid (Below w5.heap.size w5 wl)) (fun v11 wl => G.length - (intOf v11).toNat)
        case atStart => exact ⟨0, rfl, Nat.zero_le _, Lib.hid (Below.refl _ _)⟩
        case round =>
          obtain ⟨j, rfl, hj, HL⟩ := hrel
          by_cases hjl : j < G.length
          · have hf : G[j]? = some G[j] := List.getElem?_eq_getElem hjl
            generalize G[j] = f at *
            obtain ⟨g1, o1, rfl, hg1, r0, r1⟩ := (I1.below HL.out) j f hf
            obtain ⟨g2, o2, rfl, hg2, s0, s1⟩ := (I2.below HL.out) j f hf
            generalize (⟨f.1.toArray⟩ : ByteArray) = nmv at *
            generalize (⟨f.2.toArray⟩ : ByteArray) = vv at *
            have hj' : (j : Int) < G.length := by omega
            clear hf I1 I2
            go_wp2_with fail
            go_quiet (fail)
            go_wp2
            exact ⟨⟨j + 1, by go_num, by omega, Lib.hid (below_dN HL.out _)⟩, by simp [intOf]; omega⟩
          · have hj' : ¬ (j : Int) < G.length := by omega
            go_wp2_with fail
            go_ret
            exact ⟨rfl, HB5.out.trans (HL.out.mono HB5.out.size)⟩
end Go.Proofs.YtjblfemkecmlmaaDoor
