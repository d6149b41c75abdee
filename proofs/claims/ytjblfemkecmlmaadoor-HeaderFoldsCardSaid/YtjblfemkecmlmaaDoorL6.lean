/- HeaderFolds' walk. -/
import Derived.Test.YtjblfemkecmlmaaDoorC14
import Derived.Test.YtjblfemkecmlmaaDoorQ6
set_option linter.unusedSimpArgs false
set_option linter.unusedVariables false
namespace Go.Proofs.YtjblfemkecmlmaaDoor
open Go.RowKit Go.Shelf

/-- Flags at a place. -/
def BlAt (w : World) (a : Option Addr) (es : List Bool) : Prop := ∀ (j : Nat) e, es[j]? = some e → ∃ b off, a = some ⟨b, off, none⟩ ∧ b < w.heap.size ∧ w.cell? ⟨b, off + j, none⟩ = some (.bool e)
theorem BlAt.below {w w' : World} {a : Option Addr} {es : List Bool} (h : BlAt w a es) (hb : Below w.heap.size w w') : BlAt w' a es := fun j e hj => by
  obtain ⟨b, off, h1, h2, h3⟩ := h j e hj
  exact ⟨b, off, h1, Nat.lt_of_lt_of_le h2 hb.size, by rw [hb.cell (p := ⟨b, off + j, none⟩) h2]; exact h3⟩
theorem str_app (a b : List UInt8) : (⟨a.toArray⟩ : ByteArray) ++ ⟨b.toArray⟩ = ⟨(a ++ b).toArray⟩ := by
  apply ByteArray.ext
  simp
theorem RowB.bp {w0 w : World} {g : Nat} {l : List UInt8} (h : RowB w0 w g l) : BP w g 0 l := ⟨h.lt, fun j c hj => by rw [Nat.zero_add]; exact h.cell j c hj⟩
/-- A string of one byte. -/
theorem one_string (w : World) (c : UInt8) : (convert 22 9 (.slice (some ⟨w.heap.size, 0, none⟩) 1 1)).run Tryd.prog (w.alloc (.cells #[.int .u8 c.toNat] 5)) = .ok (.string ⟨#[c]⟩) (w.alloc (.cells #[.int .u8 c.toNat] 5)) := by
  have h : Bs (w.alloc (.cells #[.int .u8 c.toNat] 5)) (some ⟨w.heap.size, 0, none⟩) [c] := (bp_const w [c] (0, 0)).bs
  exact bs_string' (n := 1) 1 h rfl
theorem heap1 (w : World) (o : Obj) : (w.alloc o).heap.size = w.heap.size + 1 := by simp
set_option maxHeartbeats 4000000 in
set_option maxRecDepth 100000 in
theorem folds_law (s : ByteArray) (a : Option Addr) (n cap : Nat) (bl : List Bool) (hbl : bl.length = n) (hn : n ≤ 9223372036854775807) (hs : s.size ≤ 9223372036854775807) (w : World) (hA : BlAt w a bl) (hM : Max w) :
    Calls Tryd.prog 6 #[.string s, .slice a n cap] w fun e w' => e = .returned (.bool true) ∧ Below w.heap.size w w' := by
  have c0 := shown_any w hM
  have hsz : s.data.toList.length = s.size := (Lib.size_eq s).symm
  have HBL := Lib.hid hbl
  go_enter Tryd.func6, Tryd.ntmps6
  go_wp2_with fail
  refine c0.mono ?_; rintro e w1 ⟨rfl, b1⟩
  have M1 := hM.below b1
  have A1 := hA.below b1
  clear c0 hA hM
  go_wp2_with fail
  go_loopw [6, 7, 8, 9] (fun v6 v7 v8 v9 wr => ∃ (ln fd : List UInt8) (k i : Nat), v6 = .string ⟨ln.toArray⟩ ∧ v7 = .string ⟨fd.toArray⟩ ∧ v8 = .int .i64 k ∧ v9 = .int .i64 i ∧ i ≤ 200 ∧ k ≤ i ∧ Hid (FR (valS s.data.toList) bl i k ln fd ∧ Below w1.heap.size w1 wr)) (fun v6 v7 v8 v9 wr => 200 - (intOf v9).toNat)
  case atStart => exact ⟨preL, preL, 0, 0, rfl, rfl, rfl, rfl, by omega, by omega, Lib.hid ⟨FR.start _ _, Below.refl _ _⟩⟩
  case round =>
    obtain ⟨ln, fd, k, i, rfl, rfl, rfl, rfl, hi, hk, HR⟩ := hrel
    by_cases hlt : i < s.size ∧ i < 200
    · obtain ⟨h1, h2⟩ := hlt
      have hl : i < s.data.toList.length := by omega
      have hsn : s[i]'h1 = s.data.toList[i]'hl := rfl
      have hFR := HR.out.1
      have hl1 : ln.length ≤ 300 := by have := hFR.2.2.1; omega
      have hl2 : fd.length ≤ 900 := by have := hFR.2.2.2; omega
      have HB := Lib.hid HR.out.2
      have hcb := (s.data.toList[i]'hl).toNat_lt
      have hlet := fun hc => hFR.letter hl h2 hc
      have hblk := fun hc hk => hFR.blank hl h2 hc hk
      have hflg := fun hc f hk => hFR.flag hl h2 hc f hk
      have hcn := fun hc => cv_num (c := s.data.toList[i]'hl) hc
      have hc32 : s.data.toList[i]'hl = 32 → cv (s.data.toList[i]'hl) = 32 := fun e => by rw [e]; rfl
      generalize s.data.toList[i]'hl = c at *
      have h2' : (i : Int) < 200 := by omega
      have HLN : Hid ((⟨ln.toArray⟩ : ByteArray) ++ ⟨#[cv c]⟩ = ⟨(ln ++ [cv c]).toArray⟩) := Lib.hid (str_app ln [cv c])
      clear HR hFR hl
      by_cases hc : c = 32
      · have hcv := hc32 hc
        have f1 : (c.toNat : Int) = 32 := by rw [hc]; rfl
        have f1' := beq_yes f1
        have f1'' := bne_yes f1
        by_cases hkn : k < n
        · have hkb : k < bl.length := by omega
          have hbk : bl[k]? = some bl[k] := List.getElem?_eq_getElem hkb
          have hF := hflg hcv bl[k] hbk
          obtain ⟨bb, off, rfl, hlt2, hcell⟩ := (A1.below HB.out) k _ hbk
          have hkn' : (k : Int) < n := by omega
          generalize bl[k] = fl at *
          have HF := Lib.hid hF
          have HN := Lib.hid hkb
          clear hF hflg hblk hlet hcn hc32 hkb hbk hcv HLN hsz hcb hbl
          have HC := Lib.hid hc
          clear hc
          have ho := fun w => one_string w 32
          have ho2 := one_string (wr.alloc (.cells #[.int .u8 (32 : UInt8).toNat] 5)) 32
          rw [heap1, show ((32 : UInt8).toNat : Int) = 32 from rfl] at ho2
          rw [show ((32 : UInt8).toNat : Int) = 32 from rfl] at ho
          cases fl
          · go_wp2
            exact ⟨⟨ln ++ [32], fd ++ [32], k + 1, i + 1, by rw [← str_app], by rw [← str_app], by go_num, by go_num, by omega, by omega, Lib.hid ⟨HF.out, HB.out.alloc HB.out.size _ |>.alloc (by have := HB.out.size; simp; omega) _⟩⟩, by simp [intOf]; omega⟩
          · go_wp2
            exact ⟨⟨ln ++ [32], fd ++ [13, 10] ++ [32], k + 1, i + 1, by rw [← str_app], by rw [← str_app, ← str_app], by go_num, by go_num, by omega, by omega, Lib.hid ⟨HF.out, HB.out.alloc HB.out.size _ |>.alloc (by have := HB.out.size; simp; omega) _⟩⟩, by simp [intOf]; omega⟩
        · have hF := hblk hcv (by rw [hbl]; omega)
          have hkn' : ¬ (k : Int) < n := by omega
          have HF := Lib.hid hF
          have ho := fun w => one_string w 32
          have ho2 := one_string (wr.alloc (.cells #[.int .u8 (32 : UInt8).toNat] 5)) 32
          rw [heap1, show ((32 : UInt8).toNat : Int) = 32 from rfl] at ho2
          rw [show ((32 : UInt8).toNat : Int) = 32 from rfl] at ho
          have HC := Lib.hid hc
          clear hF hflg hblk hlet hcn hc32 hcv HLN hsz hcb hbl hc
          go_wp2
          exact ⟨⟨ln ++ [32], fd ++ [32], k, i + 1, by rw [← str_app], by rw [← str_app], rfl, by go_num, by omega, by omega, Lib.hid ⟨HF.out, HB.out.alloc HB.out.size _ |>.alloc (by have := HB.out.size; simp; omega) _⟩⟩, by simp [intOf]; omega⟩
      · obtain ⟨hv, hv2⟩ := hcn hc
        have hF := hlet hv2
        have HF := Lib.hid hF
        have ho := fun w => one_string w (cv c)
        have ho2 := one_string (wr.alloc (.cells #[.int .u8 (cv c).toNat] 5)) (cv c)
        rw [heap1, hv] at ho2
        rw [hv] at ho
        have f1 : ¬ (c.toNat : Int) = 32 := nat_ne hc
        have f1' := beq_no f1
        have f1'' := bne_no f1
        have g1 : ¬ ((cv c).toNat : Int) = 32 := nat_ne hv2
        rw [hv] at g1
        have g1' := beq_no g1
        have HC := Lib.hid hc
        clear hF hflg hblk hlet hcn hc32 HLN hsz hbl hc hv hv2
        go_wp2
        exact ⟨⟨ln ++ [cv c], fd ++ [cv c], k, i + 1, by rw [← str_app], by rw [← str_app], rfl, by go_num, by omega, by omega, Lib.hid ⟨HF.out, HB.out.alloc HB.out.size _ |>.alloc (by have := HB.out.size; simp; omega) _⟩⟩, by simp [intOf]; omega⟩
    · have hov := HR.out.1.over (by rw [hsz]; exact hlt)
      have HB := Lib.hid HR.out.2
      have Mr := M1.below HB.out
      obtain ⟨p1, p2⟩ := folds_same (valS s.data.toList) bl (valS_pl _)
      rw [← hov.1] at p1
      rw [← hov.2] at p2
      have hl1 : ln.length ≤ 300 := by have := HR.out.1.2.2.1; omega
      have hl2 : fd.length ≤ 900 := by have := HR.out.1.2.2.2; omega
      have fF : fin [(nmL, 32 :: valS s.data.toList)] = [(nmL, trm (32 :: valS s.data.toList))] := rfl
      have hcnd : ¬ (i : Int) < s.size ∨ ((i : Int) < s.size ∧ ¬ (i : Int) < 200) := by omega
      have hle : (ln ++ endL).length = ln.length + 8 := by rw [List.length_append]; rfl
      have hfe : (fd ++ endL).length = fd.length + 8 := by rw [List.length_append]; rfl
      have k1 := fun (g cap : Nat) (w : World) (hM : Max w) (h : BP w g 0 (ln ++ endL)) (hc : ln.length + 8 ≤ cap) (hc2 : cap ≤ 9223372036854775807) => parse_any (ln ++ endL) g 0 (ln.length + 8) cap hle (by omega) hc hc2 w hM h
      have k2 := fun (g cap : Nat) (w : World) (hM : Max w) (h : BP w g 0 (fd ++ endL)) (hc : fd.length + 8 ≤ cap) (hc2 : cap ≤ 9223372036854775807) => parse_any (fd ++ endL) g 0 (fd.length + 8) cap hfe (by omega) hc hc2 w hM h
      rw [p1] at k1
      rw [p2] at k2
      unfold FPost at k1 k2
      dsimp only at k1 k2
      rw [fF] at k1 k2
      generalize trm (32 :: valS s.data.toList) = val at *
      have hz1 : (⟨(ln ++ endL).toArray⟩ : ByteArray).size = ln.length + 8 := hle
      have hz2 : (⟨(fd ++ endL).toArray⟩ : ByteArray).size = fd.length + 8 := hfe
      have hd1 : (⟨(ln ++ endL).toArray⟩ : ByteArray).data.toList = ln ++ endL := rfl
      have hd2 : (⟨(fd ++ endL).toArray⟩ : ByteArray).data.toList = fd ++ endL := rfl
      have ha1 : (⟨ln.toArray⟩ : ByteArray) ++ ⟨#[13, 10, 13, 10, 98, 111, 100, 121]⟩ = ⟨(ln ++ endL).toArray⟩ := str_app ln endL
      have ha2 : (⟨fd.toArray⟩ : ByteArray) ++ ⟨#[13, 10, 13, 10, 98, 111, 100, 121]⟩ = ⟨(fd ++ endL).toArray⟩ := str_app fd endL
      have hzl : (⟨ln.toArray⟩ : ByteArray).size = ln.length := rfl
      have hzf : (⟨fd.toArray⟩ : ByteArray).size = fd.length := rfl
      clear HR hov p1 p2 hlt hsz hbl fF M1 A1 hle hfe
      rcases hcnd with hcnd | ⟨hcnd, hcnd2⟩
      all_goals
        go_wp2_with (refine wpL_tobytes (w0 := wr) (s := ⟨(ln ++ endL).toArray⟩) rfl rfl (congrArg Value.string ha1) (Below.refl _ _) (by rw [hz1]; unfold maxLen; omega) ?_; intro cap1 w2 hr hc1 hc2 hb1)
        unfold maxLen at hc2
        rw [hz1] at hc1
        refine (k1 _ cap1 w2 (Mr.below hb1) hr.bp hc1 (by omega)).mono ?_; rintro e w3 ⟨⟨v1, rfl, F1⟩, b3⟩
        have B3 := hb1.trans (b3.mono hb1.size)
        have M3 := Mr.below B3
        have HB3 := Lib.hid (HB.out.trans (B3.mono HB.out.size))
        clear k1 hr hc1 hc2 hb1 b3 B3
        go_wp2_with (refine wpL_tobytes (w0 := w3) (s := ⟨(fd ++ endL).toArray⟩) rfl rfl (congrArg Value.string ha2) (Below.refl _ _) (by rw [hz2]; unfold maxLen; omega) ?_; intro cap2 w4 hr hc1 hc2 hb1)
        unfold maxLen at hc2
        rw [hz2] at hc1
        refine (k2 _ cap2 w4 (M3.below hb1) hr.bp hc1 (by omega)).mono ?_; rintro e w5 ⟨⟨v2, rfl, F2⟩, b5⟩
        have B5 := hb1.trans (b5.mono hb1.size)
        have HB5 := Lib.hid ((b1.trans (HB3.out.mono b1.size)).trans (B5.mono (b1.trans (HB3.out.mono b1.size)).size))
        obtain ⟨a1, cp1, rfl, _, h1⟩ := F1.below B5
        obtain ⟨a2, cp2, rfl, _, h2⟩ := F2
        rcases h1 with h1 | ⟨g1, o1, rfl, _, h1⟩
        · cases h1
        rcases h2 with h2 | ⟨g2, o2, rfl, _, h2⟩
        · cases h2
        have r0 : w5.cell? ⟨g1, o1, none⟩ = some (.string ⟨nmL.toArray⟩) := h1 0 _ rfl
        have r1 : w5.cell? ⟨g1, o1 + 1, none⟩ = some (.string ⟨val.toArray⟩) := h1 1 _ rfl
        have s0 : w5.cell? ⟨g2, o2, none⟩ = some (.string ⟨nmL.toArray⟩) := h2 0 _ rfl
        have s1 : w5.cell? ⟨g2, o2 + 1, none⟩ = some (.string ⟨val.toArray⟩) := h2 1 _ rfl
        generalize (⟨nmL.toArray⟩ : ByteArray) = nmv at *
        generalize (⟨val.toArray⟩ : ByteArray) = vv at *
        clear k2 hr hc1 hc2 hb1 b5 B5 h1 h2 M3 Mr HB HB3 b1 F1
        have hx1 : IntKind.i64.wrap ((ln.length : Int) + 4) = ln.length + 4 := wrapI (by omega) (by omega)
        have hx2 : IntKind.i64.wrap ((fd.length : Int) + 4) = fd.length + 4 := wrapI (by omega) (by omega)
        clear hcnd hl1 hl2
        go_wp2_with fail
        go_quiet (fail)
        go_wp2
        go_ret
        exact ⟨rfl, below_dN HB5.out _⟩
end Go.Proofs.YtjblfemkecmlmaaDoor
