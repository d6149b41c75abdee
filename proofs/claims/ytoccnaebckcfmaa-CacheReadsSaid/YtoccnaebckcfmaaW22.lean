/- What recorded does: a group read back out of the log. -/
import Derived.Test.YtoccnaebckcfmaaW21
set_option linter.unusedSimpArgs false
set_option linter.unusedVariables false
set_option maxRecDepth 8000
namespace Go.Proofs.Ytoccnaebckcfmaa
open Go.RowKit

/-- Bytes that stay where they are while a slice of puts is built. -/
def Src2 (w0 w : World) (F : List Nat) (av : Value) (v : Array Value) : Prop :=
  SecOk v ∧ ∃ g o cap, av = .slice (some ⟨g, o, none⟩) 64 cap ∧ g < w.heap.size ∧ g ∉ F ∧ w.rangeAt g o v.toList ∧ (g < w0.heap.size ∨ ∃ cs t, w.heap[g]? = some (.cells cs t (0, 0)) ∧ t ≠ 112)
theorem Src2.bytes {w0 w : World} {F : List Nat} {av : Value} {v : Array Value} (h : Src2 w0 w F av v) : Bytes64 w F av v := by
  obtain ⟨h1, g, o, cap, h2, h3, h4, h5, _⟩ := h
  exact ⟨h1, g, o, cap, h2, h3, h4, h5⟩
theorem Src2.keep {w0 w w' : World} {F : List Nat} {av : Value} {v : Array Value} (h : Src2 w0 w F av v) (hs : w.heap.size ≤ w'.heap.size) (hk : ∀ x, x < w.heap.size → (x < w0.heap.size ∨ ∃ cs t, w.heap[x]? = some (.cells cs t (0, 0)) ∧ t ≠ 112) → w'.heap[x]? = w.heap[x]?) : Src2 w0 w' F av v := by
  obtain ⟨h1, g, o, cap, h2, h3, h4, h5, h6⟩ := h
  have hg := hk g h3 h6
  refine ⟨h1, g, o, cap, h2, by omega, h4, fun j u hu => (World.cell?_of_block hg).trans (h5 j u hu), ?_⟩
  rcases h6 with h6 | ⟨cs, t, h6, h7⟩
  · exact .inl h6
  · exact .inr ⟨cs, t, hg.trans h6, h7⟩

/-- The slice v holds the puts ps; it is the law's own, and lies behind w0. -/
def Built (w0 w : World) (F : List Nat) (v : Value) (ps : List (Int × Array Value)) : Prop :=
  ∃ qs : List (Int × Value), qs.length = ps.length ∧ w.ownsRow w0.heap.size 112 2 v qs.length (qs.flatMap putCells) ∧ ∀ (i : Nat) (q : Int × Value) (p : Int × Array Value), qs[i]? = some q → ps[i]? = some p → q.1 = p.1 ∧ Src2 w0 w F q.2 p.2

theorem Built.nil (w0 w : World) (F : List Nat) : Built w0 w F (.slice none 0 0) [] := ⟨[], rfl, World.ownsRow_nil _ _ _ _, by simp⟩

theorem Built.keep {w0 w w' : World} {F : List Nat} {v : Value} {ps : List (Int × Array Value)} (h : Built w0 w F v ps) (ho : Only [] w w') : Built w0 w' F v ps := by
  obtain ⟨qs, h1, h2, h3⟩ := h
  refine ⟨qs, h1, ownsRow_congr' h2 (fun g hg => ho.block g (ownsRow_own h2 hg).2.1 (by simp)), fun i q p hq hp => ⟨(h3 i q p hq hp).1, (h3 i q p hq hp).2.keep ho.size (fun x hx _ => ho.block x hx (by simp))⟩⟩

theorem Built.slice {w0 w : World} {F : List Nat} {v : Value} {ps : List (Int × Array Value)} (h : Built w0 w F v ps) : ∃ a cap, v = .slice a ps.length cap := by
  obtain ⟨qs, h1, h2, h3⟩ := h
  rcases h2.2 with ⟨e, hn⟩ | ⟨g, cap, cur, e, _⟩
  · exact ⟨none, 0, by rw [e, ← h1, hn]⟩
  · exact ⟨_, cap, by rw [e, h1]⟩

/-- One put more. -/
theorem Built.append {w0 w : World} {F : List Nat} {v : Value} {ps : List (Int × Array Value)} (h : Built w0 w F v ps) (ho : Only [] w0 w) {i : Int} {av : Value} {x : Array Value} (hx : Src2 w0 w F av x) (hn : ps.length ≤ 100000) (ty : TypeId) :
    ∃ v' w', (Builtin.append_ #[79, 79] ty #[v, .slice (some ⟨w.heap.size, 0, none⟩) 1 1]).run Try.prog (w.alloc (.cells #[.int .i64 i, av] 112)) = .ok v' w' ∧ Built w0 w' F v' (ps ++ [(i, x)]) ∧ Only [] w0 w' ∧
      (∀ y, y < w.heap.size → v.ownBlock ≠ some y → w'.heap[y]? = w.heap[y]?) ∧ w.heap.size ≤ w'.heap.size := by
  obtain ⟨qs, h1, h2, h3⟩ := h
  obtain ⟨i0, hi, hz0, hz1, hz2⟩ := info_parts info54a
  have hav : ∃ g o cap, av = .slice (some ⟨g, o, none⟩) 64 cap := by obtain ⟨_, g, o, cap, e, _⟩ := hx; exact ⟨g, o, cap, e⟩
  have hone : ∀ u ∈ putCells (i, av), u.oneCell' = true := by
    obtain ⟨g, o, cap, rfl⟩ := hav
    intro u hu
    simp [putCells] at hu
    rcases hu with rfl | rfl <;> rfl
  have hblk := heap_alloc_last w (.cells #[.int .i64 i, av] 112)
  have SRC2 : ∀ j u, (putCells (i, av))[j]? = some u → (w.alloc (.cells #[.int .i64 i, av] 112)).cell? ((⟨w.heap.size, 0, none⟩ : Addr).add j) = some u := fun j u hu => by
    rw [Addr.add_mid, Nat.zero_add, cell_of_row _ _ _ _ _ _ hblk]
    simpa [putCells] using hu
  obtain ⟨v', w', hrun, hown, hgrow, hnil, hloc⟩ := run_append_own_at (P := Try.prog) (w.alloc (.cells #[.int .i64 i, av] 112)) w0.heap.size 79 ty 112 i0 _ 2 32 Try.underlying79 hi hz0 hz1 hz2 (by simp [Value.cells]) (by omega)
    v _ _ (World.ownsRow.alloc (w := w) h2 _) ⟨w.heap.size, 0, none⟩ 1 1 (putCells (i, av)) rfl SRC2 hone (by unfold maxLen; omega) (by omega) (by simp; exact Nat.le_succ_of_le ho.size)
  have hkeep : ∀ y, y < w.heap.size → v.ownBlock ≠ some y → w'.heap[y]? = w.heap[y]? := fun y hy hne =>
    (hgrow.block y (by simp; omega) (fun e => hne e.symm)).trans (Below.heap_alloc _ _ _ hy)
  have hsz : w.heap.size ≤ w'.heap.size := by have := hgrow.size; simp at this; omega
  have hown0 : ∀ y, v.ownBlock = some y → w0.heap.size ≤ y := fun y hy => (ownsRow_own h2 hy).1
  have hsrc : ∀ {av : Value} {x : Array Value}, Src2 w0 w F av x → Src2 w0 w' F av x := fun hs => hs.keep hsz (fun y hy hc => hkeep y hy (fun e => by
    rcases hc with hc | ⟨cs, t, hc, ht⟩
    · have := hown0 y e; omega
    · obtain ⟨_, _, cur, hcur⟩ := ownsRow_own h2 e
      rw [hcur] at hc
      simp at hc
      exact ht hc.2.symm))
  refine ⟨v', w', hrun, ⟨qs ++ [(i, av)], by simp [h1], ?_, ?_⟩, ?_, hkeep, hsz⟩
  · rw [List.flatMap_append, List.length_append]
    simpa using hown
  · intro j q p hq hp
    by_cases hj : j < qs.length
    · rw [List.getElem?_append_left hj] at hq
      rw [List.getElem?_append_left (by omega)] at hp
      obtain ⟨e1, e2⟩ := h3 j q p hq hp
      exact ⟨e1, hsrc e2⟩
    · rw [List.getElem?_append_right (by omega)] at hq
      rw [List.getElem?_append_right (by omega)] at hp
      have hj0 : j - qs.length = 0 := by
        have := (List.getElem?_eq_some_iff.1 hq).1
        simp at this; omega
      rw [hj0] at hq
      rw [← h1, hj0] at hp
      simp at hq hp
      subst hq hp
      exact ⟨rfl, hsrc hx⟩
  · exact (ho.alloc _).grown hgrow (fun k hk => .inr (hown0 k hk))

theorem Built.puts {w0 w : World} {F : List Nat} {v : Value} {ps : List (Int × Array Value)} (h : Built w0 w F v ps) (hF : ∀ x ∈ F, x < w0.heap.size) (hn : ps.length ≤ 1000000) : PutsAt w F v ps := by
  obtain ⟨qs, h1, h2, h3⟩ := h
  rcases h2.2 with ⟨e, hn0⟩ | ⟨g, cap, cur, e, hg, hh, _, _, hcs, hcur⟩
  · refine ⟨none, 0, by rw [e, ← h1, hn0], hn, fun i p hp => ?_⟩
    have := (List.getElem?_eq_some_iff.1 hp).1
    omega
  · refine ⟨_, cap, by rw [e, h1], hn, fun i p hp => ?_⟩
    have hi := (List.getElem?_eq_some_iff.1 hp).1
    obtain ⟨q, hq⟩ : ∃ q, qs[i]? = some q := ⟨_, List.getElem?_eq_getElem (by omega)⟩
    obtain ⟨e1, e2⟩ := h3 i q p hq hp
    obtain ⟨c0, c1⟩ := putCells_at qs i q hq
    refine ⟨g, 0, q.2, rfl, (Array.getElem?_eq_some_iff.1 hh).1, fun hx => by have := hF g hx; omega, ?_, ?_, e2.bytes⟩
    · rw [cell_of_row _ _ _ _ _ _ hh, ← e1, ← c0, ← hcur, List.getElem?_take_of_lt (by omega)]
      simp
    · rw [cell_of_row _ _ _ _ _ _ hh, ← c1, ← hcur, List.getElem?_take_of_lt (by omega)]
      simp


/-- The log from sector a on holds the group ps. -/
structure Holds (S : St) (a : Int) (ps : List (Int × Array Value)) : Prop where
  nums : ∀ i, i < numsF ps.length → (S.now (a + 1 + (i : Int))).getD Z = (numPut a ps i).2
  byts : ∀ i, i < ps.length → (S.now (a + 1 + (numsF ps.length : Int) + (i : Int))).getD Z = bytOf ps i

def numAt (ps : List (Int × Array Value)) (j : Nat) : Value := .int .i64 (if j < ps.length then secOf ps j else 0)
def RecPost (ps : List (Int × Array Value)) (F : List Nat) (w : World) (e : Ending) (w' : World) : Prop := ∃ v, e = .returned (.tuple #[v, .int .i64 0]) ∧ PutsAt w' F v ps ∧ Only [] w w'
theorem RecPost.mk {ps : List (Int × Array Value)} {F : List Nat} {w w' : World} {v : Value} (h : PutsAt w' F v ps) (ho : Only [] w w') : RecPost ps F w (.returned (.tuple #[v, .int .i64 0])) w' := Exists.intro v ⟨rfl, h, ho⟩
theorem info3a : (Try.prog.info? 3).map (fun i => (i.zero, i.size, i.bytes)) = some (some (.int .i64 0), 1, 8) := by kernel_rfl

theorem numPut_byte (a : Int) (ps : List (Int × Array Value)) (i : Nat) : ∃ f : Nat → Int, (∀ j, j < 64 → (numPut a ps i).2[j]? = some (.int .u8 (f j))) ∧ ∀ j, 0 ≤ f j ∧ f j < 256 := by
  have key : ∀ j, ∃ z : Int, (j < 64 → (numPut a ps i).2[j]? = some (.int .u8 z)) ∧ 0 ≤ z ∧ z < 256 := fun j => by
    by_cases hj : j < 64
    · simp only [numPut]
      generalize hm : min (i * 32 + 32) ps.length - i * 32 = m
      have hm32 : m ≤ 32 := by omega
      by_cases h : m * 2 ≤ j
      · exact ⟨0, fun _ => packed_ge _ m j h hj, by omega, by omega⟩
      · have := packed_at (fun j => secOf ps (i * 32 + j)) m (j / 2) (j % 2) (by omega) hm32 (by omega)
        rw [show j / 2 * 2 + j % 2 = j by omega] at this
        exact ⟨_, fun _ => this, le_bd _ _⟩
    · exact ⟨0, fun h => absurd h hj, by omega, by omega⟩
  obtain ⟨f, hf⟩ := Classical.axiomOfChoice key
  exact ⟨f, fun j hj => (hf j).1 hj, fun j => (hf j).2⟩

theorem does_nums {o : Oper} {a : Act} {w : World} {x : Operand} {n : Nat} {t : TypeId} (hn : n ≤ 1000000000) (ho : o.op = .call { callee := .value (.func 85), args := #[x], argTypes := #[t] }) (hx : a.eval x = .int .i64 n) : Does Try.prog o a w (.int .i64 (numsF n)) w :=
  .inr (.inr ⟨85, _, run_enter1 Try.call85 ho hx, (nums_any n w hn).mono fun e w' h => ⟨h.1, h.2.symm⟩⟩)

set_option maxRecDepth 100000 in
set_option maxHeartbeats 4000000 in
theorem recorded_any {w : World} {wb b : Nat} {F : List Nat} {S : St} {a s g : Int} {ps : List (Int × Array Value)} (hd : DAt w b F S) (hw : WalAt w wb b a s g) (hon : S.on = true) (ha : 0 ≤ a) (hs : 3 ≤ s) (has : a + s ≤ S.n) (hok : GroupOk a s S.n (rawsOf ps)) (hh : Holds S a ps) (hpb : ∀ p ∈ ps, SecOk p.2) (hne : 0 < ps.length) :
    Calls Try.prog 81 #[.pointer (some ⟨wb, 0, none⟩), .int .i64 (ps.length : Int)] w fun e w' => RecPost ps F w e w' := by
  have n1 : S.n ≤ 8192 := by obtain ⟨_, _, _, h, _⟩ := hd; exact h.ok.n1
  have hlen : (ps.length : Int) ≤ roomF s := by have := hok.1; simpa [rawsOf] using this
  have hfit := room_fits hs hlen
  have hrb := roomF_bd hs
  have hsec : ∀ j, j < ps.length → 0 ≤ secOf ps j ∧ secOf ps j < 65536 := fun j hj => by
    obtain ⟨p, hp⟩ : ∃ p, ps[j]? = some p := ⟨_, List.getElem?_eq_getElem hj⟩
    rw [(at_of hp).1]
    have := hok.2.1 (p.1, 64) (List.mem_map.2 ⟨p, List.mem_of_getElem? hp, rfl⟩)
    have h1 := this.1
    have h2 := this.2.1
    simp only at h1 h2
    omega
  have hlt0 := dAt_lt hd
  have HD := Lib.hid hd
  have HW := Lib.hid hw
  have HH := Lib.hid hh
  have HSEC := Lib.hid hsec
  have HPB := Lib.hid hpb
  have HF := Lib.hid hlt0
  have HON := Lib.hid hon
  have NS := Lib.hid (nums_any ps.length w (by omega))
  clear hd hw hh hsec hpb hlt0 hok hon hlen
  go_enter Try.func81, Try.ntmps81
  go_wp2_with (go_at_call 85; refine NS.out.mono ?_; rintro e w' ⟨rfl, rfl⟩)
  go_loopw [18, 6] (fun i c wr => ∃ k : Nat, k ≤ numsF ps.length ∧ i = .int .i64 k ∧ wr.ownsRow w.heap.size 3 1 c (k * 32) ((List.range (k * 32)).map (numAt ps)) ∧ Only [] w wr) (fun i _ _ => numsF ps.length - (intOf i).toNat)
  case atStart => exact ⟨0, by omega, rfl, by simpa using World.ownsRow_nil _ _ _ _, Only.refl _ _⟩
  case round =>
    obtain ⟨k, hk, rfl, hown, ho⟩ := hrel
    by_cases hlt : k < numsF ps.length
    · have hkn : k * 32 < ps.length := by unfold numsF at hlt; omega
      have hk2 : k ≤ 400 := by unfold numsF at hlt; omega
      have o1 : Only [] w wr.drew := ho.drew
      have d1 := HD.out.only o1 (by simp)
      obtain ⟨x0, x1, x2, x3, -⟩ := (HW.out.only o1 (by simp)).cells
      have RD := Lib.hid (read_ok d1 (a + 1 + (k : Int)) (by rw [St.reach, if_neg (by simp [HON.out]), if_neg (by omega)]))
      rw [HH.out.nums k hlt] at RD
      have own1 : wr.drew.ownsRow w.heap.size 3 1 u6 (k * 32) ((List.range (k * 32)).map (numAt ps)) := ownsRow_congr' hown (fun _ _ => rfl)
      have KEEP := Lib.hid (And.intro own1 o1)
      clear hown ho own1 o1 d1
      go_wp2_with fail
      refine wp_region_flowR Lat [0, 0, 0, 1, 0, 0, 0, 1, 0, 0, 0, 2, 0, 0, 0, 0, 0] (by kernel_rfl) (by kernel_rfl) Lat.refl Lat.trans ?_
      refine fr0 rfl (fun _ => rfl) ?_
      simp only [Act.put, List.setIfInBounds_toArray, List.set_cons_succ, List.set_cons_zero]
      refine fr0 rfl (fun _ => rfl) ?_
      simp only [Act.put, List.setIfInBounds_toArray, List.set_cons_succ, List.set_cons_zero]
      refine fr0 rfl (run_field75 (by omega) rfl rfl) ?_
      simp only [Act.put, List.setIfInBounds_toArray, List.set_cons_succ, List.set_cons_zero]
      refine fr1 (u := .pointer (some ⟨b, 0, none⟩)) rfl (fun x hx => run_load1 rfl rfl (hx.cell x0) isAgg25) ?_
      simp only [Act.put, List.setIfInBounds_toArray, List.set_cons_succ, List.set_cons_zero]
      refine fr0 rfl (fun _ => rfl) ?_
      simp only [Act.put, List.setIfInBounds_toArray, List.set_cons_succ, List.set_cons_zero]
      refine fr0 rfl (fun _ => rfl) ?_
      simp only [Act.put, List.setIfInBounds_toArray, List.set_cons_succ, List.set_cons_zero]
      refine fr0 rfl (run_field75 (by omega) rfl rfl) ?_
      simp only [Act.put, List.setIfInBounds_toArray, List.set_cons_succ, List.set_cons_zero]
      refine fr1 (u := .int .i64 a) rfl (fun x hx => run_load1 rfl rfl (hx.cell x1) isAgg3) ?_
      simp only [Act.put, List.setIfInBounds_toArray, List.set_cons_succ, List.set_cons_zero]
      refine fr0 (u := .int .i64 (a + 1)) rfl (run_add (by omega) (by omega) rfl rfl rfl) ?_
      simp only [Act.put, List.setIfInBounds_toArray, List.set_cons_succ, List.set_cons_zero]
      refine fr0 rfl (fun _ => rfl) ?_
      simp only [Act.put, List.setIfInBounds_toArray, List.set_cons_succ, List.set_cons_zero]
      refine fr0 (u := .int .i64 (a + 1 + (k : Int))) rfl (run_add (by omega) (by omega) rfl rfl rfl) ?_
      simp only [Act.put, List.setIfInBounds_toArray, List.set_cons_succ, List.set_cons_zero]
      refine fr2c rfl (run_enter2 Try.call33 rfl rfl rfl) RD.out ?_
      rintro e w2 ⟨rfl, hw2⟩
      refine ⟨_, rfl, by rw [hw2]; exact Lat.alloc _ _, ?_⟩
      simp only [Act.put, List.setIfInBounds_toArray, List.set_cons_succ, List.set_cons_zero]
      refine fr0 (u := .tuple #[.slice (some ⟨wr.drew.heap.size, 0, none⟩) 64 64, .int .i64 0]) rfl (fun _ => rfl) ?_
      simp only [Act.put, List.setIfInBounds_toArray, List.set_cons_succ, List.set_cons_zero]
      refine fr0 (u := .slice (some ⟨wr.drew.heap.size, 0, none⟩) 64 64) rfl (fun _ => rfl) ?_
      simp only [Act.put, List.setIfInBounds_toArray, List.set_cons_succ, List.set_cons_zero]
      refine fr0 (u := .int .i64 0) rfl (fun _ => rfl) ?_
      simp only [Act.put, List.setIfInBounds_toArray, List.set_cons_succ, List.set_cons_zero]
      refine fr0 (u := .slice (some ⟨wr.drew.heap.size, 0, none⟩) 64 64) rfl (fun _ => rfl) ?_
      simp only [Act.put, List.setIfInBounds_toArray, List.set_cons_succ, List.set_cons_zero]
      refine fr0 (u := .int .i64 0) rfl (fun _ => rfl) ?_
      simp only [Act.put, List.setIfInBounds_toArray, List.set_cons_succ, List.set_cons_zero]
      refine frnil ?_
      obtain ⟨fb, hfb, hfd⟩ := numPut_byte a ps k
      have hb2 : w2.heap[wr.drew.heap.size]? = some (.cells (numPut a ps k).2 93 (0, 0)) := by rw [hw2]; exact heap_alloc_last wr.drew _
      have o2 : Only [] w w2 := by rw [hw2]; exact KEEP.out.2.alloc _
      have own2 : w2.ownsRow w.heap.size 3 1 u6 (k * 32) ((List.range (k * 32)).map (numAt ps)) := by rw [hw2]; exact World.ownsRow.alloc KEEP.out.1 _
      have UN := Lib.hid (unpack_any w2 wr.drew.heap.size fb (fun j hj => by rw [cell_of_row _ _ _ _ _ _ hb2]; exact hfb j hj) (Array.getElem?_eq_some_iff.1 hb2).1 hfd)
      clear hw2 RD x0 x1 x2 x3 KEEP hb2
      generalize wr.drew.heap.size = gq at *
      have KEEP2 := Lib.hid (And.intro o2 own2)
      clear o2 own2
      go_wp2_with fail
      refine UN.out.mono ?_
      rintro e w3 ⟨rfl, ⟨A, hbA, hA⟩, o3⟩
      obtain ⟨o2, own2⟩ := KEEP2.out
      have own3 := ownsRow_congr' own2 (w' := w3) (fun g hg => o3.block g (ownsRow_own own2 hg).2.1 (by simp))
      obtain ⟨i0, hi, hz0, hz1, hz2⟩ := info_parts info3a
      have hunp : ∀ j, j < 32 → A[j]? = some (numAt ps (k * 32 + j)) := fun j hj => by
        rw [hA.got j hj]
        have := unp_packed (fun j => secOf ps (k * 32 + j)) (min (k * 32 + 32) ps.length - k * 32) (by omega) (fun j hj => HSEC.out _ (by omega)) (f := fb) (fun j hj => hfb j hj) j hj
        rw [this, numAt]
        by_cases hjm : k * 32 + j < ps.length
        · rw [if_pos (by omega), if_pos hjm]
        · rw [if_neg (by omega), if_neg hjm]
      obtain ⟨v', w', hrun, hown', hgrow, hnil, hloc⟩ := run_append_own_at (P := Try.prog) w3 w.heap.size 40 40 3 i0 _ 1 8 Try.underlying40 hi hz0 hz1 hz2 rfl (by omega)
        u6 _ _ own3 ⟨w2.heap.size, 0, none⟩ 32 32 ((List.range 32).map (fun j => numAt ps (k * 32 + j))) (by simp) (fun j u hu => by
          have hj : j < 32 := by have := (List.getElem?_eq_some_iff.1 hu).1; simpa using this
          simp [hj] at hu
          rw [Addr.add_mid, Nat.zero_add, cell_of_row _ _ _ _ _ _ hbA, hunp j hj, hu]) (fun u hu => by
          obtain ⟨j, _, rfl⟩ := List.mem_map.1 hu
          rfl) (by unfold maxLen; omega) (by omega) (by have := (o2.trans o3 (by simp)).size; exact this)
      have hlist : (List.range (k * 32)).map (numAt ps) ++ (List.range 32).map (fun j => numAt ps (k * 32 + j)) = (List.range ((k + 1) * 32)).map (numAt ps) := by
        rw [show (k + 1) * 32 = k * 32 + 32 by omega, List.range_add, List.map_append, List.map_map]
        rfl
      rw [hlist, show k * 32 + 32 = (k + 1) * 32 by omega] at hown'
      have o4 : Only [] w w' := (o2.trans o3 (by simp)).grown hgrow (fun y hy => .inr (ownsRow_own own3 hy).1)
      have RUN := Lib.hid hrun
      have FIN := Lib.hid (And.intro hown' o4)
      clear hrun hown' o4 hgrow hnil hloc hlist hunp own3 own2 o2 o3 hbA hA UN KEEP2 hi hz0 hz1 hz2
      go_wp2_with (refine wpL_value rfl (run_builtin_append rfl rfl rfl RUN.out) ?_)
      go_roundw
      case rel => exact ⟨k + 1, by omega, by go_num, FIN.out.1, FIN.out.2⟩
      case measure => simp [intOf]; omega
    · have hkl : k = numsF ps.length := by omega
      subst hkl
      have hnn : ps.length ≤ numsF ps.length * 32 := by unfold numsF; omega
      have hn400 : numsF ps.length ≤ 400 := by unfold numsF; omega
      obtain ⟨gn, capn, cur, rfl, hgn, hbn, hcap1, hcap2, hcs, hcur⟩ : ∃ gn capn cur, u6 = .slice (some ⟨gn, 0, none⟩) (numsF ps.length * 32) capn ∧ w.heap.size ≤ gn ∧ wr.heap[gn]? = some (.cells cur 3 (0, 0)) ∧ numsF ps.length * 32 ≤ capn ∧ capn ≤ maxLen ∧ cur.size = capn * 1 ∧ cur.toList.take (numsF ps.length * 32 * 1) = (List.range (numsF ps.length * 32)).map (numAt ps) := by
        rcases hown.2 with ⟨_, e⟩ | ⟨gn, capn, cur, e1, e2, e3, e4, e5, e6, e7⟩
        · omega
        · exact ⟨gn, capn, cur, e1, e2, e3, e4, e5, e6, e7⟩
      have hnum : ∀ j, j < ps.length → cur[j]? = some (.int .i64 (secOf ps j)) := fun j hj => by
        have h1 : (cur.toList.take (numsF ps.length * 32 * 1))[j]? = some (numAt ps j) := by rw [hcur, List.getElem?_map, List.getElem?_range (by omega)]; rfl
        rw [List.getElem?_take_of_lt (by omega)] at h1
        rw [← Array.getElem?_toList, h1, numAt, if_pos hj]
      have o1 : Only [] w wr.drew := ho.drew
      obtain ⟨x0, x1, x2, x3, -⟩ := (HW.out.only o1 (by simp)).cells
      have HNUM := Lib.hid hnum
      have KEEP := Lib.hid (And.intro hbn ho)
      have HCAP := Lib.hid hcap1
      have hcapn : ps.length ≤ capn := by omega
      have hdr : ∀ y : Nat, wr.drew.heap[y]? = wr.heap[y]? := fun _ => rfl
      clear hown ho o1 hbn hcap1 hcap2 hcs hcur hnum
      go_wp2_with fail
      refine wp_region_flowR Lat [0, 0, 0, 1, 0, 0, 1, 0, 0] (by kernel_rfl) (by kernel_rfl) Lat.refl Lat.trans ?_
      refine fr0 (u := .pointer (some ⟨wb, 0, none⟩)) rfl (fun _ => rfl) ?_
      simp only [Act.put, List.setIfInBounds_toArray, List.set_cons_succ, List.set_cons_zero]
      refine fr0 (u := .pointer (some ⟨wb, 0, none⟩)) rfl (fun _ => rfl) ?_
      simp only [Act.put, List.setIfInBounds_toArray, List.set_cons_succ, List.set_cons_zero]
      refine fr0 rfl (run_field75 (by omega) rfl rfl) ?_
      simp only [Act.put, List.setIfInBounds_toArray, List.set_cons_succ, List.set_cons_zero]
      refine fr1 (u := .int .i64 a) rfl (fun x hx => run_load1 rfl rfl (hx.cell x1) isAgg3) ?_
      simp only [Act.put, List.setIfInBounds_toArray, List.set_cons_succ, List.set_cons_zero]
      refine fr0 (u := .int .i64 (a + 1)) rfl (run_add (by omega) (by omega) rfl rfl rfl) ?_
      simp only [Act.put, List.setIfInBounds_toArray, List.set_cons_succ, List.set_cons_zero]
      refine fr0 (u := .int .i64 (ps.length : Int)) rfl (fun _ => rfl) ?_
      simp only [Act.put, List.setIfInBounds_toArray, List.set_cons_succ, List.set_cons_zero]
      refine fr1c (u := .int .i64 (numsF ps.length : Int)) rfl (fun x hx => does_nums (by omega) rfl rfl) ?_
      simp only [Act.put, List.setIfInBounds_toArray, List.set_cons_succ, List.set_cons_zero]
      refine fr0 (u := .int .i64 (a + 1 + (numsF ps.length : Int))) rfl (run_add (by omega) (by omega) rfl rfl rfl) ?_
      simp only [Act.put, List.setIfInBounds_toArray, List.set_cons_succ, List.set_cons_zero]
      refine fr0 (u := .int .i64 (a + 1 + (numsF ps.length : Int))) rfl (fun _ => rfl) ?_
      simp only [Act.put, List.setIfInBounds_toArray, List.set_cons_succ, List.set_cons_zero]
      refine frnil ?_
      have hbn : wr.drew.heap[gn]? = some (.cells cur 3 (0, 0)) := KEEP.out.1
      have ho : Only [] w wr.drew := KEEP.out.2.drew
      clear KEEP x0 x1 x2 x3
      generalize wr.drew = w9 at *
      have KEEP := Lib.hid (And.intro hbn ho)
      clear hbn ho hdr
      go_wp2
      go_loopw [57, 11] (fun i c wr => ∃ k : Nat, k ≤ ps.length ∧ i = .int .i64 k ∧ Built w wr F c (ps.take k) ∧ wr.heap[gn]? = some (.cells cur 3 (0, 0)) ∧ Only [] w wr) (fun i _ _ => ps.length - (intOf i).toNat)
      case atStart => exact ⟨0, by omega, rfl, by simpa using Built.nil w w9 F, KEEP.out.1, KEEP.out.2⟩
      case round =>
        rename World => wq
        obtain ⟨k, hk, rfl, hbl, hbn, ho⟩ := hrel
        by_cases hlt2 : k < ps.length
        · obtain ⟨p, hp⟩ : ∃ p, ps[k]? = some p := ⟨_, List.getElem?_eq_getElem hlt2⟩
          have hcn : wq.cell? ⟨gn, k, none⟩ = some (.int .i64 p.1) := by rw [cell_of_row _ _ _ _ _ _ hbn, HNUM.out k hlt2, (at_of hp).1]
          have d1 := HD.out.only ho (by simp)
          obtain ⟨x0, x1, x2, x3, -⟩ := (HW.out.only ho (by simp)).cells
          have RD := Lib.hid (read_ok d1 (a + 1 + (numsF ps.length : Int) + (k : Int)) (by rw [St.reach, if_neg (by simp [HON.out]), if_neg (by omega)]))
          rw [HH.out.byts k hlt2, (at_of hp).2] at RD
          have hbq := heap_alloc_last wq (.cells p.2 93)
          have oal : Only [] wq (wq.alloc (.cells p.2 93)) := (Only.refl [] wq).alloc _
          have hsrc : Src2 w (wq.alloc (.cells p.2 93)) F (.slice (some ⟨wq.heap.size, 0, none⟩) 64 64) p.2 := ⟨HPB.out p (List.mem_of_getElem? hp), wq.heap.size, 0, 64, rfl, by simp, fun hx => by have := HF.out _ hx; have := ho.size; omega, fun j u hu => by rw [Nat.zero_add, cell_of_row _ _ _ _ _ _ hbq]; simpa using hu, .inr ⟨_, 93, hbq, by decide⟩⟩
          obtain ⟨v3, w3, hrun, hbl3, o3, hk3, hs3⟩ := (hbl.keep oal).append (ho.trans oal (by simp)) (i := p.1) hsrc (by simp; omega) 79
          rw [World.size_alloc] at hrun
          have hbn3 : w3.heap[gn]? = some (.cells cur 3 (0, 0)) := by
            have h2 : (wq.alloc (.cells p.2 93)).heap[gn]? = some (.cells cur 3 (0, 0)) := (oal.block _ (Array.getElem?_eq_some_iff.1 hbn).1 (by simp)).trans hbn
            rw [hk3 _ (Array.getElem?_eq_some_iff.1 h2).1 (fun e => ?_)]
            · exact h2
            · obtain ⟨qs, _, q2, _⟩ := hbl.keep oal
              obtain ⟨_, _, cur', hcur'⟩ := ownsRow_own q2 e
              rw [hcur'] at h2
              simp at h2
          have ht : ps.take k ++ [(p.1, p.2)] = ps.take (k + 1) := by rw [List.take_add_one, hp]; rfl
          rw [ht] at hbl3
          have RUN := Lib.hid hrun
          have FIN := Lib.hid (And.intro hbl3 (And.intro hbn3 o3))
          clear hbl hbn ho d1 x1 x2 x3 hbq oal hsrc hrun hbl3 o3 hk3 hs3 hbn3 ht hp
          go_wp2_with (first | (go_at_call 33; refine RD.out.mono ?_; rintro e w' ⟨rfl, rfl⟩) | (refine wpL_value rfl (run_builtin_append rfl rfl rfl RUN.out) ?_))
          go_roundw
          case rel => exact ⟨k + 1, by omega, by go_num, FIN.out.1, FIN.out.2.1, FIN.out.2.2⟩
          case measure => simp [intOf]; omega
        · have hkl3 : k = ps.length := by omega
          subst hkl3
          rw [List.take_length] at hbl
          have FIN := Lib.hid (And.intro hbl ho)
          clear hbl hbn ho
          go_wp2
          go_ret2
          exact RecPost.mk (FIN.out.1.puts HF.out (by omega)) FIN.out.2

end Go.Proofs.Ytoccnaebckcfmaa
