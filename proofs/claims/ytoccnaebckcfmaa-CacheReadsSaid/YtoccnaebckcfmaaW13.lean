/- What Commit does. -/
import Derived.Test.YtoccnaebckcfmaaW12
set_option linter.unusedSimpArgs false
set_option linter.unusedVariables false
set_option maxRecDepth 8000
namespace Go.Proofs.Ytoccnaebckcfmaa
open Go.RowKit

def rawsOf (ps : List (Int × Array Value)) : List (Int × Nat) := ps.map (fun p => (p.1, 64))
theorem PutsAt.raws {w : World} {F : List Nat} {lv : Value} {ps : List (Int × Array Value)} (h : PutsAt w F lv ps) (hs : ∀ p ∈ ps, p.1 ≤ 9223372036854775807) : RawsAt w lv (rawsOf ps) := by
  obtain ⟨a, cap, h1, h2, h3⟩ := h.shape
  refine ⟨a, cap, by rw [rawsOf, List.length_map]; exact h1, fun i r hr => ?_⟩
  simp only [rawsOf, List.getElem?_map, Option.map_eq_some_iff] at hr
  obtain ⟨p, hp, rfl⟩ := hr
  obtain ⟨g, o, av, e1, e2, e3, e4, e5, e6⟩ := h3 i p hp
  obtain ⟨_, g', o', cap', rfl, _⟩ := e6
  exact ⟨hs p (List.mem_of_getElem? hp), g, o, _, cap', e1, e2, e4, e5⟩

structure Done where
  e : Int
  st : St
  g : Int

def St.commit (S : St) (a s g : Int) (ps : List (Int × Array Value)) : Done :=
  if (S.writeAll (copiesL a ps)).1 ≠ 0 then ⟨(S.writeAll (copiesL a ps)).1, (S.writeAll (copiesL a ps)).2, g⟩ else
  if ((S.writeAll (copiesL a ps)).2.writeAll [(a, headA a s (g + 1) ps.length)]).1 ≠ 0 then ⟨((S.writeAll (copiesL a ps)).2.writeAll [(a, headA a s (g + 1) ps.length)]).1, ((S.writeAll (copiesL a ps)).2.writeAll [(a, headA a s (g + 1) ps.length)]).2, g⟩ else
  if (((S.writeAll (copiesL a ps)).2.writeAll [(a, headA a s (g + 1) ps.length)]).2.finish a s ps (g + 1)).1 ≠ 0 then ⟨(((S.writeAll (copiesL a ps)).2.writeAll [(a, headA a s (g + 1) ps.length)]).2.finish a s ps (g + 1)).1, (((S.writeAll (copiesL a ps)).2.writeAll [(a, headA a s (g + 1) ps.length)]).2.finish a s ps (g + 1)).2, g⟩ else
  ⟨0, (((S.writeAll (copiesL a ps)).2.writeAll [(a, headA a s (g + 1) ps.length)]).2.finish a s ps (g + 1)).2, g + 1⟩

theorem copiesL_len (a : Int) (ps : List (Int × Array Value)) : (copiesL a ps).length = numsF ps.length + ps.length := by simp [copiesL]

/-- Behind a call on a log: the disk's new state, the log's count; nothing but their blocks has changed. -/
def WPost (w w' : World) (wb b : Nat) (F : List Nat) (S' : St) (a s g' : Int) : Prop := ∃ F', DAt w' b F' S' ∧ (∀ x ∈ F', x ∈ F ∨ w.heap.size ≤ x) ∧ Only (wb :: F) w w' ∧ WalAt w' wb b a s g'

theorem WPost.of {w w' : World} {wb b : Nat} {F : List Nat} {S' : St} {a s g : Int} (hp : DPost w w' b F S') (hw : WalAt w wb b a s g) (hwb : wb ∉ F) : WPost w w' wb b F S' a s g := by
  obtain ⟨F', d, f, o⟩ := hp
  exact ⟨F', d, f, o.mono (fun x hx => List.mem_cons_of_mem _ hx), hw.only o hwb⟩

set_option maxHeartbeats 1000000 in
theorem commit_no {w : World} {wb b : Nat} {F : List Nat} {S : St} {a s g : Int} {lv : Value} {rs : List (Int × Nat)} (hd : DAt w b F S) (hw : WalAt w wb b a s g) (hl : RawsAt w lv rs) (ha : 0 ≤ a) (ha1 : a ≤ 8192) (hs : 3 ≤ s) (hs1 : s ≤ 8192) (hno : ¬ GroupOk a s S.n rs) :
    Calls Try.prog 46 #[.pointer (some ⟨wb, 0, none⟩), lv] w fun e w' => e = .returned (.int .i64 20) ∧ Only [] w w' := by
  have VA := Lib.hid (valid_any hd hw hl ha ha1 hs hs1)
  obtain ⟨ad, cap, rfl, -⟩ := hl
  clear hd hw
  go_enter Try.func46, Try.ntmps46
  go_wp2_with fail
  refine VA.out.mono ?_
  rintro e w0 ⟨r, rfl, hr, o0⟩
  have hrf : r = false := by cases r with | false => rfl | true => exact absurd (hr.1 rfl) hno
  subst hrf
  have O0 := Lib.hid o0
  clear o0 hr hno
  go_wp2
  go_ret
  exact ⟨rfl, O0.out⟩

set_option maxHeartbeats 2000000 in
theorem commit_1 {w : World} {wb b : Nat} {F : List Nat} {S : St} {a s g : Int} {lv : Value} {ps : List (Int × Array Value)} (hd : DAt w b F S) (hw : WalAt w wb b a s g) (hwb : wb ∉ F) (hl : PutsAt w F lv ps) (ha : 0 ≤ a) (ha1 : a ≤ 8192) (hs : 3 ≤ s) (hs1 : s ≤ 8192) (hg : 0 ≤ g) (hg1 : g ≤ 1000000000) (hok : GroupOk a s S.n (rawsOf ps)) (hst : S.steps + 3 * ps.length + 100 < 1000000000) (hpd : S.pend.length + 3 * ps.length + 100 < 1000000000)
    (z1 : (S.writeAll (copiesL a ps)).1 ≠ 0) :
    Calls Try.prog 46 #[.pointer (some ⟨wb, 0, none⟩), lv] w fun e w' => e = .returned (.int .i64 (S.commit a s g ps).e) ∧ WPost w w' wb b F (S.commit a s g ps).st a s (S.commit a s g ps).g := by
  have hn1 : S.n ≤ 8192 := by obtain ⟨_, _, _, h, _⟩ := hd; exact h.ok.n1
  have hsec : ∀ p ∈ ps, 0 ≤ p.1 ∧ p.1 ≤ 8192 := fun p hp => by
    have := hok.2.1 (p.1, 64) (List.mem_map.2 ⟨p, hp, rfl⟩)
    have h1 := this.1
    have h2 := this.2.1
    simp only at h1 h2
    omega
  have hlen : ps.length ≤ 8192 := by
    have h1 := hok.1
    have h2 := roomF_bd hs
    simp only [rawsOf, List.length_map] at h1
    omega
  have hnums : numsF ps.length ≤ 300 ∧ numsF ps.length ≤ ps.length := by unfold numsF; omega
  have VA := Lib.hid (valid_any hd hw (hl.raws (fun p hp => by have := hsec p hp; omega)) ha ha1 hs hs1)
  obtain ⟨ad, cap, rfl, -, -⟩ := hl.shape
  have KEEP := Lib.hid (And.intro hd (And.intro hw hl))
  have HOK := Lib.hid hok
  have HSEC := Lib.hid hsec
  have hcl := copiesL_len a ps
  clear hd hw hl hok hsec
  go_enter Try.func46, Try.ntmps46
  go_wp2_with fail
  refine VA.out.mono ?_
  rintro e w0 ⟨r, rfl, hr, o0⟩
  have hrt : r = true := hr.2 HOK.out
  subst hrt
  clear hr VA
  go_wp2_with fail
  obtain ⟨hd, hw, hl⟩ := KEEP.out
  have o1 : Only [] w w0.drew := o0.drew
  have d1 := hd.only o1 (by simp)
  have w1 := hw.only o1 (by simp)
  have l1 := hl.only o1 (by simp)
  obtain ⟨x0, x1, x2, x3, -⟩ := w1.cells
  have hF1 : ∀ x ∈ F, x < w0.drew.heap.size := dAt_lt d1
  have CP := Lib.hid (copies_any w1 l1 hF1 (by omega) ha ha1 HSEC.out)
  refine wp_region_flowR Lat [0, 0, 0, 1, 0, 0, 2, 3, 0] (by kernel_rfl) (by kernel_rfl) Lat.refl Lat.trans ?_
  refine fr0 rfl (fun _ => rfl) ?_
  simp only [Act.put, List.setIfInBounds_toArray, List.set_cons_succ, List.set_cons_zero]
  refine fr0 rfl (fun _ => rfl) ?_
  simp only [Act.put, List.setIfInBounds_toArray, List.set_cons_succ, List.set_cons_zero]
  refine fr0 rfl (run_field75 (by omega) rfl rfl) ?_
  simp only [Act.put, List.setIfInBounds_toArray, List.set_cons_succ, List.set_cons_zero]
  refine fr1 (u := .pointer (some ⟨b, 0, none⟩)) rfl (fun x hx => run_load1 rfl rfl (hx.cell x0) isAgg25) ?_
  simp only [Act.put, List.setIfInBounds_toArray, List.set_cons_succ, List.set_cons_zero]
  refine fr0 rfl (fun _ => rfl) ?_
  simp only [Act.put, List.setIfInBounds_toArray, List.set_cons_succ, List.set_cons_zero]
  refine fr0 rfl (fun _ => rfl) ?_
  simp only [Act.put, List.setIfInBounds_toArray, List.set_cons_succ, List.set_cons_zero]
  refine fr2c rfl (run_enter2 Try.call72 rfl rfl rfl) CP.out ?_
  rintro e w2 ⟨cv, rfl, hcv, o2⟩
  refine ⟨_, rfl, o2.lat, ?_⟩
  simp only [Act.put, List.setIfInBounds_toArray, List.set_cons_succ, List.set_cons_zero]
  refine fr3c rfl (run_enter2 Try.call71 rfl rfl rfl) (writeAll_any (d1.only o2 (by simp)) hcv (by rw [hcl]; omega) (by rw [hcl]; omega)) ?_
  rintro e w3 ⟨rfl, F3, d3, f3, o3⟩
  refine ⟨_, rfl, ?_⟩
  simp only [Act.put, List.setIfInBounds_toArray, List.set_cons_succ, List.set_cons_zero]
  refine fr0 (u := .int .i64 (S.writeAll (copiesL a ps)).1) rfl (fun _ => rfl) ?_
  simp only [Act.put, List.setIfInBounds_toArray, List.set_cons_succ, List.set_cons_zero]
  refine frnil ?_
  show Exit.then _ _ _ _ _
  have o13 : Only F w w3 := ((o1.trans o2 (by simp)).mono (by simp)).trans o3 (fun x hx => .inl hx)
  have f13 : ∀ x ∈ F3, x ∈ F ∨ w.heap.size ≤ x := fun x hx => by
    rcases f3 x hx with h | h
    · exact .inl h
    · exact .inr (Nat.le_trans (o1.trans o2 (by simp)).size h)
  have w3' := hw.only o13 hwb
  have l3 := hl.step o13 (fun x hx => .inl hx) f13
  have bd1 := writeAll_bd (copiesL a ps) S
  rw [hcl] at bd1
  have hwb3 : wb ∉ F3 := fun hx => by
    rcases f13 _ hx with h | h
    · exact hwb h
    · have := hw.lt; omega
  clear o1 d1 w1 l1 x0 x1 x2 x3 hF1 CP hcv o2 o3 f3 o0
  have hres : S.commit a s g ps = ⟨(S.writeAll (copiesL a ps)).1, (S.writeAll (copiesL a ps)).2, g⟩ := by rw [St.commit, if_pos z1]
  have FIN := Lib.hid (And.intro hres (And.intro d3 (And.intro f13 (And.intro o13 w3'))))
  clear hres d3 f13 o13 w3' l3 hd hw hl
  go_wp2
  go_ret
  obtain ⟨hres, d3, f13, o13, w3'⟩ := FIN.out
  rw [hres]
  exact ⟨rfl, F3, d3, f13, o13.mono (fun x hx => List.mem_cons_of_mem _ hx), w3'⟩

set_option maxHeartbeats 2000000 in
theorem commit_2 {w : World} {wb b : Nat} {F : List Nat} {S : St} {a s g : Int} {lv : Value} {ps : List (Int × Array Value)} (hd : DAt w b F S) (hw : WalAt w wb b a s g) (hwb : wb ∉ F) (hl : PutsAt w F lv ps) (ha : 0 ≤ a) (ha1 : a ≤ 8192) (hs : 3 ≤ s) (hs1 : s ≤ 8192) (hg : 0 ≤ g) (hg1 : g ≤ 1000000000) (hok : GroupOk a s S.n (rawsOf ps)) (hst : S.steps + 3 * ps.length + 100 < 1000000000) (hpd : S.pend.length + 3 * ps.length + 100 < 1000000000)
    (z1 : (S.writeAll (copiesL a ps)).1 = 0) (z2 : ((S.writeAll (copiesL a ps)).2.writeAll [(a, headA a s (g + 1) ps.length)]).1 ≠ 0) :
    Calls Try.prog 46 #[.pointer (some ⟨wb, 0, none⟩), lv] w fun e w' => e = .returned (.int .i64 (S.commit a s g ps).e) ∧ WPost w w' wb b F (S.commit a s g ps).st a s (S.commit a s g ps).g := by
  have hn1 : S.n ≤ 8192 := by obtain ⟨_, _, _, h, _⟩ := hd; exact h.ok.n1
  have hsec : ∀ p ∈ ps, 0 ≤ p.1 ∧ p.1 ≤ 8192 := fun p hp => by
    have := hok.2.1 (p.1, 64) (List.mem_map.2 ⟨p, hp, rfl⟩)
    have h1 := this.1
    have h2 := this.2.1
    simp only at h1 h2
    omega
  have hlen : ps.length ≤ 8192 := by
    have h1 := hok.1
    have h2 := roomF_bd hs
    simp only [rawsOf, List.length_map] at h1
    omega
  have hnums : numsF ps.length ≤ 300 ∧ numsF ps.length ≤ ps.length := by unfold numsF; omega
  have VA := Lib.hid (valid_any hd hw (hl.raws (fun p hp => by have := hsec p hp; omega)) ha ha1 hs hs1)
  obtain ⟨ad, cap, rfl, -, -⟩ := hl.shape
  have KEEP := Lib.hid (And.intro hd (And.intro hw hl))
  have HOK := Lib.hid hok
  have HSEC := Lib.hid hsec
  have hcl := copiesL_len a ps
  clear hd hw hl hok hsec
  go_enter Try.func46, Try.ntmps46
  go_wp2_with fail
  refine VA.out.mono ?_
  rintro e w0 ⟨r, rfl, hr, o0⟩
  have hrt : r = true := hr.2 HOK.out
  subst hrt
  clear hr VA
  go_wp2_with fail
  obtain ⟨hd, hw, hl⟩ := KEEP.out
  have o1 : Only [] w w0.drew := o0.drew
  have d1 := hd.only o1 (by simp)
  have w1 := hw.only o1 (by simp)
  have l1 := hl.only o1 (by simp)
  obtain ⟨x0, x1, x2, x3, -⟩ := w1.cells
  have hF1 : ∀ x ∈ F, x < w0.drew.heap.size := dAt_lt d1
  have CP := Lib.hid (copies_any w1 l1 hF1 (by omega) ha ha1 HSEC.out)
  refine wp_region_flowR Lat [0, 0, 0, 1, 0, 0, 2, 3, 0] (by kernel_rfl) (by kernel_rfl) Lat.refl Lat.trans ?_
  refine fr0 rfl (fun _ => rfl) ?_
  simp only [Act.put, List.setIfInBounds_toArray, List.set_cons_succ, List.set_cons_zero]
  refine fr0 rfl (fun _ => rfl) ?_
  simp only [Act.put, List.setIfInBounds_toArray, List.set_cons_succ, List.set_cons_zero]
  refine fr0 rfl (run_field75 (by omega) rfl rfl) ?_
  simp only [Act.put, List.setIfInBounds_toArray, List.set_cons_succ, List.set_cons_zero]
  refine fr1 (u := .pointer (some ⟨b, 0, none⟩)) rfl (fun x hx => run_load1 rfl rfl (hx.cell x0) isAgg25) ?_
  simp only [Act.put, List.setIfInBounds_toArray, List.set_cons_succ, List.set_cons_zero]
  refine fr0 rfl (fun _ => rfl) ?_
  simp only [Act.put, List.setIfInBounds_toArray, List.set_cons_succ, List.set_cons_zero]
  refine fr0 rfl (fun _ => rfl) ?_
  simp only [Act.put, List.setIfInBounds_toArray, List.set_cons_succ, List.set_cons_zero]
  refine fr2c rfl (run_enter2 Try.call72 rfl rfl rfl) CP.out ?_
  rintro e w2 ⟨cv, rfl, hcv, o2⟩
  refine ⟨_, rfl, o2.lat, ?_⟩
  simp only [Act.put, List.setIfInBounds_toArray, List.set_cons_succ, List.set_cons_zero]
  refine fr3c rfl (run_enter2 Try.call71 rfl rfl rfl) (writeAll_any (d1.only o2 (by simp)) hcv (by rw [hcl]; omega) (by rw [hcl]; omega)) ?_
  rintro e w3 ⟨rfl, F3, d3, f3, o3⟩
  refine ⟨_, rfl, ?_⟩
  simp only [Act.put, List.setIfInBounds_toArray, List.set_cons_succ, List.set_cons_zero]
  refine fr0 (u := .int .i64 (S.writeAll (copiesL a ps)).1) rfl (fun _ => rfl) ?_
  simp only [Act.put, List.setIfInBounds_toArray, List.set_cons_succ, List.set_cons_zero]
  refine frnil ?_
  show Exit.then _ _ _ _ _
  have o13 : Only F w w3 := ((o1.trans o2 (by simp)).mono (by simp)).trans o3 (fun x hx => .inl hx)
  have f13 : ∀ x ∈ F3, x ∈ F ∨ w.heap.size ≤ x := fun x hx => by
    rcases f3 x hx with h | h
    · exact .inl h
    · exact .inr (Nat.le_trans (o1.trans o2 (by simp)).size h)
  have w3' := hw.only o13 hwb
  have l3 := hl.step o13 (fun x hx => .inl hx) f13
  have bd1 := writeAll_bd (copiesL a ps) S
  rw [hcl] at bd1
  have hwb3 : wb ∉ F3 := fun hx => by
    rcases f13 _ hx with h | h
    · exact hwb h
    · have := hw.lt; omega
  clear o1 d1 w1 l1 x0 x1 x2 x3 hF1 CP hcv o2 o3 f3 o0
  go_wp2_with fail
  obtain ⟨x0, x1, x2, x3, -⟩ := w3'.cells
  have hdr : ∀ {p : Addr} {u : Value}, w3.cell? p = some u → w3.drew.cell? p = some u := fun h => h
  refine wp_region_flowR Lat [0, 0, 0, 1, 0, 0, 0, 1, 0, 0, 0, 1, 0, 0, 0, 0, 2, 3] (by kernel_rfl) (by kernel_rfl) Lat.refl Lat.trans ?_
  refine fr0 rfl (fun _ => rfl) ?_
  simp only [Act.put, List.setIfInBounds_toArray, List.set_cons_succ, List.set_cons_zero]
  refine fr0 rfl (fun _ => rfl) ?_
  simp only [Act.put, List.setIfInBounds_toArray, List.set_cons_succ, List.set_cons_zero]
  refine fr0 rfl (run_field75 (by omega) rfl rfl) ?_
  simp only [Act.put, List.setIfInBounds_toArray, List.set_cons_succ, List.set_cons_zero]
  refine fr1 (u := .int .i64 a) rfl (fun x hx => run_load1 rfl rfl (hx.cell (hdr x1)) isAgg3) ?_
  simp only [Act.put, List.setIfInBounds_toArray, List.set_cons_succ, List.set_cons_zero]
  refine fr0 rfl (fun _ => rfl) ?_
  simp only [Act.put, List.setIfInBounds_toArray, List.set_cons_succ, List.set_cons_zero]
  refine fr0 rfl (fun _ => rfl) ?_
  simp only [Act.put, List.setIfInBounds_toArray, List.set_cons_succ, List.set_cons_zero]
  refine fr0 rfl (run_field75 (by omega) rfl rfl) ?_
  simp only [Act.put, List.setIfInBounds_toArray, List.set_cons_succ, List.set_cons_zero]
  refine fr1 (u := .int .i64 s) rfl (fun x hx => run_load1 rfl rfl (hx.cell (hdr x2)) isAgg3) ?_
  simp only [Act.put, List.setIfInBounds_toArray, List.set_cons_succ, List.set_cons_zero]
  refine fr0 rfl (fun _ => rfl) ?_
  simp only [Act.put, List.setIfInBounds_toArray, List.set_cons_succ, List.set_cons_zero]
  refine fr0 rfl (fun _ => rfl) ?_
  simp only [Act.put, List.setIfInBounds_toArray, List.set_cons_succ, List.set_cons_zero]
  refine fr0 rfl (run_field75 (by omega) rfl rfl) ?_
  simp only [Act.put, List.setIfInBounds_toArray, List.set_cons_succ, List.set_cons_zero]
  refine fr1 (u := .int .i64 g) rfl (fun x hx => run_load1 rfl rfl (hx.cell (hdr x3)) isAgg3) ?_
  simp only [Act.put, List.setIfInBounds_toArray, List.set_cons_succ, List.set_cons_zero]
  refine fr0 (u := .int .i64 (g + 1)) rfl (run_add (by omega) (by omega) rfl rfl rfl) ?_
  simp only [Act.put, List.setIfInBounds_toArray, List.set_cons_succ, List.set_cons_zero]
  refine fr0 rfl (fun _ => rfl) ?_
  simp only [Act.put, List.setIfInBounds_toArray, List.set_cons_succ, List.set_cons_zero]
  refine fr0 (u := .int .i64 (ps.length : Int)) rfl (run_len32 rfl rfl) ?_
  simp only [Act.put, List.setIfInBounds_toArray, List.set_cons_succ, List.set_cons_zero]
  refine fr0 (u := .agg #[.int .i64 a, .int .i64 s, .int .i64 (g + 1), .int .i64 (ps.length : Int)]) rfl (run_build78_4 rfl rfl rfl rfl rfl) ?_
  simp only [Act.put, List.setIfInBounds_toArray, List.set_cons_succ, List.set_cons_zero]
  refine fr2 (u := .pointer (some ⟨w3.drew.heap.size, 0, none⟩)) rfl (Lat.alloc _ _) (.inl (run_alloc78 rfl)) ?_
  simp only [Act.put, List.setIfInBounds_toArray, List.set_cons_succ, List.set_cons_zero]
  refine fr3 (u := undef) (w' := w3.drew.alloc (.cells #[.int .i64 a, .int .i64 s, .int .i64 (g + 1), .int .i64 (ps.length : Int)] 99)) rfl (.inr (.inl ⟨run_store78 rfl rfl (by kernel_rfl) rfl rfl rfl, rfl⟩)) ?_
  simp only [Act.put, List.setIfInBounds_toArray, List.set_cons_succ, List.set_cons_zero]
  refine frnil ?_
  show Exit.then _ _ _ _ _
  have o4 : Only [] w3 (w3.drew.alloc (.cells #[.int .i64 a, .int .i64 s, .int .i64 (g + 1), .int .i64 (ps.length : Int)] 99)) := (Only.refl [] w3).drew.alloc _
  have hhd : (w3.drew.alloc (.cells #[.int .i64 a, .int .i64 s, .int .i64 (g + 1), .int .i64 (ps.length : Int)] 99)).heap[w3.heap.size]? = some (.cells #[.int .i64 a, .int .i64 s, .int .i64 (g + 1), .int .i64 (ps.length : Int)] 99 (0, 0)) := heap_alloc_last w3.drew _
  have hsz3 : w3.drew.heap.size = w3.heap.size := rfl
  rw [hsz3]
  clear hsz3
  generalize w3.drew.alloc (.cells #[.int .i64 a, .int .i64 s, .int .i64 (g + 1), .int .i64 (ps.length : Int)] 99) = w4 at *
  clear hdr x0 x1 x2 x3
  have HHD := Lib.hid hhd
  clear hhd
  go_wp2_with fail
  have d4 := (d3.only o4 (by simp)).drew
  have w4' := (w3'.only o4 (by simp))
  obtain ⟨x0, x1, x2, x3, -⟩ := w4'.cells
  have hdr : ∀ {p : Addr} {u : Value}, w4.cell? p = some u → w4.drew.cell? p = some u := fun h => h
  have hhd4 : w4.drew.heap[w3.heap.size]? = some (.cells #[.int .i64 a, .int .i64 s, .int .i64 (g + 1), .int .i64 (ps.length : Int)] 99 (0, 0)) := HHD.out
  have WH := Lib.hid (writeHead_any d4 a s (g + 1) ps.length ⟨ha, by omega⟩ ⟨by omega, by omega⟩ ⟨by omega, by omega⟩ ⟨by omega, by omega⟩ (by omega) (by omega))
  refine wp_region_flowR Lat [0, 0, 0, 1, 1, 3, 0] (by kernel_rfl) (by kernel_rfl) Lat.refl Lat.trans ?_
  refine fr0 rfl (fun _ => rfl) ?_
  simp only [Act.put, List.setIfInBounds_toArray, List.set_cons_succ, List.set_cons_zero]
  refine fr0 rfl (fun _ => rfl) ?_
  simp only [Act.put, List.setIfInBounds_toArray, List.set_cons_succ, List.set_cons_zero]
  refine fr0 rfl (run_field75 (by omega) rfl rfl) ?_
  simp only [Act.put, List.setIfInBounds_toArray, List.set_cons_succ, List.set_cons_zero]
  refine fr1 (u := .pointer (some ⟨b, 0, none⟩)) rfl (fun x hx => run_load1 rfl rfl (hx.cell (hdr x0)) isAgg25) ?_
  simp only [Act.put, List.setIfInBounds_toArray, List.set_cons_succ, List.set_cons_zero]
  refine fr1 (u := .agg #[.int .i64 a, .int .i64 s, .int .i64 (g + 1), .int .i64 (ps.length : Int)]) rfl (fun x hx => run_load78 rfl rfl (hx.at hhd4) rfl) ?_
  simp only [Act.put, List.setIfInBounds_toArray, List.set_cons_succ, List.set_cons_zero]
  refine fr3c rfl (run_enter2 Try.call66 rfl rfl rfl) WH.out ?_
  rintro e w5 ⟨rfl, F5, d5, f5, o5⟩
  refine ⟨_, rfl, ?_⟩
  simp only [Act.put, List.setIfInBounds_toArray, List.set_cons_succ, List.set_cons_zero]
  refine fr0 (u := .int .i64 ((S.writeAll (copiesL a ps)).2.writeAll [(a, headA a s (g + 1) ps.length)]).1) rfl (fun _ => rfl) ?_
  simp only [Act.put, List.setIfInBounds_toArray, List.set_cons_succ, List.set_cons_zero]
  refine frnil ?_
  show Exit.then _ _ _ _ _
  have o35 : Only F3 w3 w5 := ((o4.drew).mono (by simp)).trans o5 (fun x hx => .inl hx)
  have f35 : ∀ x ∈ F5, x ∈ F3 ∨ w3.heap.size ≤ x := fun x hx => by
    rcases f5 x hx with h | h
    · exact .inl h
    · exact .inr (Nat.le_trans o4.drew.size h)
  have o15 : Only F w w5 := o13.trans o35 f13
  have f15 : ∀ x ∈ F5, x ∈ F ∨ w.heap.size ≤ x := fun x hx => by
    rcases f35 x hx with h | h
    · exact f13 x h
    · exact .inr (Nat.le_trans o13.size h)
  have w5' := hw.only o15 hwb
  have l5 := hl.step o15 (fun x hx => .inl hx) f15
  have hwb5 : wb ∉ F5 := fun hx => by
    rcases f15 _ hx with h | h
    · exact hwb h
    · have := hw.lt; omega
  have hF3s : w3.heap.size ∉ F3 := fun hx => by have := dAt_lt d3 _ hx; omega
  have hhd5 : w5.heap[w3.heap.size]? = some (.cells #[.int .i64 a, .int .i64 s, .int .i64 (g + 1), .int .i64 (ps.length : Int)] 99 (0, 0)) := (o5.block _ (Array.getElem?_eq_some_iff.1 hhd4).1 hF3s).trans hhd4
  have bd2 := writeAll_bd [(a, headA a s (g + 1) ps.length)] (S.writeAll (copiesL a ps)).2
  simp only [List.length_singleton] at bd2
  clear o4 d4 w4' x0 x1 x2 x3 hdr hhd4 WH f5 o5 o35 d3 l3 w3' o13 f13
  have hres : S.commit a s g ps = ⟨((S.writeAll (copiesL a ps)).2.writeAll [(a, headA a s (g + 1) ps.length)]).1, ((S.writeAll (copiesL a ps)).2.writeAll [(a, headA a s (g + 1) ps.length)]).2, g⟩ := by rw [St.commit, if_neg (by simp [z1]), if_pos z2]
  have FIN := Lib.hid (And.intro hres (And.intro d5 (And.intro f15 (And.intro o15 w5'))))
  clear hres d5 f15 o15 w5' l5 hd hw hl hhd5
  go_wp2
  go_ret
  obtain ⟨hres, d3, f13, o13, w3'⟩ := FIN.out
  rw [hres]
  exact ⟨rfl, F5, d3, f13, o13.mono (fun x hx => List.mem_cons_of_mem _ hx), w3'⟩

set_option maxHeartbeats 2000000 in
theorem commit_3 {w : World} {wb b : Nat} {F : List Nat} {S : St} {a s g : Int} {lv : Value} {ps : List (Int × Array Value)} (hd : DAt w b F S) (hw : WalAt w wb b a s g) (hwb : wb ∉ F) (hl : PutsAt w F lv ps) (ha : 0 ≤ a) (ha1 : a ≤ 8192) (hs : 3 ≤ s) (hs1 : s ≤ 8192) (hg : 0 ≤ g) (hg1 : g ≤ 1000000000) (hok : GroupOk a s S.n (rawsOf ps)) (hst : S.steps + 3 * ps.length + 100 < 1000000000) (hpd : S.pend.length + 3 * ps.length + 100 < 1000000000)
    (z1 : (S.writeAll (copiesL a ps)).1 = 0) (z2 : ((S.writeAll (copiesL a ps)).2.writeAll [(a, headA a s (g + 1) ps.length)]).1 = 0) (z3 : (((S.writeAll (copiesL a ps)).2.writeAll [(a, headA a s (g + 1) ps.length)]).2.finish a s ps (g + 1)).1 ≠ 0) :
    Calls Try.prog 46 #[.pointer (some ⟨wb, 0, none⟩), lv] w fun e w' => e = .returned (.int .i64 (S.commit a s g ps).e) ∧ WPost w w' wb b F (S.commit a s g ps).st a s (S.commit a s g ps).g := by
  have hn1 : S.n ≤ 8192 := by obtain ⟨_, _, _, h, _⟩ := hd; exact h.ok.n1
  have hsec : ∀ p ∈ ps, 0 ≤ p.1 ∧ p.1 ≤ 8192 := fun p hp => by
    have := hok.2.1 (p.1, 64) (List.mem_map.2 ⟨p, hp, rfl⟩)
    have h1 := this.1
    have h2 := this.2.1
    simp only at h1 h2
    omega
  have hlen : ps.length ≤ 8192 := by
    have h1 := hok.1
    have h2 := roomF_bd hs
    simp only [rawsOf, List.length_map] at h1
    omega
  have hnums : numsF ps.length ≤ 300 ∧ numsF ps.length ≤ ps.length := by unfold numsF; omega
  have VA := Lib.hid (valid_any hd hw (hl.raws (fun p hp => by have := hsec p hp; omega)) ha ha1 hs hs1)
  obtain ⟨ad, cap, rfl, -, -⟩ := hl.shape
  have KEEP := Lib.hid (And.intro hd (And.intro hw hl))
  have HOK := Lib.hid hok
  have HSEC := Lib.hid hsec
  have hcl := copiesL_len a ps
  clear hd hw hl hok hsec
  go_enter Try.func46, Try.ntmps46
  go_wp2_with fail
  refine VA.out.mono ?_
  rintro e w0 ⟨r, rfl, hr, o0⟩
  have hrt : r = true := hr.2 HOK.out
  subst hrt
  clear hr VA
  go_wp2_with fail
  obtain ⟨hd, hw, hl⟩ := KEEP.out
  have o1 : Only [] w w0.drew := o0.drew
  have d1 := hd.only o1 (by simp)
  have w1 := hw.only o1 (by simp)
  have l1 := hl.only o1 (by simp)
  obtain ⟨x0, x1, x2, x3, -⟩ := w1.cells
  have hF1 : ∀ x ∈ F, x < w0.drew.heap.size := dAt_lt d1
  have CP := Lib.hid (copies_any w1 l1 hF1 (by omega) ha ha1 HSEC.out)
  refine wp_region_flowR Lat [0, 0, 0, 1, 0, 0, 2, 3, 0] (by kernel_rfl) (by kernel_rfl) Lat.refl Lat.trans ?_
  refine fr0 rfl (fun _ => rfl) ?_
  simp only [Act.put, List.setIfInBounds_toArray, List.set_cons_succ, List.set_cons_zero]
  refine fr0 rfl (fun _ => rfl) ?_
  simp only [Act.put, List.setIfInBounds_toArray, List.set_cons_succ, List.set_cons_zero]
  refine fr0 rfl (run_field75 (by omega) rfl rfl) ?_
  simp only [Act.put, List.setIfInBounds_toArray, List.set_cons_succ, List.set_cons_zero]
  refine fr1 (u := .pointer (some ⟨b, 0, none⟩)) rfl (fun x hx => run_load1 rfl rfl (hx.cell x0) isAgg25) ?_
  simp only [Act.put, List.setIfInBounds_toArray, List.set_cons_succ, List.set_cons_zero]
  refine fr0 rfl (fun _ => rfl) ?_
  simp only [Act.put, List.setIfInBounds_toArray, List.set_cons_succ, List.set_cons_zero]
  refine fr0 rfl (fun _ => rfl) ?_
  simp only [Act.put, List.setIfInBounds_toArray, List.set_cons_succ, List.set_cons_zero]
  refine fr2c rfl (run_enter2 Try.call72 rfl rfl rfl) CP.out ?_
  rintro e w2 ⟨cv, rfl, hcv, o2⟩
  refine ⟨_, rfl, o2.lat, ?_⟩
  simp only [Act.put, List.setIfInBounds_toArray, List.set_cons_succ, List.set_cons_zero]
  refine fr3c rfl (run_enter2 Try.call71 rfl rfl rfl) (writeAll_any (d1.only o2 (by simp)) hcv (by rw [hcl]; omega) (by rw [hcl]; omega)) ?_
  rintro e w3 ⟨rfl, F3, d3, f3, o3⟩
  refine ⟨_, rfl, ?_⟩
  simp only [Act.put, List.setIfInBounds_toArray, List.set_cons_succ, List.set_cons_zero]
  refine fr0 (u := .int .i64 (S.writeAll (copiesL a ps)).1) rfl (fun _ => rfl) ?_
  simp only [Act.put, List.setIfInBounds_toArray, List.set_cons_succ, List.set_cons_zero]
  refine frnil ?_
  show Exit.then _ _ _ _ _
  have o13 : Only F w w3 := ((o1.trans o2 (by simp)).mono (by simp)).trans o3 (fun x hx => .inl hx)
  have f13 : ∀ x ∈ F3, x ∈ F ∨ w.heap.size ≤ x := fun x hx => by
    rcases f3 x hx with h | h
    · exact .inl h
    · exact .inr (Nat.le_trans (o1.trans o2 (by simp)).size h)
  have w3' := hw.only o13 hwb
  have l3 := hl.step o13 (fun x hx => .inl hx) f13
  have bd1 := writeAll_bd (copiesL a ps) S
  rw [hcl] at bd1
  have hwb3 : wb ∉ F3 := fun hx => by
    rcases f13 _ hx with h | h
    · exact hwb h
    · have := hw.lt; omega
  clear o1 d1 w1 l1 x0 x1 x2 x3 hF1 CP hcv o2 o3 f3 o0
  go_wp2_with fail
  obtain ⟨x0, x1, x2, x3, -⟩ := w3'.cells
  have hdr : ∀ {p : Addr} {u : Value}, w3.cell? p = some u → w3.drew.cell? p = some u := fun h => h
  refine wp_region_flowR Lat [0, 0, 0, 1, 0, 0, 0, 1, 0, 0, 0, 1, 0, 0, 0, 0, 2, 3] (by kernel_rfl) (by kernel_rfl) Lat.refl Lat.trans ?_
  refine fr0 rfl (fun _ => rfl) ?_
  simp only [Act.put, List.setIfInBounds_toArray, List.set_cons_succ, List.set_cons_zero]
  refine fr0 rfl (fun _ => rfl) ?_
  simp only [Act.put, List.setIfInBounds_toArray, List.set_cons_succ, List.set_cons_zero]
  refine fr0 rfl (run_field75 (by omega) rfl rfl) ?_
  simp only [Act.put, List.setIfInBounds_toArray, List.set_cons_succ, List.set_cons_zero]
  refine fr1 (u := .int .i64 a) rfl (fun x hx => run_load1 rfl rfl (hx.cell (hdr x1)) isAgg3) ?_
  simp only [Act.put, List.setIfInBounds_toArray, List.set_cons_succ, List.set_cons_zero]
  refine fr0 rfl (fun _ => rfl) ?_
  simp only [Act.put, List.setIfInBounds_toArray, List.set_cons_succ, List.set_cons_zero]
  refine fr0 rfl (fun _ => rfl) ?_
  simp only [Act.put, List.setIfInBounds_toArray, List.set_cons_succ, List.set_cons_zero]
  refine fr0 rfl (run_field75 (by omega) rfl rfl) ?_
  simp only [Act.put, List.setIfInBounds_toArray, List.set_cons_succ, List.set_cons_zero]
  refine fr1 (u := .int .i64 s) rfl (fun x hx => run_load1 rfl rfl (hx.cell (hdr x2)) isAgg3) ?_
  simp only [Act.put, List.setIfInBounds_toArray, List.set_cons_succ, List.set_cons_zero]
  refine fr0 rfl (fun _ => rfl) ?_
  simp only [Act.put, List.setIfInBounds_toArray, List.set_cons_succ, List.set_cons_zero]
  refine fr0 rfl (fun _ => rfl) ?_
  simp only [Act.put, List.setIfInBounds_toArray, List.set_cons_succ, List.set_cons_zero]
  refine fr0 rfl (run_field75 (by omega) rfl rfl) ?_
  simp only [Act.put, List.setIfInBounds_toArray, List.set_cons_succ, List.set_cons_zero]
  refine fr1 (u := .int .i64 g) rfl (fun x hx => run_load1 rfl rfl (hx.cell (hdr x3)) isAgg3) ?_
  simp only [Act.put, List.setIfInBounds_toArray, List.set_cons_succ, List.set_cons_zero]
  refine fr0 (u := .int .i64 (g + 1)) rfl (run_add (by omega) (by omega) rfl rfl rfl) ?_
  simp only [Act.put, List.setIfInBounds_toArray, List.set_cons_succ, List.set_cons_zero]
  refine fr0 rfl (fun _ => rfl) ?_
  simp only [Act.put, List.setIfInBounds_toArray, List.set_cons_succ, List.set_cons_zero]
  refine fr0 (u := .int .i64 (ps.length : Int)) rfl (run_len32 rfl rfl) ?_
  simp only [Act.put, List.setIfInBounds_toArray, List.set_cons_succ, List.set_cons_zero]
  refine fr0 (u := .agg #[.int .i64 a, .int .i64 s, .int .i64 (g + 1), .int .i64 (ps.length : Int)]) rfl (run_build78_4 rfl rfl rfl rfl rfl) ?_
  simp only [Act.put, List.setIfInBounds_toArray, List.set_cons_succ, List.set_cons_zero]
  refine fr2 (u := .pointer (some ⟨w3.drew.heap.size, 0, none⟩)) rfl (Lat.alloc _ _) (.inl (run_alloc78 rfl)) ?_
  simp only [Act.put, List.setIfInBounds_toArray, List.set_cons_succ, List.set_cons_zero]
  refine fr3 (u := undef) (w' := w3.drew.alloc (.cells #[.int .i64 a, .int .i64 s, .int .i64 (g + 1), .int .i64 (ps.length : Int)] 99)) rfl (.inr (.inl ⟨run_store78 rfl rfl (by kernel_rfl) rfl rfl rfl, rfl⟩)) ?_
  simp only [Act.put, List.setIfInBounds_toArray, List.set_cons_succ, List.set_cons_zero]
  refine frnil ?_
  show Exit.then _ _ _ _ _
  have o4 : Only [] w3 (w3.drew.alloc (.cells #[.int .i64 a, .int .i64 s, .int .i64 (g + 1), .int .i64 (ps.length : Int)] 99)) := (Only.refl [] w3).drew.alloc _
  have hhd : (w3.drew.alloc (.cells #[.int .i64 a, .int .i64 s, .int .i64 (g + 1), .int .i64 (ps.length : Int)] 99)).heap[w3.heap.size]? = some (.cells #[.int .i64 a, .int .i64 s, .int .i64 (g + 1), .int .i64 (ps.length : Int)] 99 (0, 0)) := heap_alloc_last w3.drew _
  have hsz3 : w3.drew.heap.size = w3.heap.size := rfl
  rw [hsz3]
  clear hsz3
  generalize w3.drew.alloc (.cells #[.int .i64 a, .int .i64 s, .int .i64 (g + 1), .int .i64 (ps.length : Int)] 99) = w4 at *
  clear hdr x0 x1 x2 x3
  have HHD := Lib.hid hhd
  clear hhd
  go_wp2_with fail
  have d4 := (d3.only o4 (by simp)).drew
  have w4' := (w3'.only o4 (by simp))
  obtain ⟨x0, x1, x2, x3, -⟩ := w4'.cells
  have hdr : ∀ {p : Addr} {u : Value}, w4.cell? p = some u → w4.drew.cell? p = some u := fun h => h
  have hhd4 : w4.drew.heap[w3.heap.size]? = some (.cells #[.int .i64 a, .int .i64 s, .int .i64 (g + 1), .int .i64 (ps.length : Int)] 99 (0, 0)) := HHD.out
  have WH := Lib.hid (writeHead_any d4 a s (g + 1) ps.length ⟨ha, by omega⟩ ⟨by omega, by omega⟩ ⟨by omega, by omega⟩ ⟨by omega, by omega⟩ (by omega) (by omega))
  refine wp_region_flowR Lat [0, 0, 0, 1, 1, 3, 0] (by kernel_rfl) (by kernel_rfl) Lat.refl Lat.trans ?_
  refine fr0 rfl (fun _ => rfl) ?_
  simp only [Act.put, List.setIfInBounds_toArray, List.set_cons_succ, List.set_cons_zero]
  refine fr0 rfl (fun _ => rfl) ?_
  simp only [Act.put, List.setIfInBounds_toArray, List.set_cons_succ, List.set_cons_zero]
  refine fr0 rfl (run_field75 (by omega) rfl rfl) ?_
  simp only [Act.put, List.setIfInBounds_toArray, List.set_cons_succ, List.set_cons_zero]
  refine fr1 (u := .pointer (some ⟨b, 0, none⟩)) rfl (fun x hx => run_load1 rfl rfl (hx.cell (hdr x0)) isAgg25) ?_
  simp only [Act.put, List.setIfInBounds_toArray, List.set_cons_succ, List.set_cons_zero]
  refine fr1 (u := .agg #[.int .i64 a, .int .i64 s, .int .i64 (g + 1), .int .i64 (ps.length : Int)]) rfl (fun x hx => run_load78 rfl rfl (hx.at hhd4) rfl) ?_
  simp only [Act.put, List.setIfInBounds_toArray, List.set_cons_succ, List.set_cons_zero]
  refine fr3c rfl (run_enter2 Try.call66 rfl rfl rfl) WH.out ?_
  rintro e w5 ⟨rfl, F5, d5, f5, o5⟩
  refine ⟨_, rfl, ?_⟩
  simp only [Act.put, List.setIfInBounds_toArray, List.set_cons_succ, List.set_cons_zero]
  refine fr0 (u := .int .i64 ((S.writeAll (copiesL a ps)).2.writeAll [(a, headA a s (g + 1) ps.length)]).1) rfl (fun _ => rfl) ?_
  simp only [Act.put, List.setIfInBounds_toArray, List.set_cons_succ, List.set_cons_zero]
  refine frnil ?_
  show Exit.then _ _ _ _ _
  have o35 : Only F3 w3 w5 := ((o4.drew).mono (by simp)).trans o5 (fun x hx => .inl hx)
  have f35 : ∀ x ∈ F5, x ∈ F3 ∨ w3.heap.size ≤ x := fun x hx => by
    rcases f5 x hx with h | h
    · exact .inl h
    · exact .inr (Nat.le_trans o4.drew.size h)
  have o15 : Only F w w5 := o13.trans o35 f13
  have f15 : ∀ x ∈ F5, x ∈ F ∨ w.heap.size ≤ x := fun x hx => by
    rcases f35 x hx with h | h
    · exact f13 x h
    · exact .inr (Nat.le_trans o13.size h)
  have w5' := hw.only o15 hwb
  have l5 := hl.step o15 (fun x hx => .inl hx) f15
  have hwb5 : wb ∉ F5 := fun hx => by
    rcases f15 _ hx with h | h
    · exact hwb h
    · have := hw.lt; omega
  have hF3s : w3.heap.size ∉ F3 := fun hx => by have := dAt_lt d3 _ hx; omega
  have hhd5 : w5.heap[w3.heap.size]? = some (.cells #[.int .i64 a, .int .i64 s, .int .i64 (g + 1), .int .i64 (ps.length : Int)] 99 (0, 0)) := (o5.block _ (Array.getElem?_eq_some_iff.1 hhd4).1 hF3s).trans hhd4
  have bd2 := writeAll_bd [(a, headA a s (g + 1) ps.length)] (S.writeAll (copiesL a ps)).2
  simp only [List.length_singleton] at bd2
  clear o4 d4 w4' x0 x1 x2 x3 hdr hhd4 WH f5 o5 o35 d3 l3 w3' o13 f13
  have xc : w5.cell? ⟨w3.heap.size, 2, none⟩ = some (.int .i64 (g + 1)) := by rw [cell_of_row _ _ _ _ _ _ hhd5]; rfl
  have FI := Lib.hid (finish_any (g := g + 1) d5 w5' hwb5 l5 ⟨ha, by omega⟩ ⟨by omega, by omega⟩ ⟨by omega, by omega⟩ (by omega) (by omega))
  have KEEP2 := Lib.hid (And.intro d5 (And.intro f15 (And.intro o15 (And.intro w5' hhd5))))
  clear d5 f15 o15 w5' l5 hhd5
  go_wp2_with (go_at_call 73; refine FI.out.mono ?_; rintro e w6 ⟨rfl, F6, d6, f6, o6⟩)
  go_ret
  have hres : S.commit a s g ps = ⟨(((S.writeAll (copiesL a ps)).2.writeAll [(a, headA a s (g + 1) ps.length)]).2.finish a s ps (g + 1)).1, (((S.writeAll (copiesL a ps)).2.writeAll [(a, headA a s (g + 1) ps.length)]).2.finish a s ps (g + 1)).2, g⟩ := by rw [St.commit, if_neg (by simp [z1]), if_neg (by simp [z2]), if_pos z3]
  rw [hres]
  obtain ⟨d5, f15, o15, w5', hhd5⟩ := KEEP2.out
  have f16 : ∀ x ∈ F6, x ∈ F ∨ w.heap.size ≤ x := fun x hx => by
    rcases f6 x hx with h | h
    · exact f15 x h
    · exact .inr (Nat.le_trans o15.size h)
  have o16 : Only F w w6 := o15.trans o6 f15
  exact ⟨rfl, F6, d6, f16, o16.mono (fun x hx => List.mem_cons_of_mem _ hx), w5'.only o6 hwb5⟩

set_option maxHeartbeats 2000000 in
theorem commit_4 {w : World} {wb b : Nat} {F : List Nat} {S : St} {a s g : Int} {lv : Value} {ps : List (Int × Array Value)} (hd : DAt w b F S) (hw : WalAt w wb b a s g) (hwb : wb ∉ F) (hl : PutsAt w F lv ps) (ha : 0 ≤ a) (ha1 : a ≤ 8192) (hs : 3 ≤ s) (hs1 : s ≤ 8192) (hg : 0 ≤ g) (hg1 : g ≤ 1000000000) (hok : GroupOk a s S.n (rawsOf ps)) (hst : S.steps + 3 * ps.length + 100 < 1000000000) (hpd : S.pend.length + 3 * ps.length + 100 < 1000000000)
    (z1 : (S.writeAll (copiesL a ps)).1 = 0) (z2 : ((S.writeAll (copiesL a ps)).2.writeAll [(a, headA a s (g + 1) ps.length)]).1 = 0) (z3 : (((S.writeAll (copiesL a ps)).2.writeAll [(a, headA a s (g + 1) ps.length)]).2.finish a s ps (g + 1)).1 = 0) :
    Calls Try.prog 46 #[.pointer (some ⟨wb, 0, none⟩), lv] w fun e w' => e = .returned (.int .i64 (S.commit a s g ps).e) ∧ WPost w w' wb b F (S.commit a s g ps).st a s (S.commit a s g ps).g := by
  have hn1 : S.n ≤ 8192 := by obtain ⟨_, _, _, h, _⟩ := hd; exact h.ok.n1
  have hsec : ∀ p ∈ ps, 0 ≤ p.1 ∧ p.1 ≤ 8192 := fun p hp => by
    have := hok.2.1 (p.1, 64) (List.mem_map.2 ⟨p, hp, rfl⟩)
    have h1 := this.1
    have h2 := this.2.1
    simp only at h1 h2
    omega
  have hlen : ps.length ≤ 8192 := by
    have h1 := hok.1
    have h2 := roomF_bd hs
    simp only [rawsOf, List.length_map] at h1
    omega
  have hnums : numsF ps.length ≤ 300 ∧ numsF ps.length ≤ ps.length := by unfold numsF; omega
  have VA := Lib.hid (valid_any hd hw (hl.raws (fun p hp => by have := hsec p hp; omega)) ha ha1 hs hs1)
  obtain ⟨ad, cap, rfl, -, -⟩ := hl.shape
  have KEEP := Lib.hid (And.intro hd (And.intro hw hl))
  have HOK := Lib.hid hok
  have HSEC := Lib.hid hsec
  have hcl := copiesL_len a ps
  clear hd hw hl hok hsec
  go_enter Try.func46, Try.ntmps46
  go_wp2_with fail
  refine VA.out.mono ?_
  rintro e w0 ⟨r, rfl, hr, o0⟩
  have hrt : r = true := hr.2 HOK.out
  subst hrt
  clear hr VA
  go_wp2_with fail
  obtain ⟨hd, hw, hl⟩ := KEEP.out
  have o1 : Only [] w w0.drew := o0.drew
  have d1 := hd.only o1 (by simp)
  have w1 := hw.only o1 (by simp)
  have l1 := hl.only o1 (by simp)
  obtain ⟨x0, x1, x2, x3, -⟩ := w1.cells
  have hF1 : ∀ x ∈ F, x < w0.drew.heap.size := dAt_lt d1
  have CP := Lib.hid (copies_any w1 l1 hF1 (by omega) ha ha1 HSEC.out)
  refine wp_region_flowR Lat [0, 0, 0, 1, 0, 0, 2, 3, 0] (by kernel_rfl) (by kernel_rfl) Lat.refl Lat.trans ?_
  refine fr0 rfl (fun _ => rfl) ?_
  simp only [Act.put, List.setIfInBounds_toArray, List.set_cons_succ, List.set_cons_zero]
  refine fr0 rfl (fun _ => rfl) ?_
  simp only [Act.put, List.setIfInBounds_toArray, List.set_cons_succ, List.set_cons_zero]
  refine fr0 rfl (run_field75 (by omega) rfl rfl) ?_
  simp only [Act.put, List.setIfInBounds_toArray, List.set_cons_succ, List.set_cons_zero]
  refine fr1 (u := .pointer (some ⟨b, 0, none⟩)) rfl (fun x hx => run_load1 rfl rfl (hx.cell x0) isAgg25) ?_
  simp only [Act.put, List.setIfInBounds_toArray, List.set_cons_succ, List.set_cons_zero]
  refine fr0 rfl (fun _ => rfl) ?_
  simp only [Act.put, List.setIfInBounds_toArray, List.set_cons_succ, List.set_cons_zero]
  refine fr0 rfl (fun _ => rfl) ?_
  simp only [Act.put, List.setIfInBounds_toArray, List.set_cons_succ, List.set_cons_zero]
  refine fr2c rfl (run_enter2 Try.call72 rfl rfl rfl) CP.out ?_
  rintro e w2 ⟨cv, rfl, hcv, o2⟩
  refine ⟨_, rfl, o2.lat, ?_⟩
  simp only [Act.put, List.setIfInBounds_toArray, List.set_cons_succ, List.set_cons_zero]
  refine fr3c rfl (run_enter2 Try.call71 rfl rfl rfl) (writeAll_any (d1.only o2 (by simp)) hcv (by rw [hcl]; omega) (by rw [hcl]; omega)) ?_
  rintro e w3 ⟨rfl, F3, d3, f3, o3⟩
  refine ⟨_, rfl, ?_⟩
  simp only [Act.put, List.setIfInBounds_toArray, List.set_cons_succ, List.set_cons_zero]
  refine fr0 (u := .int .i64 (S.writeAll (copiesL a ps)).1) rfl (fun _ => rfl) ?_
  simp only [Act.put, List.setIfInBounds_toArray, List.set_cons_succ, List.set_cons_zero]
  refine frnil ?_
  show Exit.then _ _ _ _ _
  have o13 : Only F w w3 := ((o1.trans o2 (by simp)).mono (by simp)).trans o3 (fun x hx => .inl hx)
  have f13 : ∀ x ∈ F3, x ∈ F ∨ w.heap.size ≤ x := fun x hx => by
    rcases f3 x hx with h | h
    · exact .inl h
    · exact .inr (Nat.le_trans (o1.trans o2 (by simp)).size h)
  have w3' := hw.only o13 hwb
  have l3 := hl.step o13 (fun x hx => .inl hx) f13
  have bd1 := writeAll_bd (copiesL a ps) S
  rw [hcl] at bd1
  have hwb3 : wb ∉ F3 := fun hx => by
    rcases f13 _ hx with h | h
    · exact hwb h
    · have := hw.lt; omega
  clear o1 d1 w1 l1 x0 x1 x2 x3 hF1 CP hcv o2 o3 f3 o0
  go_wp2_with fail
  obtain ⟨x0, x1, x2, x3, -⟩ := w3'.cells
  have hdr : ∀ {p : Addr} {u : Value}, w3.cell? p = some u → w3.drew.cell? p = some u := fun h => h
  refine wp_region_flowR Lat [0, 0, 0, 1, 0, 0, 0, 1, 0, 0, 0, 1, 0, 0, 0, 0, 2, 3] (by kernel_rfl) (by kernel_rfl) Lat.refl Lat.trans ?_
  refine fr0 rfl (fun _ => rfl) ?_
  simp only [Act.put, List.setIfInBounds_toArray, List.set_cons_succ, List.set_cons_zero]
  refine fr0 rfl (fun _ => rfl) ?_
  simp only [Act.put, List.setIfInBounds_toArray, List.set_cons_succ, List.set_cons_zero]
  refine fr0 rfl (run_field75 (by omega) rfl rfl) ?_
  simp only [Act.put, List.setIfInBounds_toArray, List.set_cons_succ, List.set_cons_zero]
  refine fr1 (u := .int .i64 a) rfl (fun x hx => run_load1 rfl rfl (hx.cell (hdr x1)) isAgg3) ?_
  simp only [Act.put, List.setIfInBounds_toArray, List.set_cons_succ, List.set_cons_zero]
  refine fr0 rfl (fun _ => rfl) ?_
  simp only [Act.put, List.setIfInBounds_toArray, List.set_cons_succ, List.set_cons_zero]
  refine fr0 rfl (fun _ => rfl) ?_
  simp only [Act.put, List.setIfInBounds_toArray, List.set_cons_succ, List.set_cons_zero]
  refine fr0 rfl (run_field75 (by omega) rfl rfl) ?_
  simp only [Act.put, List.setIfInBounds_toArray, List.set_cons_succ, List.set_cons_zero]
  refine fr1 (u := .int .i64 s) rfl (fun x hx => run_load1 rfl rfl (hx.cell (hdr x2)) isAgg3) ?_
  simp only [Act.put, List.setIfInBounds_toArray, List.set_cons_succ, List.set_cons_zero]
  refine fr0 rfl (fun _ => rfl) ?_
  simp only [Act.put, List.setIfInBounds_toArray, List.set_cons_succ, List.set_cons_zero]
  refine fr0 rfl (fun _ => rfl) ?_
  simp only [Act.put, List.setIfInBounds_toArray, List.set_cons_succ, List.set_cons_zero]
  refine fr0 rfl (run_field75 (by omega) rfl rfl) ?_
  simp only [Act.put, List.setIfInBounds_toArray, List.set_cons_succ, List.set_cons_zero]
  refine fr1 (u := .int .i64 g) rfl (fun x hx => run_load1 rfl rfl (hx.cell (hdr x3)) isAgg3) ?_
  simp only [Act.put, List.setIfInBounds_toArray, List.set_cons_succ, List.set_cons_zero]
  refine fr0 (u := .int .i64 (g + 1)) rfl (run_add (by omega) (by omega) rfl rfl rfl) ?_
  simp only [Act.put, List.setIfInBounds_toArray, List.set_cons_succ, List.set_cons_zero]
  refine fr0 rfl (fun _ => rfl) ?_
  simp only [Act.put, List.setIfInBounds_toArray, List.set_cons_succ, List.set_cons_zero]
  refine fr0 (u := .int .i64 (ps.length : Int)) rfl (run_len32 rfl rfl) ?_
  simp only [Act.put, List.setIfInBounds_toArray, List.set_cons_succ, List.set_cons_zero]
  refine fr0 (u := .agg #[.int .i64 a, .int .i64 s, .int .i64 (g + 1), .int .i64 (ps.length : Int)]) rfl (run_build78_4 rfl rfl rfl rfl rfl) ?_
  simp only [Act.put, List.setIfInBounds_toArray, List.set_cons_succ, List.set_cons_zero]
  refine fr2 (u := .pointer (some ⟨w3.drew.heap.size, 0, none⟩)) rfl (Lat.alloc _ _) (.inl (run_alloc78 rfl)) ?_
  simp only [Act.put, List.setIfInBounds_toArray, List.set_cons_succ, List.set_cons_zero]
  refine fr3 (u := undef) (w' := w3.drew.alloc (.cells #[.int .i64 a, .int .i64 s, .int .i64 (g + 1), .int .i64 (ps.length : Int)] 99)) rfl (.inr (.inl ⟨run_store78 rfl rfl (by kernel_rfl) rfl rfl rfl, rfl⟩)) ?_
  simp only [Act.put, List.setIfInBounds_toArray, List.set_cons_succ, List.set_cons_zero]
  refine frnil ?_
  show Exit.then _ _ _ _ _
  have o4 : Only [] w3 (w3.drew.alloc (.cells #[.int .i64 a, .int .i64 s, .int .i64 (g + 1), .int .i64 (ps.length : Int)] 99)) := (Only.refl [] w3).drew.alloc _
  have hhd : (w3.drew.alloc (.cells #[.int .i64 a, .int .i64 s, .int .i64 (g + 1), .int .i64 (ps.length : Int)] 99)).heap[w3.heap.size]? = some (.cells #[.int .i64 a, .int .i64 s, .int .i64 (g + 1), .int .i64 (ps.length : Int)] 99 (0, 0)) := heap_alloc_last w3.drew _
  have hsz3 : w3.drew.heap.size = w3.heap.size := rfl
  rw [hsz3]
  clear hsz3
  generalize w3.drew.alloc (.cells #[.int .i64 a, .int .i64 s, .int .i64 (g + 1), .int .i64 (ps.length : Int)] 99) = w4 at *
  clear hdr x0 x1 x2 x3
  have HHD := Lib.hid hhd
  clear hhd
  go_wp2_with fail
  have d4 := (d3.only o4 (by simp)).drew
  have w4' := (w3'.only o4 (by simp))
  obtain ⟨x0, x1, x2, x3, -⟩ := w4'.cells
  have hdr : ∀ {p : Addr} {u : Value}, w4.cell? p = some u → w4.drew.cell? p = some u := fun h => h
  have hhd4 : w4.drew.heap[w3.heap.size]? = some (.cells #[.int .i64 a, .int .i64 s, .int .i64 (g + 1), .int .i64 (ps.length : Int)] 99 (0, 0)) := HHD.out
  have WH := Lib.hid (writeHead_any d4 a s (g + 1) ps.length ⟨ha, by omega⟩ ⟨by omega, by omega⟩ ⟨by omega, by omega⟩ ⟨by omega, by omega⟩ (by omega) (by omega))
  refine wp_region_flowR Lat [0, 0, 0, 1, 1, 3, 0] (by kernel_rfl) (by kernel_rfl) Lat.refl Lat.trans ?_
  refine fr0 rfl (fun _ => rfl) ?_
  simp only [Act.put, List.setIfInBounds_toArray, List.set_cons_succ, List.set_cons_zero]
  refine fr0 rfl (fun _ => rfl) ?_
  simp only [Act.put, List.setIfInBounds_toArray, List.set_cons_succ, List.set_cons_zero]
  refine fr0 rfl (run_field75 (by omega) rfl rfl) ?_
  simp only [Act.put, List.setIfInBounds_toArray, List.set_cons_succ, List.set_cons_zero]
  refine fr1 (u := .pointer (some ⟨b, 0, none⟩)) rfl (fun x hx => run_load1 rfl rfl (hx.cell (hdr x0)) isAgg25) ?_
  simp only [Act.put, List.setIfInBounds_toArray, List.set_cons_succ, List.set_cons_zero]
  refine fr1 (u := .agg #[.int .i64 a, .int .i64 s, .int .i64 (g + 1), .int .i64 (ps.length : Int)]) rfl (fun x hx => run_load78 rfl rfl (hx.at hhd4) rfl) ?_
  simp only [Act.put, List.setIfInBounds_toArray, List.set_cons_succ, List.set_cons_zero]
  refine fr3c rfl (run_enter2 Try.call66 rfl rfl rfl) WH.out ?_
  rintro e w5 ⟨rfl, F5, d5, f5, o5⟩
  refine ⟨_, rfl, ?_⟩
  simp only [Act.put, List.setIfInBounds_toArray, List.set_cons_succ, List.set_cons_zero]
  refine fr0 (u := .int .i64 ((S.writeAll (copiesL a ps)).2.writeAll [(a, headA a s (g + 1) ps.length)]).1) rfl (fun _ => rfl) ?_
  simp only [Act.put, List.setIfInBounds_toArray, List.set_cons_succ, List.set_cons_zero]
  refine frnil ?_
  show Exit.then _ _ _ _ _
  have o35 : Only F3 w3 w5 := ((o4.drew).mono (by simp)).trans o5 (fun x hx => .inl hx)
  have f35 : ∀ x ∈ F5, x ∈ F3 ∨ w3.heap.size ≤ x := fun x hx => by
    rcases f5 x hx with h | h
    · exact .inl h
    · exact .inr (Nat.le_trans o4.drew.size h)
  have o15 : Only F w w5 := o13.trans o35 f13
  have f15 : ∀ x ∈ F5, x ∈ F ∨ w.heap.size ≤ x := fun x hx => by
    rcases f35 x hx with h | h
    · exact f13 x h
    · exact .inr (Nat.le_trans o13.size h)
  have w5' := hw.only o15 hwb
  have l5 := hl.step o15 (fun x hx => .inl hx) f15
  have hwb5 : wb ∉ F5 := fun hx => by
    rcases f15 _ hx with h | h
    · exact hwb h
    · have := hw.lt; omega
  have hF3s : w3.heap.size ∉ F3 := fun hx => by have := dAt_lt d3 _ hx; omega
  have hhd5 : w5.heap[w3.heap.size]? = some (.cells #[.int .i64 a, .int .i64 s, .int .i64 (g + 1), .int .i64 (ps.length : Int)] 99 (0, 0)) := (o5.block _ (Array.getElem?_eq_some_iff.1 hhd4).1 hF3s).trans hhd4
  have bd2 := writeAll_bd [(a, headA a s (g + 1) ps.length)] (S.writeAll (copiesL a ps)).2
  simp only [List.length_singleton] at bd2
  have F5S : Hid (w3.heap.size ∉ F5) := (fun hx : w3.heap.size ∈ F5 => by
    rcases f5 _ hx with h | h
    · exact hF3s h
    · have := (Array.getElem?_eq_some_iff.1 hhd4).1; omega)
  clear o4 d4 w4' x0 x1 x2 x3 hdr hhd4 WH f5 o5 o35 d3 l3 w3' o13 f13
  have xc : w5.cell? ⟨w3.heap.size, 2, none⟩ = some (.int .i64 (g + 1)) := by rw [cell_of_row _ _ _ _ _ _ hhd5]; rfl
  have FI := Lib.hid (finish_any (g := g + 1) d5 w5' hwb5 l5 ⟨ha, by omega⟩ ⟨by omega, by omega⟩ ⟨by omega, by omega⟩ (by omega) (by omega))
  have HSZ := Lib.hid hF3s
  have KEEP2 := Lib.hid (And.intro d5 (And.intro f15 (And.intro o15 (And.intro w5' hhd5))))
  have HWB := Lib.hid hwb
  have HWL := Lib.hid hw.lt
  have HWB5 := Lib.hid hwb5
  clear d5 f15 o15 w5' l5 hhd5 hwb hwb5 hwb3 hF3s hd hw hl
  go_wp2_with fail
  refine FI.out.mono ?_
  rintro e w6 ⟨rfl, F6, d6, f6, o6⟩
  clear FI
  have w6' := KEEP2.out.2.2.2.1.only o6 HWB5.out
  have hF5s : w3.heap.size ∉ F5 := fun hx => by
    rcases f35 _ hx with h | h
    · exact HSZ.out h
    · exact F5S.out hx
  have xd : w6.cell? ⟨w3.heap.size, 2, none⟩ = some (.int .i64 (g + 1)) := (World.cell?_of_block (o6.block _ (Array.getElem?_eq_some_iff.1 KEEP2.out.2.2.2.2).1 hF5s)).trans xc
  obtain ⟨x0, x1, x2, x3, fz⟩ := w6'.cells
  have FIN := Lib.hid (And.intro d6 (And.intro f6 (And.intro o6 w6')))
  clear d6 f6 o6 w6' f35 hF5s
  go_wp2
  go_ret
  obtain ⟨d6, f6, o6, w6'⟩ := FIN.out
  obtain ⟨d5, f15, o15, w5', hhd5⟩ := KEEP2.out
  have hres : S.commit a s g ps = ⟨0, (((S.writeAll (copiesL a ps)).2.writeAll [(a, headA a s (g + 1) ps.length)]).2.finish a s ps (g + 1)).2, g + 1⟩ := by rw [St.commit, if_neg (by simp [z1]), if_neg (by simp [z2]), if_neg (by simp [z3])]
  rw [hres]
  have f16 : ∀ x ∈ F6, x ∈ F ∨ w.heap.size ≤ x := fun x hx => by
    rcases f6 x hx with h | h
    · exact f15 x h
    · exact .inr (Nat.le_trans o15.size h)
  have hwb6 : wb ∉ F6 := fun hx => by
    rcases f16 _ hx with h | h
    · exact HWB.out h
    · have := HWL.out; omega
  have o16 : Only F w w6 := o15.trans o6 f15
  have os : Only [wb] w6 (w6.setCell ⟨wb, 3, none⟩ (.int .i64 (g + 1))) := (Only.refl _ _).setCell (by simp) _
  refine ⟨rfl, F6, d6.only os (fun x hx h => hwb6 (by simp at h; exact h ▸ hx)), f16, (o16.mono (fun x hx => List.mem_cons_of_mem _ hx)).setCell (by simp) _, ?_⟩
  exact heap_setCell_row w6' 3 (.int .i64 (g + 1))

theorem commit_any {w : World} {wb b : Nat} {F : List Nat} {S : St} {a s g : Int} {lv : Value} {ps : List (Int × Array Value)} (hd : DAt w b F S) (hw : WalAt w wb b a s g) (hwb : wb ∉ F) (hl : PutsAt w F lv ps) (ha : 0 ≤ a) (ha1 : a ≤ 8192) (hs : 3 ≤ s) (hs1 : s ≤ 8192) (hg : 0 ≤ g) (hg1 : g ≤ 1000000000) (hok : GroupOk a s S.n (rawsOf ps)) (hst : S.steps + 3 * ps.length + 100 < 1000000000) (hpd : S.pend.length + 3 * ps.length + 100 < 1000000000) :
    Calls Try.prog 46 #[.pointer (some ⟨wb, 0, none⟩), lv] w fun e w' => e = .returned (.int .i64 (S.commit a s g ps).e) ∧ WPost w w' wb b F (S.commit a s g ps).st a s (S.commit a s g ps).g := by
  by_cases z1 : (S.writeAll (copiesL a ps)).1 = 0
  · by_cases z2 : ((S.writeAll (copiesL a ps)).2.writeAll [(a, headA a s (g + 1) ps.length)]).1 = 0
    · by_cases z3 : (((S.writeAll (copiesL a ps)).2.writeAll [(a, headA a s (g + 1) ps.length)]).2.finish a s ps (g + 1)).1 = 0
      · exact commit_4 hd hw hwb hl ha ha1 hs hs1 hg hg1 hok hst hpd z1 z2 z3
      · exact commit_3 hd hw hwb hl ha ha1 hs hs1 hg hg1 hok hst hpd z1 z2 z3
    · exact commit_2 hd hw hwb hl ha ha1 hs hs1 hg hg1 hok hst hpd z1 z2
  · exact commit_1 hd hw hwb hl ha ha1 hs hs1 hg hg1 hok hst hpd z1

end Go.Proofs.Ytoccnaebckcfmaa
