/- What Commit does. What Format does; what Open does where no group is in progress. Things in memory that share no block; a disk that is on, without a fuse, with nothing pending. A log on a disk beside other things; what ground does. The document's examples come out as it says. What group does. A slice of puts of a law's own, beside other things. What unpack does. What recorded does: a group read back out of the log. What resume does; what Open does where a group is in progress. What is there behind a crash: each sector has its durable bytes, or those of a write that was pending. A group is done wholly or not at all: what a commit leaves behind a crash. A group is done wholly or not at all: what Commit and Format leave behind a crash. Commit, Open and Format on a disk with any fuse, beside other things. Format, Open and a boot on a disk with any fuse, beside other things. -/
import Derived.Test.YtoccnaebckcfmaaG2
section
set_option linter.unusedSimpArgs false
set_option linter.unusedVariables false
set_option maxRecDepth 8000
namespace Go.Proofs.Ytoccnaebckcfmaa
open Go.RowKit

def rawsOf (ps : List (Int × Array Value)) : List (Int × Nat) := ps.map (fun p => (p.1, 64))
theorem PutsAt.raws {w : World} {F : List Nat} {lv : Value} {ps : List (Int × Array Value)} (h : PutsAt w F lv ps) (hs : ∀ p ∈ ps, p.1 ≤ 9223372036854775807) : RawsAt w lv (rawsOf ps) := by
  obtain ⟨a, cap, h1, h2, h3⟩ := h.shape
  refine ⟨a, cap, by rw [rawsOf, List.length_map]; exact h1, fun i r hr => ?_⟩
  simp only [rawsOf, List.getElem?_map, Option.map_eq_some_iff] at hr
  obtain ⟨p, hp, rfl⟩ := hr
  obtain ⟨g, o, av, e1, e2, e3, e4, e5, e6⟩ := h3 i p hp
  obtain ⟨_, g', o', cap', rfl, _⟩ := e6
  exact ⟨hs p (List.mem_of_getElem? hp), g, o, _, cap', e1, e2, e4, e5⟩

structure Done where
  e : Int
  st : St
  g : Int

def St.commit (S : St) (a s g : Int) (ps : List (Int × Array Value)) : Done :=
  if (S.writeAll (copiesL a ps)).1 ≠ 0 then ⟨(S.writeAll (copiesL a ps)).1, (S.writeAll (copiesL a ps)).2, g⟩ else
  if ((S.writeAll (copiesL a ps)).2.writeAll [(a, headA a s (g + 1) ps.length)]).1 ≠ 0 then ⟨((S.writeAll (copiesL a ps)).2.writeAll [(a, headA a s (g + 1) ps.length)]).1, ((S.writeAll (copiesL a ps)).2.writeAll [(a, headA a s (g + 1) ps.length)]).2, g⟩ else
  if (((S.writeAll (copiesL a ps)).2.writeAll [(a, headA a s (g + 1) ps.length)]).2.finish a s ps (g + 1)).1 ≠ 0 then ⟨(((S.writeAll (copiesL a ps)).2.writeAll [(a, headA a s (g + 1) ps.length)]).2.finish a s ps (g + 1)).1, (((S.writeAll (copiesL a ps)).2.writeAll [(a, headA a s (g + 1) ps.length)]).2.finish a s ps (g + 1)).2, g⟩ else
  ⟨0, (((S.writeAll (copiesL a ps)).2.writeAll [(a, headA a s (g + 1) ps.length)]).2.finish a s ps (g + 1)).2, g + 1⟩

theorem copiesL_len (a : Int) (ps : List (Int × Array Value)) : (copiesL a ps).length = numsF ps.length + ps.length := by simp [copiesL]

/-- Behind a call on a log: the disk's new state, the log's count; nothing but their blocks has changed. -/
def WPost (w w' : World) (wb b : Nat) (F : List Nat) (S' : St) (a s g' : Int) : Prop := ∃ F', DAt w' b F' S' ∧ (∀ x ∈ F', x ∈ F ∨ w.heap.size ≤ x) ∧ Only (wb :: F) w w' ∧ WalAt w' wb b a s g'

theorem WPost.of {w w' : World} {wb b : Nat} {F : List Nat} {S' : St} {a s g : Int} (hp : DPost w w' b F S') (hw : WalAt w wb b a s g) (hwb : wb ∉ F) : WPost w w' wb b F S' a s g := by
  obtain ⟨F', d, f, o⟩ := hp
  exact ⟨F', d, f, o.mono (fun x hx => List.mem_cons_of_mem _ hx), hw.only o hwb⟩

set_option maxHeartbeats 1000000 in
theorem commit_no {w : World} {wb b : Nat} {F : List Nat} {S : St} {a s g : Int} {lv : Value} {rs : List (Int × Nat)} (hd : DAt w b F S) (hw : WalAt w wb b a s g) (hl : RawsAt w lv rs) (ha : 0 ≤ a) (ha1 : a ≤ 8192) (hs : 3 ≤ s) (hs1 : s ≤ 8192) (hno : ¬ GroupOk a s S.n rs) :
    Calls Try.prog 46 #[.pointer (some ⟨wb, 0, none⟩), lv] w fun e w' => e = .returned (.int .i64 20) ∧ Only [] w w' := by
  have VA := Lib.hid (valid_any hd hw hl ha ha1 hs hs1)
  obtain ⟨ad, cap, rfl, -⟩ := hl
  clear hd hw
  go_enter Try.func46, Try.ntmps46
  go_wp2_with fail
  refine VA.out.mono ?_
  rintro e w0 ⟨r, rfl, hr, o0⟩
  have hrf : r = false := by cases r with | false => rfl | true => exact absurd (hr.1 rfl) hno
  subst hrf
  have O0 := Lib.hid o0
  clear o0 hr hno
  go_wp2
  go_ret
  exact ⟨rfl, O0.out⟩

set_option maxHeartbeats 2000000 in
theorem commit_1 {w : World} {wb b : Nat} {F : List Nat} {S : St} {a s g : Int} {lv : Value} {ps : List (Int × Array Value)} (hd : DAt w b F S) (hw : WalAt w wb b a s g) (hwb : wb ∉ F) (hl : PutsAt w F lv ps) (ha : 0 ≤ a) (ha1 : a ≤ 8192) (hs : 3 ≤ s) (hs1 : s ≤ 8192) (hg : 0 ≤ g) (hg1 : g ≤ 1000000000) (hok : GroupOk a s S.n (rawsOf ps)) (hst : S.steps + 3 * ps.length + 100 < 1000000000) (hpd : S.pend.length + 3 * ps.length + 100 < 1000000000)
    (z1 : (S.writeAll (copiesL a ps)).1 ≠ 0) :
    Calls Try.prog 46 #[.pointer (some ⟨wb, 0, none⟩), lv] w fun e w' => e = .returned (.int .i64 (S.commit a s g ps).e) ∧ WPost w w' wb b F (S.commit a s g ps).st a s (S.commit a s g ps).g := by
  have hn1 : S.n ≤ 8192 := by obtain ⟨_, _, _, h, _⟩ := hd; exact h.ok.n1
  have hsec : ∀ p ∈ ps, 0 ≤ p.1 ∧ p.1 ≤ 8192 := fun p hp => by
    have := hok.2.1 (p.1, 64) (List.mem_map.2 ⟨p, hp, rfl⟩)
    have h1 := this.1
    have h2 := this.2.1
    simp only at h1 h2
    omega
  have hlen : ps.length ≤ 8192 := by
    have h1 := hok.1
    have h2 := roomF_bd hs
    simp only [rawsOf, List.length_map] at h1
    omega
  have hnums : numsF ps.length ≤ 300 ∧ numsF ps.length ≤ ps.length := by unfold numsF; omega
  have VA := Lib.hid (valid_any hd hw (hl.raws (fun p hp => by have := hsec p hp; omega)) ha ha1 hs hs1)
  obtain ⟨ad, cap, rfl, -, -⟩ := hl.shape
  have KEEP := Lib.hid (And.intro hd (And.intro hw hl))
  have HOK := Lib.hid hok
  have HSEC := Lib.hid hsec
  have hcl := copiesL_len a ps
  clear hd hw hl hok hsec
  go_enter Try.func46, Try.ntmps46
  go_wp2_with fail
  refine VA.out.mono ?_
  rintro e w0 ⟨r, rfl, hr, o0⟩
  have hrt : r = true := hr.2 HOK.out
  subst hrt
  clear hr VA
  go_wp2_with fail
  obtain ⟨hd, hw, hl⟩ := KEEP.out
  have o1 : Only [] w w0.drew := o0.drew
  have d1 := hd.only o1 (by simp)
  have w1 := hw.only o1 (by simp)
  have l1 := hl.only o1 (by simp)
  obtain ⟨x0, x1, x2, x3, -⟩ := w1.cells
  have hF1 : ∀ x ∈ F, x < w0.drew.heap.size := dAt_lt d1
  have CP := Lib.hid (copies_any w1 l1 hF1 (by omega) ha ha1 HSEC.out)
  refine wp_region_flowR Lat [0, 0, 0, 1, 0, 0, 2, 3, 0] (by kernel_rfl) (by kernel_rfl) Lat.refl Lat.trans ?_
  refine fr0 rfl (fun _ => rfl) ?_
  simp only [Act.put, List.setIfInBounds_toArray, List.set_cons_succ, List.set_cons_zero]
  refine fr0 rfl (fun _ => rfl) ?_
  simp only [Act.put, List.setIfInBounds_toArray, List.set_cons_succ, List.set_cons_zero]
  refine fr0 rfl (run_field75 (by omega) rfl rfl) ?_
  simp only [Act.put, List.setIfInBounds_toArray, List.set_cons_succ, List.set_cons_zero]
  refine fr1 (u := .pointer (some ⟨b, 0, none⟩)) rfl (fun x hx => run_load1 rfl rfl (hx.cell x0) isAgg25) ?_
  simp only [Act.put, List.setIfInBounds_toArray, List.set_cons_succ, List.set_cons_zero]
  refine fr0 rfl (fun _ => rfl) ?_
  simp only [Act.put, List.setIfInBounds_toArray, List.set_cons_succ, List.set_cons_zero]
  refine fr0 rfl (fun _ => rfl) ?_
  simp only [Act.put, List.setIfInBounds_toArray, List.set_cons_succ, List.set_cons_zero]
  refine fr2c rfl (run_enter2 Try.call72 rfl rfl rfl) CP.out ?_
  rintro e w2 ⟨cv, rfl, hcv, o2⟩
  refine ⟨_, rfl, o2.lat, ?_⟩
  simp only [Act.put, List.setIfInBounds_toArray, List.set_cons_succ, List.set_cons_zero]
  refine fr3c rfl (run_enter2 Try.call71 rfl rfl rfl) (writeAll_any (d1.only o2 (by simp)) hcv (by rw [hcl]; omega) (by rw [hcl]; omega)) ?_
  rintro e w3 ⟨rfl, F3, d3, f3, o3⟩
  refine ⟨_, rfl, ?_⟩
  simp only [Act.put, List.setIfInBounds_toArray, List.set_cons_succ, List.set_cons_zero]
  refine fr0 (u := .int .i64 (S.writeAll (copiesL a ps)).1) rfl (fun _ => rfl) ?_
  simp only [Act.put, List.setIfInBounds_toArray, List.set_cons_succ, List.set_cons_zero]
  refine frnil ?_
  show Exit.then _ _ _ _ _
  have o13 : Only F w w3 := ((o1.trans o2 (by simp)).mono (by simp)).trans o3 (fun x hx => .inl hx)
  have f13 : ∀ x ∈ F3, x ∈ F ∨ w.heap.size ≤ x := fun x hx => by
    rcases f3 x hx with h | h
    · exact .inl h
    · exact .inr (Nat.le_trans (o1.trans o2 (by simp)).size h)
  have w3' := hw.only o13 hwb
  have l3 := hl.step o13 (fun x hx => .inl hx) f13
  have bd1 := writeAll_bd (copiesL a ps) S
  rw [hcl] at bd1
  have hwb3 : wb ∉ F3 := fun hx => by
    rcases f13 _ hx with h | h
    · exact hwb h
    · have := hw.lt; omega
  clear o1 d1 w1 l1 x0 x1 x2 x3 hF1 CP hcv o2 o3 f3 o0
  have hres : S.commit a s g ps = ⟨(S.writeAll (copiesL a ps)).1, (S.writeAll (copiesL a ps)).2, g⟩ := by rw [St.commit, if_pos z1]
  have FIN := Lib.hid (And.intro hres (And.intro d3 (And.intro f13 (And.intro o13 w3'))))
  clear hres d3 f13 o13 w3' l3 hd hw hl
  go_wp2
  go_ret
  obtain ⟨hres, d3, f13, o13, w3'⟩ := FIN.out
  rw [hres]
  exact ⟨rfl, F3, d3, f13, o13.mono (fun x hx => List.mem_cons_of_mem _ hx), w3'⟩

set_option maxHeartbeats 2000000 in
theorem commit_2 {w : World} {wb b : Nat} {F : List Nat} {S : St} {a s g : Int} {lv : Value} {ps : List (Int × Array Value)} (hd : DAt w b F S) (hw : WalAt w wb b a s g) (hwb : wb ∉ F) (hl : PutsAt w F lv ps) (ha : 0 ≤ a) (ha1 : a ≤ 8192) (hs : 3 ≤ s) (hs1 : s ≤ 8192) (hg : 0 ≤ g) (hg1 : g ≤ 1000000000) (hok : GroupOk a s S.n (rawsOf ps)) (hst : S.steps + 3 * ps.length + 100 < 1000000000) (hpd : S.pend.length + 3 * ps.length + 100 < 1000000000)
    (z1 : (S.writeAll (copiesL a ps)).1 = 0) (z2 : ((S.writeAll (copiesL a ps)).2.writeAll [(a, headA a s (g + 1) ps.length)]).1 ≠ 0) :
    Calls Try.prog 46 #[.pointer (some ⟨wb, 0, none⟩), lv] w fun e w' => e = .returned (.int .i64 (S.commit a s g ps).e) ∧ WPost w w' wb b F (S.commit a s g ps).st a s (S.commit a s g ps).g := by
  have hn1 : S.n ≤ 8192 := by obtain ⟨_, _, _, h, _⟩ := hd; exact h.ok.n1
  have hsec : ∀ p ∈ ps, 0 ≤ p.1 ∧ p.1 ≤ 8192 := fun p hp => by
    have := hok.2.1 (p.1, 64) (List.mem_map.2 ⟨p, hp, rfl⟩)
    have h1 := this.1
    have h2 := this.2.1
    simp only at h1 h2
    omega
  have hlen : ps.length ≤ 8192 := by
    have h1 := hok.1
    have h2 := roomF_bd hs
    simp only [rawsOf, List.length_map] at h1
    omega
  have hnums : numsF ps.length ≤ 300 ∧ numsF ps.length ≤ ps.length := by unfold numsF; omega
  have VA := Lib.hid (valid_any hd hw (hl.raws (fun p hp => by have := hsec p hp; omega)) ha ha1 hs hs1)
  obtain ⟨ad, cap, rfl, -, -⟩ := hl.shape
  have KEEP := Lib.hid (And.intro hd (And.intro hw hl))
  have HOK := Lib.hid hok
  have HSEC := Lib.hid hsec
  have hcl := copiesL_len a ps
  clear hd hw hl hok hsec
  go_enter Try.func46, Try.ntmps46
  go_wp2_with fail
  refine VA.out.mono ?_
  rintro e w0 ⟨r, rfl, hr, o0⟩
  have hrt : r = true := hr.2 HOK.out
  subst hrt
  clear hr VA
  go_wp2_with fail
  obtain ⟨hd, hw, hl⟩ := KEEP.out
  have o1 : Only [] w w0.drew := o0.drew
  have d1 := hd.only o1 (by simp)
  have w1 := hw.only o1 (by simp)
  have l1 := hl.only o1 (by simp)
  obtain ⟨x0, x1, x2, x3, -⟩ := w1.cells
  have hF1 : ∀ x ∈ F, x < w0.drew.heap.size := dAt_lt d1
  have CP := Lib.hid (copies_any w1 l1 hF1 (by omega) ha ha1 HSEC.out)
  refine wp_region_flowR Lat [0, 0, 0, 1, 0, 0, 2, 3, 0] (by kernel_rfl) (by kernel_rfl) Lat.refl Lat.trans ?_
  refine fr0 rfl (fun _ => rfl) ?_
  simp only [Act.put, List.setIfInBounds_toArray, List.set_cons_succ, List.set_cons_zero]
  refine fr0 rfl (fun _ => rfl) ?_
  simp only [Act.put, List.setIfInBounds_toArray, List.set_cons_succ, List.set_cons_zero]
  refine fr0 rfl (run_field75 (by omega) rfl rfl) ?_
  simp only [Act.put, List.setIfInBounds_toArray, List.set_cons_succ, List.set_cons_zero]
  refine fr1 (u := .pointer (some ⟨b, 0, none⟩)) rfl (fun x hx => run_load1 rfl rfl (hx.cell x0) isAgg25) ?_
  simp only [Act.put, List.setIfInBounds_toArray, List.set_cons_succ, List.set_cons_zero]
  refine fr0 rfl (fun _ => rfl) ?_
  simp only [Act.put, List.setIfInBounds_toArray, List.set_cons_succ, List.set_cons_zero]
  refine fr0 rfl (fun _ => rfl) ?_
  simp only [Act.put, List.setIfInBounds_toArray, List.set_cons_succ, List.set_cons_zero]
  refine fr2c rfl (run_enter2 Try.call72 rfl rfl rfl) CP.out ?_
  rintro e w2 ⟨cv, rfl, hcv, o2⟩
  refine ⟨_, rfl, o2.lat, ?_⟩
  simp only [Act.put, List.setIfInBounds_toArray, List.set_cons_succ, List.set_cons_zero]
  refine fr3c rfl (run_enter2 Try.call71 rfl rfl rfl) (writeAll_any (d1.only o2 (by simp)) hcv (by rw [hcl]; omega) (by rw [hcl]; omega)) ?_
  rintro e w3 ⟨rfl, F3, d3, f3, o3⟩
  refine ⟨_, rfl, ?_⟩
  simp only [Act.put, List.setIfInBounds_toArray, List.set_cons_succ, List.set_cons_zero]
  refine fr0 (u := .int .i64 (S.writeAll (copiesL a ps)).1) rfl (fun _ => rfl) ?_
  simp only [Act.put, List.setIfInBounds_toArray, List.set_cons_succ, List.set_cons_zero]
  refine frnil ?_
  show Exit.then _ _ _ _ _
  have o13 : Only F w w3 := ((o1.trans o2 (by simp)).mono (by simp)).trans o3 (fun x hx => .inl hx)
  have f13 : ∀ x ∈ F3, x ∈ F ∨ w.heap.size ≤ x := fun x hx => by
    rcases f3 x hx with h | h
    · exact .inl h
    · exact .inr (Nat.le_trans (o1.trans o2 (by simp)).size h)
  have w3' := hw.only o13 hwb
  have l3 := hl.step o13 (fun x hx => .inl hx) f13
  have bd1 := writeAll_bd (copiesL a ps) S
  rw [hcl] at bd1
  have hwb3 : wb ∉ F3 := fun hx => by
    rcases f13 _ hx with h | h
    · exact hwb h
    · have := hw.lt; omega
  clear o1 d1 w1 l1 x0 x1 x2 x3 hF1 CP hcv o2 o3 f3 o0
  go_wp2_with fail
  obtain ⟨x0, x1, x2, x3, -⟩ := w3'.cells
  have hdr : ∀ {p : Addr} {u : Value}, w3.cell? p = some u → w3.drew.cell? p = some u := fun h => h
  refine wp_region_flowR Lat [0, 0, 0, 1, 0, 0, 0, 1, 0, 0, 0, 1, 0, 0, 0, 0, 2, 3] (by kernel_rfl) (by kernel_rfl) Lat.refl Lat.trans ?_
  refine fr0 rfl (fun _ => rfl) ?_
  simp only [Act.put, List.setIfInBounds_toArray, List.set_cons_succ, List.set_cons_zero]
  refine fr0 rfl (fun _ => rfl) ?_
  simp only [Act.put, List.setIfInBounds_toArray, List.set_cons_succ, List.set_cons_zero]
  refine fr0 rfl (run_field75 (by omega) rfl rfl) ?_
  simp only [Act.put, List.setIfInBounds_toArray, List.set_cons_succ, List.set_cons_zero]
  refine fr1 (u := .int .i64 a) rfl (fun x hx => run_load1 rfl rfl (hx.cell (hdr x1)) isAgg3) ?_
  simp only [Act.put, List.setIfInBounds_toArray, List.set_cons_succ, List.set_cons_zero]
  refine fr0 rfl (fun _ => rfl) ?_
  simp only [Act.put, List.setIfInBounds_toArray, List.set_cons_succ, List.set_cons_zero]
  refine fr0 rfl (fun _ => rfl) ?_
  simp only [Act.put, List.setIfInBounds_toArray, List.set_cons_succ, List.set_cons_zero]
  refine fr0 rfl (run_field75 (by omega) rfl rfl) ?_
  simp only [Act.put, List.setIfInBounds_toArray, List.set_cons_succ, List.set_cons_zero]
  refine fr1 (u := .int .i64 s) rfl (fun x hx => run_load1 rfl rfl (hx.cell (hdr x2)) isAgg3) ?_
  simp only [Act.put, List.setIfInBounds_toArray, List.set_cons_succ, List.set_cons_zero]
  refine fr0 rfl (fun _ => rfl) ?_
  simp only [Act.put, List.setIfInBounds_toArray, List.set_cons_succ, List.set_cons_zero]
  refine fr0 rfl (fun _ => rfl) ?_
  simp only [Act.put, List.setIfInBounds_toArray, List.set_cons_succ, List.set_cons_zero]
  refine fr0 rfl (run_field75 (by omega) rfl rfl) ?_
  simp only [Act.put, List.setIfInBounds_toArray, List.set_cons_succ, List.set_cons_zero]
  refine fr1 (u := .int .i64 g) rfl (fun x hx => run_load1 rfl rfl (hx.cell (hdr x3)) isAgg3) ?_
  simp only [Act.put, List.setIfInBounds_toArray, List.set_cons_succ, List.set_cons_zero]
  refine fr0 (u := .int .i64 (g + 1)) rfl (run_add (by omega) (by omega) rfl rfl rfl) ?_
  simp only [Act.put, List.setIfInBounds_toArray, List.set_cons_succ, List.set_cons_zero]
  refine fr0 rfl (fun _ => rfl) ?_
  simp only [Act.put, List.setIfInBounds_toArray, List.set_cons_succ, List.set_cons_zero]
  refine fr0 (u := .int .i64 (ps.length : Int)) rfl (run_len32 rfl rfl) ?_
  simp only [Act.put, List.setIfInBounds_toArray, List.set_cons_succ, List.set_cons_zero]
  refine fr0 (u := .agg #[.int .i64 a, .int .i64 s, .int .i64 (g + 1), .int .i64 (ps.length : Int)]) rfl (run_build78_4 rfl rfl rfl rfl rfl) ?_
  simp only [Act.put, List.setIfInBounds_toArray, List.set_cons_succ, List.set_cons_zero]
  refine fr2 (u := .pointer (some ⟨w3.drew.heap.size, 0, none⟩)) rfl (Lat.alloc _ _) (.inl (run_alloc78 rfl)) ?_
  simp only [Act.put, List.setIfInBounds_toArray, List.set_cons_succ, List.set_cons_zero]
  refine fr3 (u := undef) (w' := w3.drew.alloc (.cells #[.int .i64 a, .int .i64 s, .int .i64 (g + 1), .int .i64 (ps.length : Int)] 99)) rfl (.inr (.inl ⟨run_store78 rfl rfl (by kernel_rfl) rfl rfl rfl, rfl⟩)) ?_
  simp only [Act.put, List.setIfInBounds_toArray, List.set_cons_succ, List.set_cons_zero]
  refine frnil ?_
  show Exit.then _ _ _ _ _
  have o4 : Only [] w3 (w3.drew.alloc (.cells #[.int .i64 a, .int .i64 s, .int .i64 (g + 1), .int .i64 (ps.length : Int)] 99)) := (Only.refl [] w3).drew.alloc _
  have hhd : (w3.drew.alloc (.cells #[.int .i64 a, .int .i64 s, .int .i64 (g + 1), .int .i64 (ps.length : Int)] 99)).heap[w3.heap.size]? = some (.cells #[.int .i64 a, .int .i64 s, .int .i64 (g + 1), .int .i64 (ps.length : Int)] 99 (0, 0)) := heap_alloc_last w3.drew _
  have hsz3 : w3.drew.heap.size = w3.heap.size := rfl
  rw [hsz3]
  clear hsz3
  generalize w3.drew.alloc (.cells #[.int .i64 a, .int .i64 s, .int .i64 (g + 1), .int .i64 (ps.length : Int)] 99) = w4 at *
  clear hdr x0 x1 x2 x3
  have HHD := Lib.hid hhd
  clear hhd
  go_wp2_with fail
  have d4 := (d3.only o4 (by simp)).drew
  have w4' := (w3'.only o4 (by simp))
  obtain ⟨x0, x1, x2, x3, -⟩ := w4'.cells
  have hdr : ∀ {p : Addr} {u : Value}, w4.cell? p = some u → w4.drew.cell? p = some u := fun h => h
  have hhd4 : w4.drew.heap[w3.heap.size]? = some (.cells #[.int .i64 a, .int .i64 s, .int .i64 (g + 1), .int .i64 (ps.length : Int)] 99 (0, 0)) := HHD.out
  have WH := Lib.hid (writeHead_any d4 a s (g + 1) ps.length ⟨ha, by omega⟩ ⟨by omega, by omega⟩ ⟨by omega, by omega⟩ ⟨by omega, by omega⟩ (by omega) (by omega))
  refine wp_region_flowR Lat [0, 0, 0, 1, 1, 3, 0] (by kernel_rfl) (by kernel_rfl) Lat.refl Lat.trans ?_
  refine fr0 rfl (fun _ => rfl) ?_
  simp only [Act.put, List.setIfInBounds_toArray, List.set_cons_succ, List.set_cons_zero]
  refine fr0 rfl (fun _ => rfl) ?_
  simp only [Act.put, List.setIfInBounds_toArray, List.set_cons_succ, List.set_cons_zero]
  refine fr0 rfl (run_field75 (by omega) rfl rfl) ?_
  simp only [Act.put, List.setIfInBounds_toArray, List.set_cons_succ, List.set_cons_zero]
  refine fr1 (u := .pointer (some ⟨b, 0, none⟩)) rfl (fun x hx => run_load1 rfl rfl (hx.cell (hdr x0)) isAgg25) ?_
  simp only [Act.put, List.setIfInBounds_toArray, List.set_cons_succ, List.set_cons_zero]
  refine fr1 (u := .agg #[.int .i64 a, .int .i64 s, .int .i64 (g + 1), .int .i64 (ps.length : Int)]) rfl (fun x hx => run_load78 rfl rfl (hx.at hhd4) rfl) ?_
  simp only [Act.put, List.setIfInBounds_toArray, List.set_cons_succ, List.set_cons_zero]
  refine fr3c rfl (run_enter2 Try.call66 rfl rfl rfl) WH.out ?_
  rintro e w5 ⟨rfl, F5, d5, f5, o5⟩
  refine ⟨_, rfl, ?_⟩
  simp only [Act.put, List.setIfInBounds_toArray, List.set_cons_succ, List.set_cons_zero]
  refine fr0 (u := .int .i64 ((S.writeAll (copiesL a ps)).2.writeAll [(a, headA a s (g + 1) ps.length)]).1) rfl (fun _ => rfl) ?_
  simp only [Act.put, List.setIfInBounds_toArray, List.set_cons_succ, List.set_cons_zero]
  refine frnil ?_
  show Exit.then _ _ _ _ _
  have o35 : Only F3 w3 w5 := ((o4.drew).mono (by simp)).trans o5 (fun x hx => .inl hx)
  have f35 : ∀ x ∈ F5, x ∈ F3 ∨ w3.heap.size ≤ x := fun x hx => by
    rcases f5 x hx with h | h
    · exact .inl h
    · exact .inr (Nat.le_trans o4.drew.size h)
  have o15 : Only F w w5 := o13.trans o35 f13
  have f15 : ∀ x ∈ F5, x ∈ F ∨ w.heap.size ≤ x := fun x hx => by
    rcases f35 x hx with h | h
    · exact f13 x h
    · exact .inr (Nat.le_trans o13.size h)
  have w5' := hw.only o15 hwb
  have l5 := hl.step o15 (fun x hx => .inl hx) f15
  have hwb5 : wb ∉ F5 := fun hx => by
    rcases f15 _ hx with h | h
    · exact hwb h
    · have := hw.lt; omega
  have hF3s : w3.heap.size ∉ F3 := fun hx => by have := dAt_lt d3 _ hx; omega
  have hhd5 : w5.heap[w3.heap.size]? = some (.cells #[.int .i64 a, .int .i64 s, .int .i64 (g + 1), .int .i64 (ps.length : Int)] 99 (0, 0)) := (o5.block _ (Array.getElem?_eq_some_iff.1 hhd4).1 hF3s).trans hhd4
  have bd2 := writeAll_bd [(a, headA a s (g + 1) ps.length)] (S.writeAll (copiesL a ps)).2
  simp only [List.length_singleton] at bd2
  clear o4 d4 w4' x0 x1 x2 x3 hdr hhd4 WH f5 o5 o35 d3 l3 w3' o13 f13
  have hres : S.commit a s g ps = ⟨((S.writeAll (copiesL a ps)).2.writeAll [(a, headA a s (g + 1) ps.length)]).1, ((S.writeAll (copiesL a ps)).2.writeAll [(a, headA a s (g + 1) ps.length)]).2, g⟩ := by rw [St.commit, if_neg (by simp [z1]), if_pos z2]
  have FIN := Lib.hid (And.intro hres (And.intro d5 (And.intro f15 (And.intro o15 w5'))))
  clear hres d5 f15 o15 w5' l5 hd hw hl hhd5
  go_wp2
  go_ret
  obtain ⟨hres, d3, f13, o13, w3'⟩ := FIN.out
  rw [hres]
  exact ⟨rfl, F5, d3, f13, o13.mono (fun x hx => List.mem_cons_of_mem _ hx), w3'⟩

set_option maxHeartbeats 2000000 in
theorem commit_3 {w : World} {wb b : Nat} {F : List Nat} {S : St} {a s g : Int} {lv : Value} {ps : List (Int × Array Value)} (hd : DAt w b F S) (hw : WalAt w wb b a s g) (hwb : wb ∉ F) (hl : PutsAt w F lv ps) (ha : 0 ≤ a) (ha1 : a ≤ 8192) (hs : 3 ≤ s) (hs1 : s ≤ 8192) (hg : 0 ≤ g) (hg1 : g ≤ 1000000000) (hok : GroupOk a s S.n (rawsOf ps)) (hst : S.steps + 3 * ps.length + 100 < 1000000000) (hpd : S.pend.length + 3 * ps.length + 100 < 1000000000)
    (z1 : (S.writeAll (copiesL a ps)).1 = 0) (z2 : ((S.writeAll (copiesL a ps)).2.writeAll [(a, headA a s (g + 1) ps.length)]).1 = 0) (z3 : (((S.writeAll (copiesL a ps)).2.writeAll [(a, headA a s (g + 1) ps.length)]).2.finish a s ps (g + 1)).1 ≠ 0) :
    Calls Try.prog 46 #[.pointer (some ⟨wb, 0, none⟩), lv] w fun e w' => e = .returned (.int .i64 (S.commit a s g ps).e) ∧ WPost w w' wb b F (S.commit a s g ps).st a s (S.commit a s g ps).g := by
  have hn1 : S.n ≤ 8192 := by obtain ⟨_, _, _, h, _⟩ := hd; exact h.ok.n1
  have hsec : ∀ p ∈ ps, 0 ≤ p.1 ∧ p.1 ≤ 8192 := fun p hp => by
    have := hok.2.1 (p.1, 64) (List.mem_map.2 ⟨p, hp, rfl⟩)
    have h1 := this.1
    have h2 := this.2.1
    simp only at h1 h2
    omega
  have hlen : ps.length ≤ 8192 := by
    have h1 := hok.1
    have h2 := roomF_bd hs
    simp only [rawsOf, List.length_map] at h1
    omega
  have hnums : numsF ps.length ≤ 300 ∧ numsF ps.length ≤ ps.length := by unfold numsF; omega
  have VA := Lib.hid (valid_any hd hw (hl.raws (fun p hp => by have := hsec p hp; omega)) ha ha1 hs hs1)
  obtain ⟨ad, cap, rfl, -, -⟩ := hl.shape
  have KEEP := Lib.hid (And.intro hd (And.intro hw hl))
  have HOK := Lib.hid hok
  have HSEC := Lib.hid hsec
  have hcl := copiesL_len a ps
  clear hd hw hl hok hsec
  go_enter Try.func46, Try.ntmps46
  go_wp2_with fail
  refine VA.out.mono ?_
  rintro e w0 ⟨r, rfl, hr, o0⟩
  have hrt : r = true := hr.2 HOK.out
  subst hrt
  clear hr VA
  go_wp2_with fail
  obtain ⟨hd, hw, hl⟩ := KEEP.out
  have o1 : Only [] w w0.drew := o0.drew
  have d1 := hd.only o1 (by simp)
  have w1 := hw.only o1 (by simp)
  have l1 := hl.only o1 (by simp)
  obtain ⟨x0, x1, x2, x3, -⟩ := w1.cells
  have hF1 : ∀ x ∈ F, x < w0.drew.heap.size := dAt_lt d1
  have CP := Lib.hid (copies_any w1 l1 hF1 (by omega) ha ha1 HSEC.out)
  refine wp_region_flowR Lat [0, 0, 0, 1, 0, 0, 2, 3, 0] (by kernel_rfl) (by kernel_rfl) Lat.refl Lat.trans ?_
  refine fr0 rfl (fun _ => rfl) ?_
  simp only [Act.put, List.setIfInBounds_toArray, List.set_cons_succ, List.set_cons_zero]
  refine fr0 rfl (fun _ => rfl) ?_
  simp only [Act.put, List.setIfInBounds_toArray, List.set_cons_succ, List.set_cons_zero]
  refine fr0 rfl (run_field75 (by omega) rfl rfl) ?_
  simp only [Act.put, List.setIfInBounds_toArray, List.set_cons_succ, List.set_cons_zero]
  refine fr1 (u := .pointer (some ⟨b, 0, none⟩)) rfl (fun x hx => run_load1 rfl rfl (hx.cell x0) isAgg25) ?_
  simp only [Act.put, List.setIfInBounds_toArray, List.set_cons_succ, List.set_cons_zero]
  refine fr0 rfl (fun _ => rfl) ?_
  simp only [Act.put, List.setIfInBounds_toArray, List.set_cons_succ, List.set_cons_zero]
  refine fr0 rfl (fun _ => rfl) ?_
  simp only [Act.put, List.setIfInBounds_toArray, List.set_cons_succ, List.set_cons_zero]
  refine fr2c rfl (run_enter2 Try.call72 rfl rfl rfl) CP.out ?_
  rintro e w2 ⟨cv, rfl, hcv, o2⟩
  refine ⟨_, rfl, o2.lat, ?_⟩
  simp only [Act.put, List.setIfInBounds_toArray, List.set_cons_succ, List.set_cons_zero]
  refine fr3c rfl (run_enter2 Try.call71 rfl rfl rfl) (writeAll_any (d1.only o2 (by simp)) hcv (by rw [hcl]; omega) (by rw [hcl]; omega)) ?_
  rintro e w3 ⟨rfl, F3, d3, f3, o3⟩
  refine ⟨_, rfl, ?_⟩
  simp only [Act.put, List.setIfInBounds_toArray, List.set_cons_succ, List.set_cons_zero]
  refine fr0 (u := .int .i64 (S.writeAll (copiesL a ps)).1) rfl (fun _ => rfl) ?_
  simp only [Act.put, List.setIfInBounds_toArray, List.set_cons_succ, List.set_cons_zero]
  refine frnil ?_
  show Exit.then _ _ _ _ _
  have o13 : Only F w w3 := ((o1.trans o2 (by simp)).mono (by simp)).trans o3 (fun x hx => .inl hx)
  have f13 : ∀ x ∈ F3, x ∈ F ∨ w.heap.size ≤ x := fun x hx => by
    rcases f3 x hx with h | h
    · exact .inl h
    · exact .inr (Nat.le_trans (o1.trans o2 (by simp)).size h)
  have w3' := hw.only o13 hwb
  have l3 := hl.step o13 (fun x hx => .inl hx) f13
  have bd1 := writeAll_bd (copiesL a ps) S
  rw [hcl] at bd1
  have hwb3 : wb ∉ F3 := fun hx => by
    rcases f13 _ hx with h | h
    · exact hwb h
    · have := hw.lt; omega
  clear o1 d1 w1 l1 x0 x1 x2 x3 hF1 CP hcv o2 o3 f3 o0
  go_wp2_with fail
  obtain ⟨x0, x1, x2, x3, -⟩ := w3'.cells
  have hdr : ∀ {p : Addr} {u : Value}, w3.cell? p = some u → w3.drew.cell? p = some u := fun h => h
  refine wp_region_flowR Lat [0, 0, 0, 1, 0, 0, 0, 1, 0, 0, 0, 1, 0, 0, 0, 0, 2, 3] (by kernel_rfl) (by kernel_rfl) Lat.refl Lat.trans ?_
  refine fr0 rfl (fun _ => rfl) ?_
  simp only [Act.put, List.setIfInBounds_toArray, List.set_cons_succ, List.set_cons_zero]
  refine fr0 rfl (fun _ => rfl) ?_
  simp only [Act.put, List.setIfInBounds_toArray, List.set_cons_succ, List.set_cons_zero]
  refine fr0 rfl (run_field75 (by omega) rfl rfl) ?_
  simp only [Act.put, List.setIfInBounds_toArray, List.set_cons_succ, List.set_cons_zero]
  refine fr1 (u := .int .i64 a) rfl (fun x hx => run_load1 rfl rfl (hx.cell (hdr x1)) isAgg3) ?_
  simp only [Act.put, List.setIfInBounds_toArray, List.set_cons_succ, List.set_cons_zero]
  refine fr0 rfl (fun _ => rfl) ?_
  simp only [Act.put, List.setIfInBounds_toArray, List.set_cons_succ, List.set_cons_zero]
  refine fr0 rfl (fun _ => rfl) ?_
  simp only [Act.put, List.setIfInBounds_toArray, List.set_cons_succ, List.set_cons_zero]
  refine fr0 rfl (run_field75 (by omega) rfl rfl) ?_
  simp only [Act.put, List.setIfInBounds_toArray, List.set_cons_succ, List.set_cons_zero]
  refine fr1 (u := .int .i64 s) rfl (fun x hx => run_load1 rfl rfl (hx.cell (hdr x2)) isAgg3) ?_
  simp only [Act.put, List.setIfInBounds_toArray, List.set_cons_succ, List.set_cons_zero]
  refine fr0 rfl (fun _ => rfl) ?_
  simp only [Act.put, List.setIfInBounds_toArray, List.set_cons_succ, List.set_cons_zero]
  refine fr0 rfl (fun _ => rfl) ?_
  simp only [Act.put, List.setIfInBounds_toArray, List.set_cons_succ, List.set_cons_zero]
  refine fr0 rfl (run_field75 (by omega) rfl rfl) ?_
  simp only [Act.put, List.setIfInBounds_toArray, List.set_cons_succ, List.set_cons_zero]
  refine fr1 (u := .int .i64 g) rfl (fun x hx => run_load1 rfl rfl (hx.cell (hdr x3)) isAgg3) ?_
  simp only [Act.put, List.setIfInBounds_toArray, List.set_cons_succ, List.set_cons_zero]
  refine fr0 (u := .int .i64 (g + 1)) rfl (run_add (by omega) (by omega) rfl rfl rfl) ?_
  simp only [Act.put, List.setIfInBounds_toArray, List.set_cons_succ, List.set_cons_zero]
  refine fr0 rfl (fun _ => rfl) ?_
  simp only [Act.put, List.setIfInBounds_toArray, List.set_cons_succ, List.set_cons_zero]
  refine fr0 (u := .int .i64 (ps.length : Int)) rfl (run_len32 rfl rfl) ?_
  simp only [Act.put, List.setIfInBounds_toArray, List.set_cons_succ, List.set_cons_zero]
  refine fr0 (u := .agg #[.int .i64 a, .int .i64 s, .int .i64 (g + 1), .int .i64 (ps.length : Int)]) rfl (run_build78_4 rfl rfl rfl rfl rfl) ?_
  simp only [Act.put, List.setIfInBounds_toArray, List.set_cons_succ, List.set_cons_zero]
  refine fr2 (u := .pointer (some ⟨w3.drew.heap.size, 0, none⟩)) rfl (Lat.alloc _ _) (.inl (run_alloc78 rfl)) ?_
  simp only [Act.put, List.setIfInBounds_toArray, List.set_cons_succ, List.set_cons_zero]
  refine fr3 (u := undef) (w' := w3.drew.alloc (.cells #[.int .i64 a, .int .i64 s, .int .i64 (g + 1), .int .i64 (ps.length : Int)] 99)) rfl (.inr (.inl ⟨run_store78 rfl rfl (by kernel_rfl) rfl rfl rfl, rfl⟩)) ?_
  simp only [Act.put, List.setIfInBounds_toArray, List.set_cons_succ, List.set_cons_zero]
  refine frnil ?_
  show Exit.then _ _ _ _ _
  have o4 : Only [] w3 (w3.drew.alloc (.cells #[.int .i64 a, .int .i64 s, .int .i64 (g + 1), .int .i64 (ps.length : Int)] 99)) := (Only.refl [] w3).drew.alloc _
  have hhd : (w3.drew.alloc (.cells #[.int .i64 a, .int .i64 s, .int .i64 (g + 1), .int .i64 (ps.length : Int)] 99)).heap[w3.heap.size]? = some (.cells #[.int .i64 a, .int .i64 s, .int .i64 (g + 1), .int .i64 (ps.length : Int)] 99 (0, 0)) := heap_alloc_last w3.drew _
  have hsz3 : w3.drew.heap.size = w3.heap.size := rfl
  rw [hsz3]
  clear hsz3
  generalize w3.drew.alloc (.cells #[.int .i64 a, .int .i64 s, .int .i64 (g + 1), .int .i64 (ps.length : Int)] 99) = w4 at *
  clear hdr x0 x1 x2 x3
  have HHD := Lib.hid hhd
  clear hhd
  go_wp2_with fail
  have d4 := (d3.only o4 (by simp)).drew
  have w4' := (w3'.only o4 (by simp))
  obtain ⟨x0, x1, x2, x3, -⟩ := w4'.cells
  have hdr : ∀ {p : Addr} {u : Value}, w4.cell? p = some u → w4.drew.cell? p = some u := fun h => h
  have hhd4 : w4.drew.heap[w3.heap.size]? = some (.cells #[.int .i64 a, .int .i64 s, .int .i64 (g + 1), .int .i64 (ps.length : Int)] 99 (0, 0)) := HHD.out
  have WH := Lib.hid (writeHead_any d4 a s (g + 1) ps.length ⟨ha, by omega⟩ ⟨by omega, by omega⟩ ⟨by omega, by omega⟩ ⟨by omega, by omega⟩ (by omega) (by omega))
  refine wp_region_flowR Lat [0, 0, 0, 1, 1, 3, 0] (by kernel_rfl) (by kernel_rfl) Lat.refl Lat.trans ?_
  refine fr0 rfl (fun _ => rfl) ?_
  simp only [Act.put, List.setIfInBounds_toArray, List.set_cons_succ, List.set_cons_zero]
  refine fr0 rfl (fun _ => rfl) ?_
  simp only [Act.put, List.setIfInBounds_toArray, List.set_cons_succ, List.set_cons_zero]
  refine fr0 rfl (run_field75 (by omega) rfl rfl) ?_
  simp only [Act.put, List.setIfInBounds_toArray, List.set_cons_succ, List.set_cons_zero]
  refine fr1 (u := .pointer (some ⟨b, 0, none⟩)) rfl (fun x hx => run_load1 rfl rfl (hx.cell (hdr x0)) isAgg25) ?_
  simp only [Act.put, List.setIfInBounds_toArray, List.set_cons_succ, List.set_cons_zero]
  refine fr1 (u := .agg #[.int .i64 a, .int .i64 s, .int .i64 (g + 1), .int .i64 (ps.length : Int)]) rfl (fun x hx => run_load78 rfl rfl (hx.at hhd4) rfl) ?_
  simp only [Act.put, List.setIfInBounds_toArray, List.set_cons_succ, List.set_cons_zero]
  refine fr3c rfl (run_enter2 Try.call66 rfl rfl rfl) WH.out ?_
  rintro e w5 ⟨rfl, F5, d5, f5, o5⟩
  refine ⟨_, rfl, ?_⟩
  simp only [Act.put, List.setIfInBounds_toArray, List.set_cons_succ, List.set_cons_zero]
  refine fr0 (u := .int .i64 ((S.writeAll (copiesL a ps)).2.writeAll [(a, headA a s (g + 1) ps.length)]).1) rfl (fun _ => rfl) ?_
  simp only [Act.put, List.setIfInBounds_toArray, List.set_cons_succ, List.set_cons_zero]
  refine frnil ?_
  show Exit.then _ _ _ _ _
  have o35 : Only F3 w3 w5 := ((o4.drew).mono (by simp)).trans o5 (fun x hx => .inl hx)
  have f35 : ∀ x ∈ F5, x ∈ F3 ∨ w3.heap.size ≤ x := fun x hx => by
    rcases f5 x hx with h | h
    · exact .inl h
    · exact .inr (Nat.le_trans o4.drew.size h)
  have o15 : Only F w w5 := o13.trans o35 f13
  have f15 : ∀ x ∈ F5, x ∈ F ∨ w.heap.size ≤ x := fun x hx => by
    rcases f35 x hx with h | h
    · exact f13 x h
    · exact .inr (Nat.le_trans o13.size h)
  have w5' := hw.only o15 hwb
  have l5 := hl.step o15 (fun x hx => .inl hx) f15
  have hwb5 : wb ∉ F5 := fun hx => by
    rcases f15 _ hx with h | h
    · exact hwb h
    · have := hw.lt; omega
  have hF3s : w3.heap.size ∉ F3 := fun hx => by have := dAt_lt d3 _ hx; omega
  have hhd5 : w5.heap[w3.heap.size]? = some (.cells #[.int .i64 a, .int .i64 s, .int .i64 (g + 1), .int .i64 (ps.length : Int)] 99 (0, 0)) := (o5.block _ (Array.getElem?_eq_some_iff.1 hhd4).1 hF3s).trans hhd4
  have bd2 := writeAll_bd [(a, headA a s (g + 1) ps.length)] (S.writeAll (copiesL a ps)).2
  simp only [List.length_singleton] at bd2
  clear o4 d4 w4' x0 x1 x2 x3 hdr hhd4 WH f5 o5 o35 d3 l3 w3' o13 f13
  have xc : w5.cell? ⟨w3.heap.size, 2, none⟩ = some (.int .i64 (g + 1)) := by rw [cell_of_row _ _ _ _ _ _ hhd5]; rfl
  have FI := Lib.hid (finish_any (g := g + 1) d5 w5' hwb5 l5 ⟨ha, by omega⟩ ⟨by omega, by omega⟩ ⟨by omega, by omega⟩ (by omega) (by omega))
  have KEEP2 := Lib.hid (And.intro d5 (And.intro f15 (And.intro o15 (And.intro w5' hhd5))))
  clear d5 f15 o15 w5' l5 hhd5
  go_wp2_with (go_at_call 73; refine FI.out.mono ?_; rintro e w6 ⟨rfl, F6, d6, f6, o6⟩)
  go_ret
  have hres : S.commit a s g ps = ⟨(((S.writeAll (copiesL a ps)).2.writeAll [(a, headA a s (g + 1) ps.length)]).2.finish a s ps (g + 1)).1, (((S.writeAll (copiesL a ps)).2.writeAll [(a, headA a s (g + 1) ps.length)]).2.finish a s ps (g + 1)).2, g⟩ := by rw [St.commit, if_neg (by simp [z1]), if_neg (by simp [z2]), if_pos z3]
  rw [hres]
  obtain ⟨d5, f15, o15, w5', hhd5⟩ := KEEP2.out
  have f16 : ∀ x ∈ F6, x ∈ F ∨ w.heap.size ≤ x := fun x hx => by
    rcases f6 x hx with h | h
    · exact f15 x h
    · exact .inr (Nat.le_trans o15.size h)
  have o16 : Only F w w6 := o15.trans o6 f15
  exact ⟨rfl, F6, d6, f16, o16.mono (fun x hx => List.mem_cons_of_mem _ hx), w5'.only o6 hwb5⟩

set_option maxHeartbeats 2000000 in
theorem commit_4 {w : World} {wb b : Nat} {F : List Nat} {S : St} {a s g : Int} {lv : Value} {ps : List (Int × Array Value)} (hd : DAt w b F S) (hw : WalAt w wb b a s g) (hwb : wb ∉ F) (hl : PutsAt w F lv ps) (ha : 0 ≤ a) (ha1 : a ≤ 8192) (hs : 3 ≤ s) (hs1 : s ≤ 8192) (hg : 0 ≤ g) (hg1 : g ≤ 1000000000) (hok : GroupOk a s S.n (rawsOf ps)) (hst : S.steps + 3 * ps.length + 100 < 1000000000) (hpd : S.pend.length + 3 * ps.length + 100 < 1000000000)
    (z1 : (S.writeAll (copiesL a ps)).1 = 0) (z2 : ((S.writeAll (copiesL a ps)).2.writeAll [(a, headA a s (g + 1) ps.length)]).1 = 0) (z3 : (((S.writeAll (copiesL a ps)).2.writeAll [(a, headA a s (g + 1) ps.length)]).2.finish a s ps (g + 1)).1 = 0) :
    Calls Try.prog 46 #[.pointer (some ⟨wb, 0, none⟩), lv] w fun e w' => e = .returned (.int .i64 (S.commit a s g ps).e) ∧ WPost w w' wb b F (S.commit a s g ps).st a s (S.commit a s g ps).g := by
  have hn1 : S.n ≤ 8192 := by obtain ⟨_, _, _, h, _⟩ := hd; exact h.ok.n1
  have hsec : ∀ p ∈ ps, 0 ≤ p.1 ∧ p.1 ≤ 8192 := fun p hp => by
    have := hok.2.1 (p.1, 64) (List.mem_map.2 ⟨p, hp, rfl⟩)
    have h1 := this.1
    have h2 := this.2.1
    simp only at h1 h2
    omega
  have hlen : ps.length ≤ 8192 := by
    have h1 := hok.1
    have h2 := roomF_bd hs
    simp only [rawsOf, List.length_map] at h1
    omega
  have hnums : numsF ps.length ≤ 300 ∧ numsF ps.length ≤ ps.length := by unfold numsF; omega
  have VA := Lib.hid (valid_any hd hw (hl.raws (fun p hp => by have := hsec p hp; omega)) ha ha1 hs hs1)
  obtain ⟨ad, cap, rfl, -, -⟩ := hl.shape
  have KEEP := Lib.hid (And.intro hd (And.intro hw hl))
  have HOK := Lib.hid hok
  have HSEC := Lib.hid hsec
  have hcl := copiesL_len a ps
  clear hd hw hl hok hsec
  go_enter Try.func46, Try.ntmps46
  go_wp2_with fail
  refine VA.out.mono ?_
  rintro e w0 ⟨r, rfl, hr, o0⟩
  have hrt : r = true := hr.2 HOK.out
  subst hrt
  clear hr VA
  go_wp2_with fail
  obtain ⟨hd, hw, hl⟩ := KEEP.out
  have o1 : Only [] w w0.drew := o0.drew
  have d1 := hd.only o1 (by simp)
  have w1 := hw.only o1 (by simp)
  have l1 := hl.only o1 (by simp)
  obtain ⟨x0, x1, x2, x3, -⟩ := w1.cells
  have hF1 : ∀ x ∈ F, x < w0.drew.heap.size := dAt_lt d1
  have CP := Lib.hid (copies_any w1 l1 hF1 (by omega) ha ha1 HSEC.out)
  refine wp_region_flowR Lat [0, 0, 0, 1, 0, 0, 2, 3, 0] (by kernel_rfl) (by kernel_rfl) Lat.refl Lat.trans ?_
  refine fr0 rfl (fun _ => rfl) ?_
  simp only [Act.put, List.setIfInBounds_toArray, List.set_cons_succ, List.set_cons_zero]
  refine fr0 rfl (fun _ => rfl) ?_
  simp only [Act.put, List.setIfInBounds_toArray, List.set_cons_succ, List.set_cons_zero]
  refine fr0 rfl (run_field75 (by omega) rfl rfl) ?_
  simp only [Act.put, List.setIfInBounds_toArray, List.set_cons_succ, List.set_cons_zero]
  refine fr1 (u := .pointer (some ⟨b, 0, none⟩)) rfl (fun x hx => run_load1 rfl rfl (hx.cell x0) isAgg25) ?_
  simp only [Act.put, List.setIfInBounds_toArray, List.set_cons_succ, List.set_cons_zero]
  refine fr0 rfl (fun _ => rfl) ?_
  simp only [Act.put, List.setIfInBounds_toArray, List.set_cons_succ, List.set_cons_zero]
  refine fr0 rfl (fun _ => rfl) ?_
  simp only [Act.put, List.setIfInBounds_toArray, List.set_cons_succ, List.set_cons_zero]
  refine fr2c rfl (run_enter2 Try.call72 rfl rfl rfl) CP.out ?_
  rintro e w2 ⟨cv, rfl, hcv, o2⟩
  refine ⟨_, rfl, o2.lat, ?_⟩
  simp only [Act.put, List.setIfInBounds_toArray, List.set_cons_succ, List.set_cons_zero]
  refine fr3c rfl (run_enter2 Try.call71 rfl rfl rfl) (writeAll_any (d1.only o2 (by simp)) hcv (by rw [hcl]; omega) (by rw [hcl]; omega)) ?_
  rintro e w3 ⟨rfl, F3, d3, f3, o3⟩
  refine ⟨_, rfl, ?_⟩
  simp only [Act.put, List.setIfInBounds_toArray, List.set_cons_succ, List.set_cons_zero]
  refine fr0 (u := .int .i64 (S.writeAll (copiesL a ps)).1) rfl (fun _ => rfl) ?_
  simp only [Act.put, List.setIfInBounds_toArray, List.set_cons_succ, List.set_cons_zero]
  refine frnil ?_
  show Exit.then _ _ _ _ _
  have o13 : Only F w w3 := ((o1.trans o2 (by simp)).mono (by simp)).trans o3 (fun x hx => .inl hx)
  have f13 : ∀ x ∈ F3, x ∈ F ∨ w.heap.size ≤ x := fun x hx => by
    rcases f3 x hx with h | h
    · exact .inl h
    · exact .inr (Nat.le_trans (o1.trans o2 (by simp)).size h)
  have w3' := hw.only o13 hwb
  have l3 := hl.step o13 (fun x hx => .inl hx) f13
  have bd1 := writeAll_bd (copiesL a ps) S
  rw [hcl] at bd1
  have hwb3 : wb ∉ F3 := fun hx => by
    rcases f13 _ hx with h | h
    · exact hwb h
    · have := hw.lt; omega
  clear o1 d1 w1 l1 x0 x1 x2 x3 hF1 CP hcv o2 o3 f3 o0
  go_wp2_with fail
  obtain ⟨x0, x1, x2, x3, -⟩ := w3'.cells
  have hdr : ∀ {p : Addr} {u : Value}, w3.cell? p = some u → w3.drew.cell? p = some u := fun h => h
  refine wp_region_flowR Lat [0, 0, 0, 1, 0, 0, 0, 1, 0, 0, 0, 1, 0, 0, 0, 0, 2, 3] (by kernel_rfl) (by kernel_rfl) Lat.refl Lat.trans ?_
  refine fr0 rfl (fun _ => rfl) ?_
  simp only [Act.put, List.setIfInBounds_toArray, List.set_cons_succ, List.set_cons_zero]
  refine fr0 rfl (fun _ => rfl) ?_
  simp only [Act.put, List.setIfInBounds_toArray, List.set_cons_succ, List.set_cons_zero]
  refine fr0 rfl (run_field75 (by omega) rfl rfl) ?_
  simp only [Act.put, List.setIfInBounds_toArray, List.set_cons_succ, List.set_cons_zero]
  refine fr1 (u := .int .i64 a) rfl (fun x hx => run_load1 rfl rfl (hx.cell (hdr x1)) isAgg3) ?_
  simp only [Act.put, List.setIfInBounds_toArray, List.set_cons_succ, List.set_cons_zero]
  refine fr0 rfl (fun _ => rfl) ?_
  simp only [Act.put, List.setIfInBounds_toArray, List.set_cons_succ, List.set_cons_zero]
  refine fr0 rfl (fun _ => rfl) ?_
  simp only [Act.put, List.setIfInBounds_toArray, List.set_cons_succ, List.set_cons_zero]
  refine fr0 rfl (run_field75 (by omega) rfl rfl) ?_
  simp only [Act.put, List.setIfInBounds_toArray, List.set_cons_succ, List.set_cons_zero]
  refine fr1 (u := .int .i64 s) rfl (fun x hx => run_load1 rfl rfl (hx.cell (hdr x2)) isAgg3) ?_
  simp only [Act.put, List.setIfInBounds_toArray, List.set_cons_succ, List.set_cons_zero]
  refine fr0 rfl (fun _ => rfl) ?_
  simp only [Act.put, List.setIfInBounds_toArray, List.set_cons_succ, List.set_cons_zero]
  refine fr0 rfl (fun _ => rfl) ?_
  simp only [Act.put, List.setIfInBounds_toArray, List.set_cons_succ, List.set_cons_zero]
  refine fr0 rfl (run_field75 (by omega) rfl rfl) ?_
  simp only [Act.put, List.setIfInBounds_toArray, List.set_cons_succ, List.set_cons_zero]
  refine fr1 (u := .int .i64 g) rfl (fun x hx => run_load1 rfl rfl (hx.cell (hdr x3)) isAgg3) ?_
  simp only [Act.put, List.setIfInBounds_toArray, List.set_cons_succ, List.set_cons_zero]
  refine fr0 (u := .int .i64 (g + 1)) rfl (run_add (by omega) (by omega) rfl rfl rfl) ?_
  simp only [Act.put, List.setIfInBounds_toArray, List.set_cons_succ, List.set_cons_zero]
  refine fr0 rfl (fun _ => rfl) ?_
  simp only [Act.put, List.setIfInBounds_toArray, List.set_cons_succ, List.set_cons_zero]
  refine fr0 (u := .int .i64 (ps.length : Int)) rfl (run_len32 rfl rfl) ?_
  simp only [Act.put, List.setIfInBounds_toArray, List.set_cons_succ, List.set_cons_zero]
  refine fr0 (u := .agg #[.int .i64 a, .int .i64 s, .int .i64 (g + 1), .int .i64 (ps.length : Int)]) rfl (run_build78_4 rfl rfl rfl rfl rfl) ?_
  simp only [Act.put, List.setIfInBounds_toArray, List.set_cons_succ, List.set_cons_zero]
  refine fr2 (u := .pointer (some ⟨w3.drew.heap.size, 0, none⟩)) rfl (Lat.alloc _ _) (.inl (run_alloc78 rfl)) ?_
  simp only [Act.put, List.setIfInBounds_toArray, List.set_cons_succ, List.set_cons_zero]
  refine fr3 (u := undef) (w' := w3.drew.alloc (.cells #[.int .i64 a, .int .i64 s, .int .i64 (g + 1), .int .i64 (ps.length : Int)] 99)) rfl (.inr (.inl ⟨run_store78 rfl rfl (by kernel_rfl) rfl rfl rfl, rfl⟩)) ?_
  simp only [Act.put, List.setIfInBounds_toArray, List.set_cons_succ, List.set_cons_zero]
  refine frnil ?_
  show Exit.then _ _ _ _ _
  have o4 : Only [] w3 (w3.drew.alloc (.cells #[.int .i64 a, .int .i64 s, .int .i64 (g + 1), .int .i64 (ps.length : Int)] 99)) := (Only.refl [] w3).drew.alloc _
  have hhd : (w3.drew.alloc (.cells #[.int .i64 a, .int .i64 s, .int .i64 (g + 1), .int .i64 (ps.length : Int)] 99)).heap[w3.heap.size]? = some (.cells #[.int .i64 a, .int .i64 s, .int .i64 (g + 1), .int .i64 (ps.length : Int)] 99 (0, 0)) := heap_alloc_last w3.drew _
  have hsz3 : w3.drew.heap.size = w3.heap.size := rfl
  rw [hsz3]
  clear hsz3
  generalize w3.drew.alloc (.cells #[.int .i64 a, .int .i64 s, .int .i64 (g + 1), .int .i64 (ps.length : Int)] 99) = w4 at *
  clear hdr x0 x1 x2 x3
  have HHD := Lib.hid hhd
  clear hhd
  go_wp2_with fail
  have d4 := (d3.only o4 (by simp)).drew
  have w4' := (w3'.only o4 (by simp))
  obtain ⟨x0, x1, x2, x3, -⟩ := w4'.cells
  have hdr : ∀ {p : Addr} {u : Value}, w4.cell? p = some u → w4.drew.cell? p = some u := fun h => h
  have hhd4 : w4.drew.heap[w3.heap.size]? = some (.cells #[.int .i64 a, .int .i64 s, .int .i64 (g + 1), .int .i64 (ps.length : Int)] 99 (0, 0)) := HHD.out
  have WH := Lib.hid (writeHead_any d4 a s (g + 1) ps.length ⟨ha, by omega⟩ ⟨by omega, by omega⟩ ⟨by omega, by omega⟩ ⟨by omega, by omega⟩ (by omega) (by omega))
  refine wp_region_flowR Lat [0, 0, 0, 1, 1, 3, 0] (by kernel_rfl) (by kernel_rfl) Lat.refl Lat.trans ?_
  refine fr0 rfl (fun _ => rfl) ?_
  simp only [Act.put, List.setIfInBounds_toArray, List.set_cons_succ, List.set_cons_zero]
  refine fr0 rfl (fun _ => rfl) ?_
  simp only [Act.put, List.setIfInBounds_toArray, List.set_cons_succ, List.set_cons_zero]
  refine fr0 rfl (run_field75 (by omega) rfl rfl) ?_
  simp only [Act.put, List.setIfInBounds_toArray, List.set_cons_succ, List.set_cons_zero]
  refine fr1 (u := .pointer (some ⟨b, 0, none⟩)) rfl (fun x hx => run_load1 rfl rfl (hx.cell (hdr x0)) isAgg25) ?_
  simp only [Act.put, List.setIfInBounds_toArray, List.set_cons_succ, List.set_cons_zero]
  refine fr1 (u := .agg #[.int .i64 a, .int .i64 s, .int .i64 (g + 1), .int .i64 (ps.length : Int)]) rfl (fun x hx => run_load78 rfl rfl (hx.at hhd4) rfl) ?_
  simp only [Act.put, List.setIfInBounds_toArray, List.set_cons_succ, List.set_cons_zero]
  refine fr3c rfl (run_enter2 Try.call66 rfl rfl rfl) WH.out ?_
  rintro e w5 ⟨rfl, F5, d5, f5, o5⟩
  refine ⟨_, rfl, ?_⟩
  simp only [Act.put, List.setIfInBounds_toArray, List.set_cons_succ, List.set_cons_zero]
  refine fr0 (u := .int .i64 ((S.writeAll (copiesL a ps)).2.writeAll [(a, headA a s (g + 1) ps.length)]).1) rfl (fun _ => rfl) ?_
  simp only [Act.put, List.setIfInBounds_toArray, List.set_cons_succ, List.set_cons_zero]
  refine frnil ?_
  show Exit.then _ _ _ _ _
  have o35 : Only F3 w3 w5 := ((o4.drew).mono (by simp)).trans o5 (fun x hx => .inl hx)
  have f35 : ∀ x ∈ F5, x ∈ F3 ∨ w3.heap.size ≤ x := fun x hx => by
    rcases f5 x hx with h | h
    · exact .inl h
    · exact .inr (Nat.le_trans o4.drew.size h)
  have o15 : Only F w w5 := o13.trans o35 f13
  have f15 : ∀ x ∈ F5, x ∈ F ∨ w.heap.size ≤ x := fun x hx => by
    rcases f35 x hx with h | h
    · exact f13 x h
    · exact .inr (Nat.le_trans o13.size h)
  have w5' := hw.only o15 hwb
  have l5 := hl.step o15 (fun x hx => .inl hx) f15
  have hwb5 : wb ∉ F5 := fun hx => by
    rcases f15 _ hx with h | h
    · exact hwb h
    · have := hw.lt; omega
  have hF3s : w3.heap.size ∉ F3 := fun hx => by have := dAt_lt d3 _ hx; omega
  have hhd5 : w5.heap[w3.heap.size]? = some (.cells #[.int .i64 a, .int .i64 s, .int .i64 (g + 1), .int .i64 (ps.length : Int)] 99 (0, 0)) := (o5.block _ (Array.getElem?_eq_some_iff.1 hhd4).1 hF3s).trans hhd4
  have bd2 := writeAll_bd [(a, headA a s (g + 1) ps.length)] (S.writeAll (copiesL a ps)).2
  simp only [List.length_singleton] at bd2
  have F5S : Hid (w3.heap.size ∉ F5) := (fun hx : w3.heap.size ∈ F5 => by
    rcases f5 _ hx with h | h
    · exact hF3s h
    · have := (Array.getElem?_eq_some_iff.1 hhd4).1; omega)
  clear o4 d4 w4' x0 x1 x2 x3 hdr hhd4 WH f5 o5 o35 d3 l3 w3' o13 f13
  have xc : w5.cell? ⟨w3.heap.size, 2, none⟩ = some (.int .i64 (g + 1)) := by rw [cell_of_row _ _ _ _ _ _ hhd5]; rfl
  have FI := Lib.hid (finish_any (g := g + 1) d5 w5' hwb5 l5 ⟨ha, by omega⟩ ⟨by omega, by omega⟩ ⟨by omega, by omega⟩ (by omega) (by omega))
  have HSZ := Lib.hid hF3s
  have KEEP2 := Lib.hid (And.intro d5 (And.intro f15 (And.intro o15 (And.intro w5' hhd5))))
  have HWB := Lib.hid hwb
  have HWL := Lib.hid hw.lt
  have HWB5 := Lib.hid hwb5
  clear d5 f15 o15 w5' l5 hhd5 hwb hwb5 hwb3 hF3s hd hw hl
  go_wp2_with fail
  refine FI.out.mono ?_
  rintro e w6 ⟨rfl, F6, d6, f6, o6⟩
  clear FI
  have w6' := KEEP2.out.2.2.2.1.only o6 HWB5.out
  have hF5s : w3.heap.size ∉ F5 := fun hx => by
    rcases f35 _ hx with h | h
    · exact HSZ.out h
    · exact F5S.out hx
  have xd : w6.cell? ⟨w3.heap.size, 2, none⟩ = some (.int .i64 (g + 1)) := (World.cell?_of_block (o6.block _ (Array.getElem?_eq_some_iff.1 KEEP2.out.2.2.2.2).1 hF5s)).trans xc
  obtain ⟨x0, x1, x2, x3, fz⟩ := w6'.cells
  have FIN := Lib.hid (And.intro d6 (And.intro f6 (And.intro o6 w6')))
  clear d6 f6 o6 w6' f35 hF5s
  go_wp2
  go_ret
  obtain ⟨d6, f6, o6, w6'⟩ := FIN.out
  obtain ⟨d5, f15, o15, w5', hhd5⟩ := KEEP2.out
  have hres : S.commit a s g ps = ⟨0, (((S.writeAll (copiesL a ps)).2.writeAll [(a, headA a s (g + 1) ps.length)]).2.finish a s ps (g + 1)).2, g + 1⟩ := by rw [St.commit, if_neg (by simp [z1]), if_neg (by simp [z2]), if_neg (by simp [z3])]
  rw [hres]
  have f16 : ∀ x ∈ F6, x ∈ F ∨ w.heap.size ≤ x := fun x hx => by
    rcases f6 x hx with h | h
    · exact f15 x h
    · exact .inr (Nat.le_trans o15.size h)
  have hwb6 : wb ∉ F6 := fun hx => by
    rcases f16 _ hx with h | h
    · exact HWB.out h
    · have := HWL.out; omega
  have o16 : Only F w w6 := o15.trans o6 f15
  have os : Only [wb] w6 (w6.setCell ⟨wb, 3, none⟩ (.int .i64 (g + 1))) := (Only.refl _ _).setCell (by simp) _
  refine ⟨rfl, F6, d6.only os (fun x hx h => hwb6 (by simp at h; exact h ▸ hx)), f16, (o16.mono (fun x hx => List.mem_cons_of_mem _ hx)).setCell (by simp) _, ?_⟩
  exact heap_setCell_row w6' 3 (.int .i64 (g + 1))

theorem commit_any {w : World} {wb b : Nat} {F : List Nat} {S : St} {a s g : Int} {lv : Value} {ps : List (Int × Array Value)} (hd : DAt w b F S) (hw : WalAt w wb b a s g) (hwb : wb ∉ F) (hl : PutsAt w F lv ps) (ha : 0 ≤ a) (ha1 : a ≤ 8192) (hs : 3 ≤ s) (hs1 : s ≤ 8192) (hg : 0 ≤ g) (hg1 : g ≤ 1000000000) (hok : GroupOk a s S.n (rawsOf ps)) (hst : S.steps + 3 * ps.length + 100 < 1000000000) (hpd : S.pend.length + 3 * ps.length + 100 < 1000000000) :
    Calls Try.prog 46 #[.pointer (some ⟨wb, 0, none⟩), lv] w fun e w' => e = .returned (.int .i64 (S.commit a s g ps).e) ∧ WPost w w' wb b F (S.commit a s g ps).st a s (S.commit a s g ps).g := by
  by_cases z1 : (S.writeAll (copiesL a ps)).1 = 0
  · by_cases z2 : ((S.writeAll (copiesL a ps)).2.writeAll [(a, headA a s (g + 1) ps.length)]).1 = 0
    · by_cases z3 : (((S.writeAll (copiesL a ps)).2.writeAll [(a, headA a s (g + 1) ps.length)]).2.finish a s ps (g + 1)).1 = 0
      · exact commit_4 hd hw hwb hl ha ha1 hs hs1 hg hg1 hok hst hpd z1 z2 z3
      · exact commit_3 hd hw hwb hl ha ha1 hs hs1 hg hg1 hok hst hpd z1 z2 z3
    · exact commit_2 hd hw hwb hl ha ha1 hs hs1 hg hg1 hok hst hpd z1 z2
  · exact commit_1 hd hw hwb hl ha ha1 hs hs1 hg hg1 hok hst hpd z1

end Go.Proofs.Ytoccnaebckcfmaa
end

section
set_option linter.unusedSimpArgs false
set_option linter.unusedVariables false
set_option maxRecDepth 8000
namespace Go.Proofs.Ytoccnaebckcfmaa
open Go.RowKit

set_option maxHeartbeats 400000 in
theorem format_no {w : World} {b : Nat} {F : List Nat} {S : St} (h : DAt w b F S) (a s : Int) (h0 : -9223372036854775808 ≤ a) (h1 : a ≤ 9223372036854775807) (h2 : -9223372036854775808 ≤ s) (h3 : s ≤ 9223372036854775807) (hno : ¬ (3 ≤ s ∧ 0 ≤ a ∧ a ≤ S.n - s)) :
    Calls Try.prog 36 #[.pointer (some ⟨b, 0, none⟩), .int .i64 a, .int .i64 s] w fun e w' => e = .returned (.int .i64 1) ∧ w = w' := by
  have P := possible_any h a s h0 h1 h2 h3
  rw [decide_eq_false hno] at P
  have P2 := Lib.hid P
  clear P h hno
  go_enter Try.func36, Try.ntmps36
  go_wp2_with (go_at_call 56; refine P2.out.mono ?_; rintro e w' ⟨rfl, rfl⟩)
  go_ret
  exact ⟨rfl, rfl⟩

set_option maxHeartbeats 400000 in
theorem format_any {w : World} {b : Nat} {F : List Nat} {S : St} (h : DAt w b F S) (a s : Int) (h1 : a ≤ 9223372036854775807) (h3 : s ≤ 9223372036854775807) (hyes : 3 ≤ s ∧ 0 ≤ a ∧ a ≤ S.n - s) (hst : S.steps + 10 < 1000000000) (hpd : S.pend.length + 10 < 1000000000) :
    Calls Try.prog 36 #[.pointer (some ⟨b, 0, none⟩), .int .i64 a, .int .i64 s] w fun e w' => e = .returned (.int .i64 (S.writeAll [(a, headA a s 0 0)]).1) ∧ DPost w w' b F (S.writeAll [(a, headA a s 0 0)]).2 := by
  have P := possible_any h a s (by omega) h1 (by omega) h3
  rw [decide_eq_true hyes] at P
  have P2 := Lib.hid P
  have WH := Lib.hid (writeHead_any h a s 0 0 ⟨hyes.2.1, h1⟩ ⟨by omega, h3⟩ (by omega) (by omega) (by omega) (by omega))
  clear P h
  go_enter Try.func36, Try.ntmps36
  go_wp2_with (first | (go_at_call 56; refine P2.out.mono ?_; rintro e w' ⟨rfl, rfl⟩) | (go_at_call 66; refine WH.out.mono ?_; rintro e w' ⟨rfl, hpost⟩))
  go_ret
  exact ⟨rfl, hpost⟩

set_option maxHeartbeats 400000 in
theorem open_no {w : World} {b : Nat} {F : List Nat} {S : St} (h : DAt w b F S) (a s : Int) (h0 : -9223372036854775808 ≤ a) (h1 : a ≤ 9223372036854775807) (h2 : -9223372036854775808 ≤ s) (h3 : s ≤ 9223372036854775807) (hno : ¬ (3 ≤ s ∧ 0 ≤ a ∧ a ≤ S.n - s)) :
    Calls Try.prog 29 #[.pointer (some ⟨b, 0, none⟩), .int .i64 a, .int .i64 s] w fun e w' => e = .returned (.tuple #[.pointer none, .int .i64 1]) ∧ w = w' := by
  have P := possible_any h a s h0 h1 h2 h3
  rw [decide_eq_false hno] at P
  have P2 := Lib.hid P
  clear P h hno
  go_enter Try.func29, Try.ntmps29
  go_wp2_with (go_at_call 56; refine P2.out.mono ?_; rintro e w' ⟨rfl, rfl⟩)
  go_ret2
  exact ⟨rfl, rfl⟩

/-! Heads as lists of bytes. -/
def headLs (a s g p : Int) : List Int := (List.range 64).map (headF a s g p)
theorem headA_sec (a s g p : Int) : headA a s g p = sec (headLs a s g p) := sec_of _ 64 (headA_size a s g p) _ (headA_at a s g p)
theorem headLs_len (a s g p : Int) : (headLs a s g p).length = 64 := by simp [headLs]
theorem headLs_bd (a s g p : Int) : ∀ x ∈ headLs a s g p, 0 ≤ x ∧ x < 256 := fun x hx => by
  obtain ⟨j, _, rfl⟩ := List.mem_map.1 hx
  exact headF_bd a s g p j
def byt (l : List Int) (j : Nat) : Int := l.getD j 0
theorem byt_bd {l : List Int} (h : ∀ x ∈ l, 0 ≤ x ∧ x < 256) (j : Nat) : 0 ≤ byt l j ∧ byt l j < 256 := by
  unfold byt
  rw [List.getD_eq_getElem?_getD]
  cases hj : l[j]? with
  | none => simp
  | some x => exact h x (List.mem_of_getElem? hj)
theorem byt_head (a s g p : Int) (j : Nat) (h : j < 64) : byt (headLs a s g p) j = headF a s g p j := by
  simp [byt, headLs, List.getD_eq_getElem?_getD, h]
/-- What parseHead makes of bytes. -/
def rd (l : List Int) (o : Nat) : Int := ldF (fun j => byt l (o + j)) 4
theorem parsed_rd (l : List Int) : parsed (byt l) 4 = #[.int .i64 (rd l 13), .int .i64 (rd l 17), .int .i64 (rd l 21), .int .i64 (rd l 25)] := rfl
theorem ldF_congr {f f' : Nat → Int} (h : ∀ j, j < 4 → f j = f' j) : ldF f 4 = ldF f' 4 := by
  simp only [ldF, h 0 (by omega), h 1 (by omega), h 2 (by omega), h 3 (by omega)]
theorem rd_bd {l : List Int} (h : ∀ x ∈ l, 0 ≤ x ∧ x < 256) (o : Nat) : 0 ≤ rd l o ∧ rd l o < 4294967296 := by
  have h0 := byt_bd h (o + 0)
  have h1 := byt_bd h (o + 1)
  have h2 := byt_bd h (o + 2)
  have h3 := byt_bd h (o + 3)
  simp only [rd, ldF]
  omega
theorem rd_head {a s g p : Int} (ha : 0 ≤ a ∧ a < 4294967296) (hs : 0 ≤ s ∧ s < 4294967296) (hg : 0 ≤ g ∧ g < 4294967296) (hp : 0 ≤ p ∧ p < 4294967296) :
    rd (headLs a s g p) 13 = a ∧ rd (headLs a s g p) 17 = s ∧ rd (headLs a s g p) 21 = g ∧ rd (headLs a s g p) 25 = p := by
  refine ⟨?_, ?_, ?_, ?_⟩
  · refine Eq.trans (ldF_congr (f' := le a) fun j hj => ?_) (ldF_le4 ha.1 ha.2)
    rw [byt_head _ _ _ _ _ (by omega), headF, if_neg (by omega), if_neg (by omega), if_neg (by omega), if_pos (by omega), show 13 + j - 13 = j by omega]
  · refine Eq.trans (ldF_congr (f' := le s) fun j hj => ?_) (ldF_le4 hs.1 hs.2)
    rw [byt_head _ _ _ _ _ (by omega), headF, if_neg (by omega), if_neg (by omega), if_pos (by omega), show 17 + j - 17 = j by omega]
  · refine Eq.trans (ldF_congr (f' := le g) fun j hj => ?_) (ldF_le4 hg.1 hg.2)
    rw [byt_head _ _ _ _ _ (by omega), headF, if_neg (by omega), if_pos (by omega), show 21 + j - 21 = j by omega]
  · refine Eq.trans (ldF_congr (f' := le p) fun j hj => ?_) (ldF_le4 hp.1 hp.2)
    rw [byt_head _ _ _ _ _ (by omega), headF, if_pos (by omega), show 25 + j - 25 = j by omega]
theorem sec_zero : Z = sec (List.replicate 64 0) := by kernel_rfl
theorem head_ne_zero (a s g p : Int) : List.replicate 64 0 ≠ headLs a s g p := fun h => by
  have h1 : byt (List.replicate 64 0) 0 = byt (headLs a s g p) 0 := by rw [h]
  rw [byt_head _ _ _ _ _ (by omega)] at h1
  simp only [headF, if_neg (show ¬ (25 ≤ 0 ∧ 0 < 29) by omega), if_neg (show ¬ (21 ≤ 0 ∧ 0 < 25) by omega), if_neg (show ¬ (17 ≤ 0 ∧ 0 < 21) by omega), if_neg (show ¬ (13 ≤ 0 ∧ 0 < 17) by omega)] at h1
  revert h1
  decide

section
variable {o : Oper} {a : Act} {w : World}
theorem does_room {x : Operand} {n : Int} {t : TypeId} (hn : n ≤ 9223372036854775807) (ho : o.op = .call { callee := .value (.func 60), args := #[x], argTypes := #[t] }) (hx : a.eval x = .int .i64 n) : Does Try.prog o a w (.int .i64 (roomF n)) w :=
  .inr (.inr ⟨60, _, run_enter1 Try.call60 ho hx, (room_any n w hn).mono fun e w' h => ⟨h.1, h.2.symm⟩⟩)
theorem does_equal {x y : Operand} {g g' : Nat} {l l' : List Int} {t t' : TypeId} {ts : Array TypeId} {r : Bool} (hl : l.length = 64) (hl' : l'.length = 64) (h : ∀ x ∈ l, 0 ≤ x ∧ x < 256) (h' : ∀ x ∈ l', 0 ≤ x ∧ x < 256) (hr : decide (l = l') = r) (hb : w.heap[g]? = some (.cells (sec l) t (0, 0))) (hb' : w.heap[g']? = some (.cells (sec l') t' (0, 0)))
    (ho : o.op = .call { callee := .value (.func 58), args := #[x, y], argTypes := ts }) (hx : a.eval x = .slice (some ⟨g, 0, none⟩) 64 64) (hy : a.eval y = .slice (some ⟨g', 0, none⟩) 64 64) : Does Try.prog o a w (.bool r) w :=
  .inr (.inr ⟨58, _, run_enter2 Try.call58 ho hx hy, (equal_any hl hl' hb hb' h h').mono fun e w' h => ⟨by rw [h.1, hr], h.2.symm⟩⟩)
theorem run_not {x : Operand} {v : Bool} (ho : o.op = .unOp .not 4 x) (hx : a.eval x = .bool v) : ∀ w, (execOp a.eval o).run Try.prog w = .ok (.value (.bool (!v))) w := by
  intro w
  unfold execOp
  simp only [ho, hx]
  go_simp
end

/-- A log has been opened. -/
def OpenPost (b : Nat) (a s g : Int) (w : World) (e : Ending) (w' : World) : Prop := ∃ wb, e = .returned (.tuple #[.pointer (some ⟨wb, 0, none⟩), .int .i64 0]) ∧ w.heap.size ≤ wb ∧ WalAt w' wb b a s g ∧ Only [] w w'
theorem OpenPost.mk {b : Nat} {a s g : Int} {w w' : World} {wb : Nat} (h1 : w.heap.size ≤ wb) (h2 : WalAt w' wb b a s g) (ho : Only [] w w') : OpenPost b a s g w (.returned (.tuple #[.pointer (some ⟨wb, 0, none⟩), .int .i64 0])) w' := Exists.intro wb ⟨rfl, h1, h2, ho⟩

set_option maxHeartbeats 2000000 in
theorem open_other {w : World} {b : Nat} {F : List Nat} {S : St} {a s : Int} {l : List Int} (h : DAt w b F S) (hon : S.on = true) (ha1 : a ≤ 9223372036854775807) (hs1 : s ≤ 9223372036854775807) (hyes : 3 ≤ s ∧ 0 ≤ a ∧ a ≤ S.n - s) (hl : l.length = 64) (hlb : ∀ x ∈ l, 0 ≤ x ∧ x < 256) (hv : (S.now a).getD Z = sec l)
    (heq : decide (l = headLs (rd l 13) (rd l 17) (rd l 21) (rd l 25)) = false) :
    Calls Try.prog 29 #[.pointer (some ⟨b, 0, none⟩), .int .i64 a, .int .i64 s] w fun e w' => e = .returned (.tuple #[.pointer none, .int .i64 4]) ∧ Only [] w w' := by
  have n1 : S.n ≤ 8192 := by obtain ⟨_, _, _, h, _⟩ := h; exact h.ok.n1
  have hr : S.reach a = 0 := by rw [St.reach, if_neg (by simp [hon]), if_neg (by omega)]
  have P := possible_any h a s (by omega) ha1 (by omega) hs1
  rw [decide_eq_true hyes] at P
  have P2 := Lib.hid P
  have RD := Lib.hid (read_ok h a hr)
  rw [hv] at RD
  have H := Lib.hid h
  have hblk := heap_alloc_last w (.cells (sec l) 93)
  have PA := Lib.hid (parse_any (w.alloc (.cells (sec l) 93)) w.heap.size 64 (byt l) (fun j hj => by
    rw [cell_of_row _ _ _ _ _ _ hblk]
    exact sec_at _ _ _ (by rw [byt, List.getD_eq_getElem?_getD, List.getElem?_eq_getElem (by omega)]; rfl)) (by simp) (byt_bd hlb))
  rw [parsed_rd] at PA
  have b13 := rd_bd hlb 13
  have b17 := rd_bd hlb 17
  have b21 := rd_bd hlb 21
  have b25 := rd_bd hlb 25
  clear P h hv hblk
  have HEQ := Lib.hid heq
  clear heq
  go_enter Try.func29, Try.ntmps29
  go_wp2_with (first | (go_at_call 56; refine P2.out.mono ?_; rintro e w' ⟨rfl, rfl⟩) | (go_at_call 33; refine RD.out.mono ?_; rintro e w' ⟨rfl, rfl⟩) | (go_at_call 57; refine PA.out.mono ?_; rintro e w1 ⟨rfl, o1⟩))
  have o2 : Only [] w (w1.alloc (.cells #[.int .i64 (rd l 13), .int .i64 (rd l 17), .int .i64 (rd l 21), .int .i64 (rd l 25)] 99)) := (((Only.refl [] w).alloc _).trans o1 (by simp)).alloc _
  have hb2 : (w1.alloc (.cells #[.int .i64 (rd l 13), .int .i64 (rd l 17), .int .i64 (rd l 21), .int .i64 (rd l 25)] 99)).heap[w.heap.size]? = some (.cells (sec l) 93 (0, 0)) := by
    have h1 := heap_alloc_last w (.cells (sec l) 93)
    have h2 := (o1.block w.heap.size (by simp) (by simp)).trans h1
    rw [Below.heap_alloc _ _ _ (Array.getElem?_eq_some_iff.1 h2).1]
    exact h2
  have hh2 : (w1.alloc (.cells #[.int .i64 (rd l 13), .int .i64 (rd l 17), .int .i64 (rd l 21), .int .i64 (rd l 25)] 99)).heap[w1.heap.size]? = some (.cells #[.int .i64 (rd l 13), .int .i64 (rd l 17), .int .i64 (rd l 21), .int .i64 (rd l 25)] 99 (0, 0)) := heap_alloc_last w1 _
  generalize w1.alloc (.cells #[.int .i64 (rd l 13), .int .i64 (rd l 17), .int .i64 (rd l 21), .int .i64 (rd l 25)] 99) = w2 at *
  have x0 : w2.drew.cell? ⟨w1.heap.size, 0, none⟩ = some (.int .i64 (rd l 13)) := (cell_of_row w2 _ _ _ _ _ hh2).trans rfl
  have x1 : w2.drew.cell? ⟨w1.heap.size, 1, none⟩ = some (.int .i64 (rd l 17)) := (cell_of_row w2 _ _ _ _ _ hh2).trans rfl
  have x3 : w2.drew.cell? ⟨w1.heap.size, 3, none⟩ = some (.int .i64 (rd l 25)) := (cell_of_row w2 _ _ _ _ _ hh2).trans rfl
  have hh2' : w2.drew.heap[w1.heap.size]? = some (.cells #[.int .i64 (rd l 13), .int .i64 (rd l 17), .int .i64 (rd l 21), .int .i64 (rd l 25)] 99 (0, 0)) := hh2
  have hb2' : w2.drew.heap[w.heap.size]? = some (.cells (sec l) 93 (0, 0)) := hb2
  clear o1
  refine wp_region_flowR Lat [0, 1, 2, 1, 0, 0, 0, 1, 0, 0, 0, 0, 0, 1, 0, 0, 0, 0, 0, 1, 0, 1, 0, 0] (by kernel_rfl) (by kernel_rfl) Lat.refl Lat.trans ?_
  refine fr0 rfl (fun _ => rfl) ?_
  simp only [Act.put, List.setIfInBounds_toArray, List.set_cons_succ, List.set_cons_zero]
  refine fr1 (u := .agg #[.int .i64 (rd l 13), .int .i64 (rd l 17), .int .i64 (rd l 21), .int .i64 (rd l 25)]) rfl (fun x hx => run_load78 rfl rfl (hx.at hh2') rfl) ?_
  simp only [Act.put, List.setIfInBounds_toArray, List.set_cons_succ, List.set_cons_zero]
  refine fr2c rfl (run_enter1 Try.call59 rfl rfl) (bytes_any w2.drew (rd l 13) (rd l 17) (rd l 21) (rd l 25) ⟨b13.1, by omega⟩ ⟨b17.1, by omega⟩ ⟨b21.1, by omega⟩ ⟨b25.1, by omega⟩) ?_
  rintro e w3 ⟨q, rfl, hq, hqb, o3⟩
  rw [headA_sec] at hqb
  refine ⟨_, rfl, o3.lat, ?_⟩
  simp only [Act.put, List.setIfInBounds_toArray, List.set_cons_succ, List.set_cons_zero]
  refine fr1c (u := .bool false) rfl (fun x hx => does_equal hl (headLs_len _ _ _ _) hlb (headLs_bd _ _ _ _) HEQ.out (hx.at (o3.lat.at hb2')) (hx.at hqb) rfl rfl rfl) ?_
  simp only [Act.put, List.setIfInBounds_toArray, List.set_cons_succ, List.set_cons_zero]
  refine fr0 (u := .bool true) rfl (fun w => (run_not (v := false) rfl rfl w).trans rfl) ?_
  simp only [Act.put, List.setIfInBounds_toArray, List.set_cons_succ, List.set_cons_zero]
  refine fr0 (u := .bool true) rfl (fun _ => rfl) ?_
  simp only [Act.put, List.setIfInBounds_toArray, List.set_cons_succ, List.set_cons_zero]
  refine frx (by kernel_rfl) ?_
  simp only [Act.put, List.setIfInBounds_toArray, List.set_cons_succ, List.set_cons_zero]
  refine frx (by kernel_rfl) ?_
  simp only [Act.put, List.setIfInBounds_toArray, List.set_cons_succ, List.set_cons_zero]
  refine frx (by kernel_rfl) ?_
  simp only [Act.put, List.setIfInBounds_toArray, List.set_cons_succ, List.set_cons_zero]
  refine frx (by kernel_rfl) ?_
  simp only [Act.put, List.setIfInBounds_toArray, List.set_cons_succ, List.set_cons_zero]
  refine fr0 (u := .bool true) rfl (fun _ => rfl) ?_
  simp only [Act.put, List.setIfInBounds_toArray, List.set_cons_succ, List.set_cons_zero]
  refine fr0 (u := .bool true) rfl (fun _ => rfl) ?_
  simp only [Act.put, List.setIfInBounds_toArray, List.set_cons_succ, List.set_cons_zero]
  refine frx (by kernel_rfl) ?_
  simp only [Act.put, List.setIfInBounds_toArray, List.set_cons_succ, List.set_cons_zero]
  refine frx (by kernel_rfl) ?_
  simp only [Act.put, List.setIfInBounds_toArray, List.set_cons_succ, List.set_cons_zero]
  refine frx (by kernel_rfl) ?_
  simp only [Act.put, List.setIfInBounds_toArray, List.set_cons_succ, List.set_cons_zero]
  refine frx (by kernel_rfl) ?_
  simp only [Act.put, List.setIfInBounds_toArray, List.set_cons_succ, List.set_cons_zero]
  refine fr0 (u := .bool true) rfl (fun _ => rfl) ?_
  simp only [Act.put, List.setIfInBounds_toArray, List.set_cons_succ, List.set_cons_zero]
  refine fr0 (u := .bool true) rfl (fun _ => rfl) ?_
  simp only [Act.put, List.setIfInBounds_toArray, List.set_cons_succ, List.set_cons_zero]
  refine frx (by kernel_rfl) ?_
  simp only [Act.put, List.setIfInBounds_toArray, List.set_cons_succ, List.set_cons_zero]
  refine frx (by kernel_rfl) ?_
  simp only [Act.put, List.setIfInBounds_toArray, List.set_cons_succ, List.set_cons_zero]
  refine frx (by kernel_rfl) ?_
  simp only [Act.put, List.setIfInBounds_toArray, List.set_cons_succ, List.set_cons_zero]
  refine frx (by kernel_rfl) ?_
  simp only [Act.put, List.setIfInBounds_toArray, List.set_cons_succ, List.set_cons_zero]
  refine frx (by kernel_rfl) ?_
  simp only [Act.put, List.setIfInBounds_toArray, List.set_cons_succ, List.set_cons_zero]
  refine fr0 (u := .bool true) rfl (fun _ => rfl) ?_
  simp only [Act.put, List.setIfInBounds_toArray, List.set_cons_succ, List.set_cons_zero]
  refine frnil ?_
  show Exit.then _ _ _ _ _
  have O := Lib.hid ((o2.drew).trans o3 (by simp))
  clear o2 o3 hb2 hb2' hh2 hh2' x0 x1 x3 hqb
  go_wp2
  go_ret2
  exact ⟨rfl, O.out⟩

set_option maxHeartbeats 2000000 in
theorem open_size {w : World} {b : Nat} {F : List Nat} {S : St} {a s : Int} {l : List Int} (h : DAt w b F S) (hon : S.on = true) (ha1 : a ≤ 9223372036854775807) (hs1 : s ≤ 9223372036854775807) (hyes : 3 ≤ s ∧ 0 ≤ a ∧ a ≤ S.n - s) (hl : l.length = 64) (hlb : ∀ x ∈ l, 0 ≤ x ∧ x < 256) (hv : (S.now a).getD Z = sec l)
    (heq : decide (l = headLs (rd l 13) (rd l 17) (rd l 21) (rd l 25)) = true) (hat : (rd l 13 != a) = false) (hsz : (rd l 17 != s) = true) :
    Calls Try.prog 29 #[.pointer (some ⟨b, 0, none⟩), .int .i64 a, .int .i64 s] w fun e w' => e = .returned (.tuple #[.pointer none, .int .i64 4]) ∧ Only [] w w' := by
  have n1 : S.n ≤ 8192 := by obtain ⟨_, _, _, h, _⟩ := h; exact h.ok.n1
  have hr : S.reach a = 0 := by rw [St.reach, if_neg (by simp [hon]), if_neg (by omega)]
  have P := possible_any h a s (by omega) ha1 (by omega) hs1
  rw [decide_eq_true hyes] at P
  have P2 := Lib.hid P
  have RD := Lib.hid (read_ok h a hr)
  rw [hv] at RD
  have H := Lib.hid h
  have hblk := heap_alloc_last w (.cells (sec l) 93)
  have PA := Lib.hid (parse_any (w.alloc (.cells (sec l) 93)) w.heap.size 64 (byt l) (fun j hj => by
    rw [cell_of_row _ _ _ _ _ _ hblk]
    exact sec_at _ _ _ (by rw [byt, List.getD_eq_getElem?_getD, List.getElem?_eq_getElem (by omega)]; rfl)) (by simp) (byt_bd hlb))
  rw [parsed_rd] at PA
  have b13 := rd_bd hlb 13
  have b17 := rd_bd hlb 17
  have b21 := rd_bd hlb 21
  have b25 := rd_bd hlb 25
  clear P h hv hblk
  have HEQ := Lib.hid heq
  have HAT := Lib.hid hat
  have HSZ := Lib.hid hsz
  clear heq hat hsz
  go_enter Try.func29, Try.ntmps29
  go_wp2_with (first | (go_at_call 56; refine P2.out.mono ?_; rintro e w' ⟨rfl, rfl⟩) | (go_at_call 33; refine RD.out.mono ?_; rintro e w' ⟨rfl, rfl⟩) | (go_at_call 57; refine PA.out.mono ?_; rintro e w1 ⟨rfl, o1⟩))
  have o2 : Only [] w (w1.alloc (.cells #[.int .i64 (rd l 13), .int .i64 (rd l 17), .int .i64 (rd l 21), .int .i64 (rd l 25)] 99)) := (((Only.refl [] w).alloc _).trans o1 (by simp)).alloc _
  have hb2 : (w1.alloc (.cells #[.int .i64 (rd l 13), .int .i64 (rd l 17), .int .i64 (rd l 21), .int .i64 (rd l 25)] 99)).heap[w.heap.size]? = some (.cells (sec l) 93 (0, 0)) := by
    have h1 := heap_alloc_last w (.cells (sec l) 93)
    have h2 := (o1.block w.heap.size (by simp) (by simp)).trans h1
    rw [Below.heap_alloc _ _ _ (Array.getElem?_eq_some_iff.1 h2).1]
    exact h2
  have hh2 : (w1.alloc (.cells #[.int .i64 (rd l 13), .int .i64 (rd l 17), .int .i64 (rd l 21), .int .i64 (rd l 25)] 99)).heap[w1.heap.size]? = some (.cells #[.int .i64 (rd l 13), .int .i64 (rd l 17), .int .i64 (rd l 21), .int .i64 (rd l 25)] 99 (0, 0)) := heap_alloc_last w1 _
  generalize w1.alloc (.cells #[.int .i64 (rd l 13), .int .i64 (rd l 17), .int .i64 (rd l 21), .int .i64 (rd l 25)] 99) = w2 at *
  have x0 : w2.drew.cell? ⟨w1.heap.size, 0, none⟩ = some (.int .i64 (rd l 13)) := (cell_of_row w2 _ _ _ _ _ hh2).trans rfl
  have x1 : w2.drew.cell? ⟨w1.heap.size, 1, none⟩ = some (.int .i64 (rd l 17)) := (cell_of_row w2 _ _ _ _ _ hh2).trans rfl
  have x3 : w2.drew.cell? ⟨w1.heap.size, 3, none⟩ = some (.int .i64 (rd l 25)) := (cell_of_row w2 _ _ _ _ _ hh2).trans rfl
  have hh2' : w2.drew.heap[w1.heap.size]? = some (.cells #[.int .i64 (rd l 13), .int .i64 (rd l 17), .int .i64 (rd l 21), .int .i64 (rd l 25)] 99 (0, 0)) := hh2
  have hb2' : w2.drew.heap[w.heap.size]? = some (.cells (sec l) 93 (0, 0)) := hb2
  clear o1
  refine wp_region_flowR Lat [0, 1, 2, 1, 0, 0, 0, 1, 0, 0, 0, 0, 0, 1, 0, 0, 0, 0, 0, 1, 0, 1, 0, 0] (by kernel_rfl) (by kernel_rfl) Lat.refl Lat.trans ?_
  refine fr0 rfl (fun _ => rfl) ?_
  simp only [Act.put, List.setIfInBounds_toArray, List.set_cons_succ, List.set_cons_zero]
  refine fr1 (u := .agg #[.int .i64 (rd l 13), .int .i64 (rd l 17), .int .i64 (rd l 21), .int .i64 (rd l 25)]) rfl (fun x hx => run_load78 rfl rfl (hx.at hh2') rfl) ?_
  simp only [Act.put, List.setIfInBounds_toArray, List.set_cons_succ, List.set_cons_zero]
  refine fr2c rfl (run_enter1 Try.call59 rfl rfl) (bytes_any w2.drew (rd l 13) (rd l 17) (rd l 21) (rd l 25) ⟨b13.1, by omega⟩ ⟨b17.1, by omega⟩ ⟨b21.1, by omega⟩ ⟨b25.1, by omega⟩) ?_
  rintro e w3 ⟨q, rfl, hq, hqb, o3⟩
  rw [headA_sec] at hqb
  refine ⟨_, rfl, o3.lat, ?_⟩
  simp only [Act.put, List.setIfInBounds_toArray, List.set_cons_succ, List.set_cons_zero]
  refine fr1c (u := .bool true) rfl (fun x hx => does_equal hl (headLs_len _ _ _ _) hlb (headLs_bd _ _ _ _) HEQ.out (hx.at (o3.lat.at hb2')) (hx.at hqb) rfl rfl rfl) ?_
  simp only [Act.put, List.setIfInBounds_toArray, List.set_cons_succ, List.set_cons_zero]
  refine fr0 (u := .bool false) rfl (fun w => (run_not (v := true) rfl rfl w).trans rfl) ?_
  simp only [Act.put, List.setIfInBounds_toArray, List.set_cons_succ, List.set_cons_zero]
  refine fr0 (u := .bool false) rfl (fun _ => rfl) ?_
  simp only [Act.put, List.setIfInBounds_toArray, List.set_cons_succ, List.set_cons_zero]
  refine fr0 (by kernel_rfl) (run_field78 (by omega) rfl rfl) ?_
  simp only [Act.put, List.setIfInBounds_toArray, List.set_cons_succ, List.set_cons_zero]
  refine fr1 (u := .int .i64 (rd l 13)) (by kernel_rfl) (fun x hx => run_load1 rfl rfl (hx.cell (o3.lat.cell x0)) isAgg3) ?_
  simp only [Act.put, List.setIfInBounds_toArray, List.set_cons_succ, List.set_cons_zero]
  refine fr0 (by kernel_rfl) (fun _ => rfl) ?_
  simp only [Act.put, List.setIfInBounds_toArray, List.set_cons_succ, List.set_cons_zero]
  refine fr0 (u := .bool false) (by kernel_rfl) (fun w => (run_neq rfl rfl rfl w).trans (by rw [HAT.out])) ?_
  simp only [Act.put, List.setIfInBounds_toArray, List.set_cons_succ, List.set_cons_zero]
  refine fr0 (u := .bool false) rfl (fun _ => rfl) ?_
  simp only [Act.put, List.setIfInBounds_toArray, List.set_cons_succ, List.set_cons_zero]
  refine fr0 (u := .bool false) rfl (fun _ => rfl) ?_
  simp only [Act.put, List.setIfInBounds_toArray, List.set_cons_succ, List.set_cons_zero]
  refine fr0 (by kernel_rfl) (run_field78 (by omega) rfl rfl) ?_
  simp only [Act.put, List.setIfInBounds_toArray, List.set_cons_succ, List.set_cons_zero]
  refine fr1 (u := .int .i64 (rd l 17)) (by kernel_rfl) (fun x hx => run_load1 rfl rfl (hx.cell (o3.lat.cell x1)) isAgg3) ?_
  simp only [Act.put, List.setIfInBounds_toArray, List.set_cons_succ, List.set_cons_zero]
  refine fr0 (by kernel_rfl) (fun _ => rfl) ?_
  simp only [Act.put, List.setIfInBounds_toArray, List.set_cons_succ, List.set_cons_zero]
  refine fr0 (u := .bool true) (by kernel_rfl) (fun w => (run_neq rfl rfl rfl w).trans (by rw [HSZ.out])) ?_
  simp only [Act.put, List.setIfInBounds_toArray, List.set_cons_succ, List.set_cons_zero]
  refine fr0 (u := .bool true) rfl (fun _ => rfl) ?_
  simp only [Act.put, List.setIfInBounds_toArray, List.set_cons_succ, List.set_cons_zero]
  refine fr0 (u := .bool true) rfl (fun _ => rfl) ?_
  simp only [Act.put, List.setIfInBounds_toArray, List.set_cons_succ, List.set_cons_zero]
  refine frx (by kernel_rfl) ?_
  simp only [Act.put, List.setIfInBounds_toArray, List.set_cons_succ, List.set_cons_zero]
  refine frx (by kernel_rfl) ?_
  simp only [Act.put, List.setIfInBounds_toArray, List.set_cons_succ, List.set_cons_zero]
  refine frx (by kernel_rfl) ?_
  simp only [Act.put, List.setIfInBounds_toArray, List.set_cons_succ, List.set_cons_zero]
  refine frx (by kernel_rfl) ?_
  simp only [Act.put, List.setIfInBounds_toArray, List.set_cons_succ, List.set_cons_zero]
  refine frx (by kernel_rfl) ?_
  simp only [Act.put, List.setIfInBounds_toArray, List.set_cons_succ, List.set_cons_zero]
  refine fr0 (u := .bool true) rfl (fun _ => rfl) ?_
  simp only [Act.put, List.setIfInBounds_toArray, List.set_cons_succ, List.set_cons_zero]
  refine frnil ?_
  show Exit.then _ _ _ _ _
  have O := Lib.hid ((o2.drew).trans o3 (by simp))
  clear o2 o3 hb2 hb2' hh2 hh2' x0 x1 x3 hqb
  go_wp2
  go_ret2
  exact ⟨rfl, O.out⟩

set_option maxHeartbeats 2000000 in
theorem open_quiet {w : World} {b : Nat} {F : List Nat} {S : St} {a s : Int} {l : List Int} (h : DAt w b F S) (hon : S.on = true) (ha1 : a ≤ 9223372036854775807) (hs1 : s ≤ 9223372036854775807) (hyes : 3 ≤ s ∧ 0 ≤ a ∧ a ≤ S.n - s) (hl : l.length = 64) (hlb : ∀ x ∈ l, 0 ≤ x ∧ x < 256) (hv : (S.now a).getD Z = sec l)
    (heq : decide (l = headLs (rd l 13) (rd l 17) (rd l 21) (rd l 25)) = true) (hat : (rd l 13 != a) = false) (hsz : (rd l 17 != s) = false) (hpz : rd l 25 = 0) (hrm : rd l 25 ≤ roomF s) :
    Calls Try.prog 29 #[.pointer (some ⟨b, 0, none⟩), .int .i64 a, .int .i64 s] w fun e w' => OpenPost b a s (rd l 21) w e w' := by
  have n1 : S.n ≤ 8192 := by obtain ⟨_, _, _, h, _⟩ := h; exact h.ok.n1
  have hr : S.reach a = 0 := by rw [St.reach, if_neg (by simp [hon]), if_neg (by omega)]
  have P := possible_any h a s (by omega) ha1 (by omega) hs1
  rw [decide_eq_true hyes] at P
  have P2 := Lib.hid P
  have RD := Lib.hid (read_ok h a hr)
  rw [hv] at RD
  have H := Lib.hid h
  have hblk := heap_alloc_last w (.cells (sec l) 93)
  have PA := Lib.hid (parse_any (w.alloc (.cells (sec l) 93)) w.heap.size 64 (byt l) (fun j hj => by
    rw [cell_of_row _ _ _ _ _ _ hblk]
    exact sec_at _ _ _ (by rw [byt, List.getD_eq_getElem?_getD, List.getElem?_eq_getElem (by omega)]; rfl)) (by simp) (byt_bd hlb))
  rw [parsed_rd] at PA
  have b13 := rd_bd hlb 13
  have b17 := rd_bd hlb 17
  have b21 := rd_bd hlb 21
  have b25 := rd_bd hlb 25
  clear P h hv hblk
  have HEQ := Lib.hid heq
  have HAT := Lib.hid hat
  have HSZ := Lib.hid hsz
  have HPZ := Lib.hid hpz
  have HRM := Lib.hid hrm
  clear heq hat hsz hpz hrm
  go_enter Try.func29, Try.ntmps29
  go_wp2_with (first | (go_at_call 56; refine P2.out.mono ?_; rintro e w' ⟨rfl, rfl⟩) | (go_at_call 33; refine RD.out.mono ?_; rintro e w' ⟨rfl, rfl⟩) | (go_at_call 57; refine PA.out.mono ?_; rintro e w1 ⟨rfl, o1⟩))
  have o2 : Only [] w (w1.alloc (.cells #[.int .i64 (rd l 13), .int .i64 (rd l 17), .int .i64 (rd l 21), .int .i64 (rd l 25)] 99)) := (((Only.refl [] w).alloc _).trans o1 (by simp)).alloc _
  have hb2 : (w1.alloc (.cells #[.int .i64 (rd l 13), .int .i64 (rd l 17), .int .i64 (rd l 21), .int .i64 (rd l 25)] 99)).heap[w.heap.size]? = some (.cells (sec l) 93 (0, 0)) := by
    have h1 := heap_alloc_last w (.cells (sec l) 93)
    have h2 := (o1.block w.heap.size (by simp) (by simp)).trans h1
    rw [Below.heap_alloc _ _ _ (Array.getElem?_eq_some_iff.1 h2).1]
    exact h2
  have hh2 : (w1.alloc (.cells #[.int .i64 (rd l 13), .int .i64 (rd l 17), .int .i64 (rd l 21), .int .i64 (rd l 25)] 99)).heap[w1.heap.size]? = some (.cells #[.int .i64 (rd l 13), .int .i64 (rd l 17), .int .i64 (rd l 21), .int .i64 (rd l 25)] 99 (0, 0)) := heap_alloc_last w1 _
  generalize w1.alloc (.cells #[.int .i64 (rd l 13), .int .i64 (rd l 17), .int .i64 (rd l 21), .int .i64 (rd l 25)] 99) = w2 at *
  have x0 : w2.drew.cell? ⟨w1.heap.size, 0, none⟩ = some (.int .i64 (rd l 13)) := (cell_of_row w2 _ _ _ _ _ hh2).trans rfl
  have x1 : w2.drew.cell? ⟨w1.heap.size, 1, none⟩ = some (.int .i64 (rd l 17)) := (cell_of_row w2 _ _ _ _ _ hh2).trans rfl
  have x3 : w2.drew.cell? ⟨w1.heap.size, 3, none⟩ = some (.int .i64 (rd l 25)) := (cell_of_row w2 _ _ _ _ _ hh2).trans rfl
  have hh2' : w2.drew.heap[w1.heap.size]? = some (.cells #[.int .i64 (rd l 13), .int .i64 (rd l 17), .int .i64 (rd l 21), .int .i64 (rd l 25)] 99 (0, 0)) := hh2
  have hb2' : w2.drew.heap[w.heap.size]? = some (.cells (sec l) 93 (0, 0)) := hb2
  clear o1
  refine wp_region_flowR Lat [0, 1, 2, 1, 0, 0, 0, 1, 0, 0, 0, 0, 0, 1, 0, 0, 0, 0, 0, 1, 0, 1, 0, 0] (by kernel_rfl) (by kernel_rfl) Lat.refl Lat.trans ?_
  refine fr0 rfl (fun _ => rfl) ?_
  simp only [Act.put, List.setIfInBounds_toArray, List.set_cons_succ, List.set_cons_zero]
  refine fr1 (u := .agg #[.int .i64 (rd l 13), .int .i64 (rd l 17), .int .i64 (rd l 21), .int .i64 (rd l 25)]) rfl (fun x hx => run_load78 rfl rfl (hx.at hh2') rfl) ?_
  simp only [Act.put, List.setIfInBounds_toArray, List.set_cons_succ, List.set_cons_zero]
  refine fr2c rfl (run_enter1 Try.call59 rfl rfl) (bytes_any w2.drew (rd l 13) (rd l 17) (rd l 21) (rd l 25) ⟨b13.1, by omega⟩ ⟨b17.1, by omega⟩ ⟨b21.1, by omega⟩ ⟨b25.1, by omega⟩) ?_
  rintro e w3 ⟨q, rfl, hq, hqb, o3⟩
  rw [headA_sec] at hqb
  refine ⟨_, rfl, o3.lat, ?_⟩
  simp only [Act.put, List.setIfInBounds_toArray, List.set_cons_succ, List.set_cons_zero]
  refine fr1c (u := .bool true) rfl (fun x hx => does_equal hl (headLs_len _ _ _ _) hlb (headLs_bd _ _ _ _) HEQ.out (hx.at (o3.lat.at hb2')) (hx.at hqb) rfl rfl rfl) ?_
  simp only [Act.put, List.setIfInBounds_toArray, List.set_cons_succ, List.set_cons_zero]
  refine fr0 (u := .bool false) rfl (fun w => (run_not (v := true) rfl rfl w).trans rfl) ?_
  simp only [Act.put, List.setIfInBounds_toArray, List.set_cons_succ, List.set_cons_zero]
  refine fr0 (u := .bool false) rfl (fun _ => rfl) ?_
  simp only [Act.put, List.setIfInBounds_toArray, List.set_cons_succ, List.set_cons_zero]
  refine fr0 (by kernel_rfl) (run_field78 (by omega) rfl rfl) ?_
  simp only [Act.put, List.setIfInBounds_toArray, List.set_cons_succ, List.set_cons_zero]
  refine fr1 (u := .int .i64 (rd l 13)) (by kernel_rfl) (fun x hx => run_load1 rfl rfl (hx.cell (o3.lat.cell x0)) isAgg3) ?_
  simp only [Act.put, List.setIfInBounds_toArray, List.set_cons_succ, List.set_cons_zero]
  refine fr0 (by kernel_rfl) (fun _ => rfl) ?_
  simp only [Act.put, List.setIfInBounds_toArray, List.set_cons_succ, List.set_cons_zero]
  refine fr0 (u := .bool false) (by kernel_rfl) (fun w => (run_neq rfl rfl rfl w).trans (by rw [HAT.out])) ?_
  simp only [Act.put, List.setIfInBounds_toArray, List.set_cons_succ, List.set_cons_zero]
  refine fr0 (u := .bool false) rfl (fun _ => rfl) ?_
  simp only [Act.put, List.setIfInBounds_toArray, List.set_cons_succ, List.set_cons_zero]
  refine fr0 (u := .bool false) rfl (fun _ => rfl) ?_
  simp only [Act.put, List.setIfInBounds_toArray, List.set_cons_succ, List.set_cons_zero]
  refine fr0 (by kernel_rfl) (run_field78 (by omega) rfl rfl) ?_
  simp only [Act.put, List.setIfInBounds_toArray, List.set_cons_succ, List.set_cons_zero]
  refine fr1 (u := .int .i64 (rd l 17)) (by kernel_rfl) (fun x hx => run_load1 rfl rfl (hx.cell (o3.lat.cell x1)) isAgg3) ?_
  simp only [Act.put, List.setIfInBounds_toArray, List.set_cons_succ, List.set_cons_zero]
  refine fr0 (by kernel_rfl) (fun _ => rfl) ?_
  simp only [Act.put, List.setIfInBounds_toArray, List.set_cons_succ, List.set_cons_zero]
  refine fr0 (u := .bool false) (by kernel_rfl) (fun w => (run_neq rfl rfl rfl w).trans (by rw [HSZ.out])) ?_
  simp only [Act.put, List.setIfInBounds_toArray, List.set_cons_succ, List.set_cons_zero]
  refine fr0 (u := .bool false) rfl (fun _ => rfl) ?_
  simp only [Act.put, List.setIfInBounds_toArray, List.set_cons_succ, List.set_cons_zero]
  refine fr0 (u := .bool false) rfl (fun _ => rfl) ?_
  simp only [Act.put, List.setIfInBounds_toArray, List.set_cons_succ, List.set_cons_zero]
  refine fr0 (by kernel_rfl) (run_field78 (by omega) rfl rfl) ?_
  simp only [Act.put, List.setIfInBounds_toArray, List.set_cons_succ, List.set_cons_zero]
  refine fr1 (u := .int .i64 (rd l 25)) (by kernel_rfl) (fun x hx => run_load1 rfl rfl (hx.cell (o3.lat.cell x3)) isAgg3) ?_
  simp only [Act.put, List.setIfInBounds_toArray, List.set_cons_succ, List.set_cons_zero]
  refine fr0 (by kernel_rfl) (fun _ => rfl) ?_
  simp only [Act.put, List.setIfInBounds_toArray, List.set_cons_succ, List.set_cons_zero]
  refine fr1c (u := .int .i64 (roomF s)) (by kernel_rfl) (fun x hx => does_room hs1 rfl rfl) ?_
  simp only [Act.put, List.setIfInBounds_toArray, List.set_cons_succ, List.set_cons_zero]
  refine fr0 (u := .bool false) (by kernel_rfl) (fun w => (run_gtr rfl rfl rfl w).trans (by rw [decide_eq_false (Int.not_lt.2 HRM.out)])) ?_
  simp only [Act.put, List.setIfInBounds_toArray, List.set_cons_succ, List.set_cons_zero]
  refine fr0 (u := .bool false) rfl (fun _ => rfl) ?_
  simp only [Act.put, List.setIfInBounds_toArray, List.set_cons_succ, List.set_cons_zero]
  refine frnil ?_
  show Exit.then _ _ _ _ _
  have O := Lib.hid ((o2.drew).trans o3 (by simp))
  have y2 : w3.cell? ⟨w1.heap.size, 2, none⟩ = some (.int .i64 (rd l 21)) := o3.lat.cell ((cell_of_row w2 _ _ _ _ _ hh2).trans rfl)
  have y3 : w3.cell? ⟨w1.heap.size, 3, none⟩ = some (.int .i64 0) := by rw [← HPZ.out]; exact o3.lat.cell x3
  have hsz3 : w1.heap.size < w3.heap.size := Nat.lt_of_lt_of_le (Array.getElem?_eq_some_iff.1 hh2').1 o3.size
  clear o2 o3 hb2 hb2' hh2 hh2' x0 x1 x3 hqb
  go_wp2
  go_ret2
  exact OpenPost.mk (Nat.le_trans O.out.size (Nat.le_refl _)) (heap_alloc_last w3 _) (O.out.alloc _)


end Go.Proofs.Ytoccnaebckcfmaa
end

section
set_option linter.unusedSimpArgs false
set_option linter.unusedVariables false
set_option maxRecDepth 8000
namespace Go.Proofs.Ytoccnaebckcfmaa
open Go.RowKit

structure Res where
  G : List Nat
  P : World → Prop
  stable : ∀ w w', (∀ x ∈ G, w'.heap[x]? = w.heap[x]?) → P w → P w'

def DRes (b : Nat) (F : List Nat) (S : St) : Res := ⟨F, fun w => DAt w b F S, fun _ _ he h => dAt_congr h he⟩
def BRes (g : Nat) (o : Obj) : Res := ⟨[g], fun w => w.heap[g]? = some o, fun _ _ he h => (he g (by simp)).trans h⟩

structure Has (w0 w : World) (Rs : List Res) : Prop where
  only : Only [] w0 w
  each : ∀ r ∈ Rs, r.P w ∧ ∀ x ∈ r.G, w0.heap.size ≤ x ∧ x < w.heap.size
  apart : Rs.Pairwise (fun r s => ∀ x ∈ r.G, x ∉ s.G)

theorem Has.start (w : World) : Has w w [] := ⟨Only.refl _ _, by simp, List.Pairwise.nil⟩

theorem Has.turn {w0 w w' : World} {r r' : Res} {Rs : List Res} (h : Has w0 w (r :: Rs)) (ho : Only r.G w w') (hP : r'.P w') (hG : ∀ x ∈ r'.G, (x ∈ r.G ∨ w.heap.size ≤ x) ∧ x < w'.heap.size) : Has w0 w' (r' :: Rs) := by
  obtain ⟨h1, h2⟩ := List.pairwise_cons.1 h.apart
  have hr := h.each r (by simp)
  have osz := ho.size
  have wsz := h.only.size
  refine ⟨h.only.trans ho (fun x hx => .inr (hr.2 x hx).1), fun s hs => ?_, List.pairwise_cons.2 ⟨fun s hs x hx hxs => ?_, h2⟩⟩
  · rcases List.mem_cons.1 hs with rfl | hs
    · refine ⟨hP, fun x hx => ⟨?_, (hG x hx).2⟩⟩
      rcases (hG x hx).1 with h3 | h3
      · exact (hr.2 x h3).1
      · omega
    · have hs' := h.each s (by simp [hs])
      refine ⟨s.stable w w' (fun x hx => ho.block x (hs'.2 x hx).2 (fun hxr => h1 s hs x hxr hx)) hs'.1, fun x hx => ⟨(hs'.2 x hx).1, Nat.lt_of_lt_of_le (hs'.2 x hx).2 osz⟩⟩
  · rcases (hG x hx).1 with h3 | h3
    · exact h1 s hs x h3 hxs
    · have := ((h.each s (by simp [hs])).2 x hxs).2
      omega

theorem Has.disk {w0 w w' : World} {b : Nat} {F : List Nat} {S S' : St} {Rs : List Res} (h : Has w0 w (DRes b F S :: Rs)) (hp : DPost w w' b F S') : ∃ F', Has w0 w' (DRes b F' S' :: Rs) := by
  obtain ⟨F', d, f, o⟩ := hp
  exact ⟨F', h.turn (r' := DRes b F' S') o d (fun x hx => ⟨f x hx, dAt_lt d x hx⟩)⟩

theorem Has.dat {w0 w : World} {b : Nat} {F : List Nat} {S : St} {Rs : List Res} (h : Has w0 w (DRes b F S :: Rs)) : DAt w b F S := (h.each (DRes b F S) (by simp)).1
theorem Has.blk {w0 w : World} {g : Nat} {o : Obj} {Rs : List Res} (h : Has w0 w Rs) (hm : BRes g o ∈ Rs) : w.heap[g]? = some o := (h.each _ hm).1

theorem Has.drop {w0 w : World} {r : Res} {Rs : List Res} (h : Has w0 w (r :: Rs)) : Has w0 w Rs := ⟨h.only, fun s hs => h.each s (by simp [hs]), (List.pairwise_cons.1 h.apart).2⟩

theorem Has.swap {w0 w : World} {r s : Res} {Rs : List Res} (h : Has w0 w (r :: s :: Rs)) : Has w0 w (s :: r :: Rs) := by
  obtain ⟨h1, h2⟩ := List.pairwise_cons.1 h.apart
  obtain ⟨h3, h4⟩ := List.pairwise_cons.1 h2
  refine ⟨h.only, fun q hq => h.each q (by simp at hq ⊢; rcases hq with h | h | h <;> simp [h]), List.pairwise_cons.2 ⟨fun q hq x hx hxq => ?_, List.pairwise_cons.2 ⟨fun q hq => h1 q (by simp [hq]), h4⟩⟩⟩
  rcases List.mem_cons.1 hq with rfl | hq
  · exact h1 s (by simp) x hxq hx
  · exact h3 q hq x hx hxq

/-- A new block beside all. -/
theorem Has.more {w0 w w' : World} {Rs : List Res} (h : Has w0 w Rs) (ho : Only [] w w') (r : Res) (hP : r.P w') (hG : ∀ x ∈ r.G, w.heap.size ≤ x ∧ x < w'.heap.size) : Has w0 w' (r :: Rs) := by
  have wsz := h.only.size
  refine ⟨h.only.trans ho (by simp), fun s hs => ?_, List.pairwise_cons.2 ⟨fun s hs x hx hxs => ?_, h.apart⟩⟩
  · rcases List.mem_cons.1 hs with rfl | hs
    · exact ⟨hP, fun x hx => ⟨by have := (hG x hx).1; omega, (hG x hx).2⟩⟩
    · have hs' := h.each s hs
      exact ⟨s.stable w w' (fun x hx => ho.block x (hs'.2 x hx).2 (by simp)) hs'.1, fun x hx => ⟨(hs'.2 x hx).1, Nat.lt_of_lt_of_le (hs'.2 x hx).2 ho.size⟩⟩
  · have := ((h.each s hs).2 x hxs).2
    have := (hG x hx).1
    omega

theorem Has.later {w0 w w' : World} {Rs : List Res} (h : Has w0 w Rs) (ho : Only [] w w') : Has w0 w' Rs :=
  (h.more ho ⟨[], fun _ => True, fun _ _ _ _ => trivial⟩ trivial (by simp)).drop
theorem Has.alloc {w0 w : World} {Rs : List Res} (h : Has w0 w Rs) (o : Obj) : Has w0 (w.alloc o) (BRes w.heap.size o :: Rs) :=
  h.more ((Only.refl [] w).alloc o) (BRes w.heap.size o) (heap_alloc_last w o) (by simp [BRes])
theorem Has.alloc' {w0 w : World} {Rs : List Res} (h : Has w0 w Rs) (o : Obj) : Has w0 (w.alloc o) Rs := (h.alloc o).drop
theorem Has.drew {w0 w : World} {Rs : List Res} (h : Has w0 w Rs) : Has w0 w.drew Rs := h.later (Only.refl [] w).drew

/-! The disk's calls, beside other things. -/
section
variable {w0 w : World} {b : Nat} {F : List Nat} {S : St} {Rs : List Res}

theorem has_new (h : Has w0 w Rs) (n : Int) (h1 : 1 ≤ n) (h2 : n ≤ 8192) :
    Calls Try.prog 35 #[.int .i64 n] w fun e w' => ∃ b F, e = .returned (.tuple #[.pointer (some ⟨b, 0, none⟩), .int .i64 0]) ∧ Has w0 w' (DRes b F (St.new n) :: Rs) := by
  refine (new_ok w n h1 h2).mono ?_
  rintro e w' ⟨rfl, d, o⟩
  refine ⟨_, _, rfl, h.more o _ d (fun x hx => ?_)⟩
  have := dAt_lt d x hx
  simp [DRes] at hx
  omega

theorem has_fuse (h : Has w0 w (DRes b F S :: Rs)) (n : Int) (hn : n ≤ 9223372036854775807) :
    Calls Try.prog 31 #[.pointer (some ⟨b, 0, none⟩), .int .i64 n] w fun e w' => e = .returned (.tuple #[]) ∧ ∃ F', Has w0 w' (DRes b F' (S.fused n) :: Rs) := by
  refine (fuse_any h.dat n hn).mono ?_
  rintro e w' ⟨rfl, hp⟩
  exact ⟨rfl, h.disk hp⟩

theorem has_boot {kv : Value} {keep : List Int} (h : Has w0 w (DRes b F S :: Rs)) (hk : KeepAt w F kv keep) (hp : S.pend.length < 1000000000) :
    Calls Try.prog 32 #[.pointer (some ⟨b, 0, none⟩), kv] w fun e w' => e = .returned (.tuple #[]) ∧ ∃ F', Has w0 w' (DRes b F' (S.booted keep) :: Rs) := by
  refine (boot_any h.dat hk hp).mono ?_
  rintro e w' ⟨rfl, hp⟩
  exact ⟨rfl, h.disk hp⟩

theorem has_read (h : Has w0 w (DRes b F S :: Rs)) (i : Int) (hr : S.reach i = 0) :
    Calls Try.prog 33 #[.pointer (some ⟨b, 0, none⟩), .int .i64 i] w fun e w' => e = .returned (.tuple #[.slice (some ⟨w.heap.size, 0, none⟩) 64 64, .int .i64 0]) ∧ w' = w.alloc (.cells ((S.now i).getD Z) 93) := read_ok h.dat i hr
end


/-- A disk that is on, without a fuse, with nothing pending. -/
def quiet (n k : Int) (f : Int → Option (Array Value)) : St := ⟨n, true, -1, k, f, fun _ => none, []⟩
def putAll (f : Int → Option (Array Value)) (ps : List (Int × Array Value)) : Int → Option (Array Value) := ps.foldl (fun f p => updF f p.1 p.2) f

theorem writes_live : ∀ (ps : List (Int × Array Value)) (S : St), S.on = true → S.fuse = -1 → (∀ p ∈ ps, 0 ≤ p.1 ∧ p.1 < S.n) →
    (S.writes ps).1 = 0 ∧ (S.writes ps).2.n = S.n ∧ (S.writes ps).2.on = true ∧ (S.writes ps).2.fuse = -1 ∧ (S.writes ps).2.steps = S.steps + ps.length ∧ (S.writes ps).2.now = putAll S.now ps
  | [], S, h1, h2, _ => by simp [St.writes, putAll, h1, h2]
  | p :: ps, S, h1, h2, h3 => by
    have hp := h3 p (by simp)
    have hr : S.reach p.1 = 0 := by rw [St.reach, if_neg (by simp [h1]), if_neg (by omega)]
    have hw : S.doWrite p.1 p.2 = (0, S.write p.1 p.2) := by rw [St.doWrite, if_neg (by simp [hr]), if_neg (by omega)]
    have ih := writes_live ps (S.write p.1 p.2) (by simp [St.write, St.written, St.kept, St.stepped, h1]) (by simp [St.write, St.written, St.kept, St.stepped, h2]) (fun q hq => h3 q (by simp [hq]))
    rw [St.writes, hw, if_pos rfl]
    obtain ⟨e1, e2, e3, e4, e5, e6⟩ := ih
    refine ⟨e1, e2, e3, e4, ?_, ?_⟩
    · rw [e5]; simp only [St.write, St.written, St.kept, St.stepped, List.length_cons]; omega
    · rw [e6]; rfl

theorem writeAll_quiet (n k : Int) (f : Int → Option (Array Value)) (ps : List (Int × Array Value)) (h : ∀ p ∈ ps, 0 ≤ p.1 ∧ p.1 < n) : (quiet n k f).writeAll ps = (0, quiet n (k + ps.length + 1) (putAll f ps)) := by
  obtain ⟨e1, e2, e3, e4, e5, e6⟩ := writes_live ps (quiet n k f) rfl rfl h
  rw [St.writeAll, if_pos e1]
  generalize ((quiet n k f).writes ps).2 = T at *
  rw [St.doBarrier, if_neg (by simp [e3]), if_neg (by omega)]
  obtain ⟨Tn, Ton, Tf, Ts, Tnow, Tsure, Tp⟩ := T
  simp only [quiet] at *
  subst e2 e3 e4 e5 e6
  rfl

theorem putAll_other {f : Int → Option (Array Value)} {ps : List (Int × Array Value)} {x : Int} (h : ∀ p ∈ ps, p.1 ≠ x) : putAll f ps x = f x := by
  induction ps generalizing f with
  | nil => rfl
  | cons p ps ih =>
    have : putAll f (p :: ps) = putAll (updF f p.1 p.2) ps := rfl
    rw [this, ih (fun q hq => h q (by simp [hq])), updF, if_neg (fun e => h p (by simp) e.symm)]
theorem putAll_at {f : Int → Option (Array Value)} {ps : List (Int × Array Value)} (hn : (ps.map (·.1)).Nodup) {p : Int × Array Value} (hp : p ∈ ps) : putAll f ps p.1 = some p.2 := by
  induction ps generalizing f with
  | nil => cases hp
  | cons q ps ih =>
    have e : putAll f (q :: ps) = putAll (updF f q.1 q.2) ps := rfl
    rw [List.map_cons, List.nodup_cons] at hn
    rw [e]
    rcases List.mem_cons.1 hp with rfl | hp
    · rw [putAll_other (fun r hr e => hn.1 (List.mem_map.2 ⟨r, hr, e⟩)), updF, if_pos rfl]
    · exact ih hn.2 hp
theorem putAll_one (f : Int → Option (Array Value)) (a : Int) (v : Array Value) : putAll f [(a, v)] = updF f a v := rfl

/-- Which sectors copies writes. -/
theorem copies_in {a : Int} {ps : List (Int × Array Value)} {p : Int × Array Value} (h : p ∈ copiesL a ps) : a + 1 ≤ p.1 ∧ p.1 < a + 1 + numsF ps.length + ps.length := by
  unfold copiesL at h
  rcases List.mem_append.1 h with h | h
  · obtain ⟨i, hi, rfl⟩ := List.mem_map.1 h
    have := List.mem_range.1 hi
    simp only [numPut]
    omega
  · obtain ⟨i, hi, rfl⟩ := List.mem_map.1 h
    have := List.mem_range.1 hi
    simp only [bytPut]
    omega
/-- A group of Room sectors has room. -/
theorem room_fits {s : Int} {n : Nat} (hs : 3 ≤ s) (h : (n : Int) ≤ roomF s) : 1 + (numsF n : Int) + n ≤ s := by
  rw [roomF, if_neg (by omega)] at h
  unfold numsF
  omega

def putLog (f : Int → Option (Array Value)) (a s g : Int) (ps : List (Int × Array Value)) : Int → Option (Array Value) :=
  updF (putAll (updF (putAll f (copiesL a ps)) a (headA a s (g + 1) ps.length)) ps) a (headA a s (g + 1) 0)

theorem commit_quiet {n k : Int} {f : Int → Option (Array Value)} {a s g : Int} {ps : List (Int × Array Value)} (ha : 0 ≤ a) (hs : 3 ≤ s) (has : a + s ≤ n) (hok : GroupOk a s n (rawsOf ps)) :
    ∃ k', k ≤ k' ∧ k' ≤ k + 3 * ps.length + 10 ∧ (quiet n k f).commit a s g ps = ⟨0, quiet n k' (putLog f a s g ps), g + 1⟩ := by
  have hlen : (ps.length : Int) ≤ roomF s := by have := hok.1; simpa [rawsOf] using this
  have hfit := room_fits hs hlen
  have hin : ∀ p ∈ ps, 0 ≤ p.1 ∧ p.1 < n := fun p hp => by
    have := hok.2.1 (p.1, 64) (List.mem_map.2 ⟨p, hp, rfl⟩)
    exact ⟨this.1, this.2.1⟩
  have hcp : ∀ p ∈ copiesL a ps, 0 ≤ p.1 ∧ p.1 < n := fun p hp => by have := copies_in hp; omega
  have hhd : ∀ v, ∀ p ∈ [(a, v)], 0 ≤ (p : Int × Array Value).1 ∧ p.1 < n := fun v p hp => by simp at hp; subst hp; exact ⟨ha, by omega⟩
  have w1 := writeAll_quiet n k f (copiesL a ps) hcp
  have w2 : ∀ k f v, (quiet n k f).writeAll [(a, v)] = (0, quiet n (k + 1 + 1) (updF f a v)) := fun k f v => writeAll_quiet n k f [(a, v)] (hhd v)
  have w3 := fun k f => writeAll_quiet n k f ps hin
  refine ⟨k + ((copiesL a ps).length : Int) + 1 + 1 + 1 + (ps.length : Int) + 1 + 1 + 1, ?_, ?_, ?_⟩
  · rw [copiesL_len]; omega
  · rw [copiesL_len]; unfold numsF; omega
  · rw [St.commit, w1]
    simp only [w2, St.finish, w3]
    simp only [ne_eq, not_true_eq_false, if_false, if_true]
    rfl

theorem putLog_head (f : Int → Option (Array Value)) (a s g : Int) (ps : List (Int × Array Value)) : putLog f a s g ps a = some (headA a s (g + 1) 0) := by rw [putLog, updF, if_pos rfl]
theorem putLog_other {f : Int → Option (Array Value)} {a s g n : Int} {ps : List (Int × Array Value)} (hs : 3 ≤ s) (hok : GroupOk a s n (rawsOf ps)) {x : Int} (hx : x < a ∨ a + s ≤ x) (hp : ∀ p ∈ ps, p.1 ≠ x) : putLog f a s g ps x = f x := by
  have hlen : (ps.length : Int) ≤ roomF s := by have := hok.1; simpa [rawsOf] using this
  have hfit := room_fits hs hlen
  rw [putLog, updF, if_neg (by omega), putAll_other hp, updF, if_neg (by omega), putAll_other (fun p hp => by have := copies_in hp; omega)]
theorem putLog_at {f : Int → Option (Array Value)} {a s g n : Int} {ps : List (Int × Array Value)} (hs : 3 ≤ s) (hok : GroupOk a s n (rawsOf ps)) {p : Int × Array Value} (hp : p ∈ ps) : putLog f a s g ps p.1 = some p.2 := by
  have h1 := (hok.2.1 (p.1, 64) (List.mem_map.2 ⟨p, hp, rfl⟩)).2.2.1
  have hne : p.1 ≠ a := fun e => h1 ⟨by simp only; omega, by simp only; omega⟩
  have hn : (ps.map (·.1)).Nodup := by have := hok.2.2; rw [rawsOf, List.map_map] at this; exact this
  rw [putLog, updF, if_neg hne, putAll_at hn hp]

end Go.Proofs.Ytoccnaebckcfmaa
end

section
set_option linter.unusedSimpArgs false
set_option linter.unusedVariables false
set_option maxRecDepth 8000
namespace Go.Proofs.Ytoccnaebckcfmaa
open Go.RowKit

def WRes (wb b : Nat) (a s g : Int) : Res := BRes wb (.cells (wrow b a s g) 104)

theorem Has.walAt {w0 w : World} {wb b : Nat} {a s g : Int} {Rs : List Res} (h : Has w0 w Rs) (hm : WRes wb b a s g ∈ Rs) : WalAt w wb b a s g := (h.each _ hm).1
theorem Has.apart2 {w0 w : World} {r s : Res} {Rs : List Res} (h : Has w0 w (r :: s :: Rs)) : ∀ x ∈ r.G, x ∉ s.G := (List.pairwise_cons.1 h.apart).1 s (by simp)
theorem Has.wal_notin {w0 w : World} {b wb : Nat} {F : List Nat} {S : St} {a s g : Int} {Rs : List Res} (h : Has w0 w (DRes b F S :: WRes wb b a s g :: Rs)) : wb ∉ F := fun hx => h.apart2 wb hx (by simp [WRes, BRes])

theorem Has.wpost {w0 w w' : World} {b wb : Nat} {F : List Nat} {S S' : St} {a s g g' : Int} {Rs : List Res} (h : Has w0 w (DRes b F S :: WRes wb b a s g :: Rs)) (hp : WPost w w' wb b F S' a s g') : ∃ F', Has w0 w' (DRes b F' S' :: WRes wb b a s g' :: Rs) := by
  obtain ⟨F', d, f, o, hw'⟩ := hp
  obtain ⟨h1, h2⟩ := List.pairwise_cons.1 h.apart
  obtain ⟨h3, h4⟩ := List.pairwise_cons.1 h2
  have hD := h.each (DRes b F S) (by simp)
  have hW := h.each (WRes wb b a s g) (by simp)
  have hwb := hW.2 wb (by simp [WRes, BRes])
  have hwF : wb ∉ F := h.wal_notin
  have osz := o.size
  have wsz := h.only.size
  have hwF' : wb ∉ F' := fun hx => by
    rcases f wb hx with h | h
    · exact hwF h
    · omega
  refine ⟨F', h.only.trans o (fun x hx => ?_), fun r hr => ?_, List.pairwise_cons.2 ⟨fun r hr x hx hxr => ?_, List.pairwise_cons.2 ⟨h3, h4⟩⟩⟩
  · rcases List.mem_cons.1 hx with rfl | hx
    · exact .inr hwb.1
    · exact .inr (hD.2 x hx).1
  · rcases List.mem_cons.1 hr with rfl | hr
    · refine ⟨d, fun x hx => ⟨?_, dAt_lt d x hx⟩⟩
      rcases f x hx with h | h
      · exact (hD.2 x h).1
      · omega
    rcases List.mem_cons.1 hr with rfl | hr2
    · exact ⟨hw', fun x hx => by simp [WRes, BRes] at hx; subst hx; exact ⟨hwb.1, by omega⟩⟩
    · have hs' := h.each r (by simp [hr2])
      refine ⟨r.stable w w' (fun x hx => o.block x (hs'.2 x hx).2 (fun hxr => ?_)) hs'.1, fun x hx => ⟨(hs'.2 x hx).1, Nat.lt_of_lt_of_le (hs'.2 x hx).2 osz⟩⟩
      rcases List.mem_cons.1 hxr with rfl | hxr
      · exact h3 r hr2 x (by simp [WRes, BRes]) hx
      · exact h1 r (by simp [hr2]) x hxr hx
  · rcases List.mem_cons.1 hr with rfl | hr
    · simp [WRes, BRes] at hxr
      subst hxr
      exact hwF' hx
    · rcases f x hx with h5 | h5
      · exact h1 r (by simp [hr]) x h5 hxr
      · have := ((h.each r (by simp [hr])).2 x hxr).2
        omega

theorem has_commit {w0 w : World} {b wb : Nat} {F : List Nat} {n k : Int} {f : Int → Option (Array Value)} {a s g : Int} {Rs : List Res} {lv : Value} {ps : List (Int × Array Value)} (h : Has w0 w (DRes b F (quiet n k f) :: WRes wb b a s g :: Rs)) (hl : PutsAt w F lv ps) (ha : 0 ≤ a) (hs : 3 ≤ s) (has : a + s ≤ n) (hg : 0 ≤ g) (hg1 : g ≤ 1000000) (hok : GroupOk a s n (rawsOf ps)) (hk0 : 0 ≤ k) (hk : k ≤ 900000000) :
    Calls Try.prog 46 #[.pointer (some ⟨wb, 0, none⟩), lv] w fun e w' => e = .returned (.int .i64 0) ∧ ∃ k' F', k ≤ k' ∧ k' ≤ k + 3 * ps.length + 10 ∧ Has w0 w' (DRes b F' (quiet n k' (putLog f a s g ps)) :: WRes wb b a s (g + 1) :: Rs) := by
  have n1 : n ≤ 8192 := by obtain ⟨_, _, _, h, _⟩ := h.dat; exact h.ok.n1
  obtain ⟨k', e1, e2, e3⟩ := commit_quiet (k := k) (f := f) (g := g) ha hs has hok
  have hlen : ps.length ≤ 8192 := by
    have h1 := hok.1
    have h2 := roomF_bd hs
    simp only [rawsOf, List.length_map] at h1
    omega
  refine (commit_any h.dat (h.walAt (by simp)) h.wal_notin hl ha (by omega) hs (by omega) hg (by omega) hok (by simp only [quiet]; omega) (by simp only [quiet, List.length_nil]; omega)).mono ?_
  rintro e w' ⟨rfl, hp⟩
  rw [e3] at hp ⊢
  obtain ⟨F', hh⟩ := h.wpost hp
  exact ⟨rfl, k', F', e1, e2, hh⟩

theorem has_commit_no {w0 w : World} {b wb : Nat} {F : List Nat} {S : St} {a s g : Int} {Rs : List Res} {lv : Value} {rs : List (Int × Nat)} (h : Has w0 w (DRes b F S :: WRes wb b a s g :: Rs)) (hl : RawsAt w lv rs) (ha : 0 ≤ a) (ha1 : a ≤ 8192) (hs : 3 ≤ s) (hs1 : s ≤ 8192) (hno : ¬ GroupOk a s S.n rs) :
    Calls Try.prog 46 #[.pointer (some ⟨wb, 0, none⟩), lv] w fun e w' => e = .returned (.int .i64 20) ∧ Has w0 w' (DRes b F S :: WRes wb b a s g :: Rs) := by
  refine (commit_no h.dat (h.walAt (g := g) (by simp)) hl ha ha1 hs hs1 hno).mono ?_
  rintro e w' ⟨rfl, ho⟩
  exact ⟨rfl, h.later ho⟩

/-- A log is opened on a disk that is on, where its head says that no group is in progress. -/
theorem has_open {w0 w : World} {b : Nat} {F : List Nat} {S : St} {a s g : Int} {Rs : List Res} (h : Has w0 w (DRes b F S :: Rs)) (hon : S.on = true) (ha : 0 ≤ a) (hs : 3 ≤ s) (has : a + s ≤ S.n) (hg : 0 ≤ g) (hg1 : g < 4294967296) (hv : (S.now a).getD Z = headA a s g 0) :
    Calls Try.prog 29 #[.pointer (some ⟨b, 0, none⟩), .int .i64 a, .int .i64 s] w fun e w' => ∃ wb, e = .returned (.tuple #[.pointer (some ⟨wb, 0, none⟩), .int .i64 0]) ∧ Has w0 w' (WRes wb b a s g :: DRes b F S :: Rs) := by
  have n1 : S.n ≤ 8192 := by obtain ⟨_, _, _, h, _⟩ := h.dat; exact h.ok.n1
  obtain ⟨e1, e2, e3, e4⟩ := rd_head (a := a) (s := s) (g := g) (p := 0) ⟨ha, by omega⟩ ⟨by omega, by omega⟩ ⟨hg, hg1⟩ (by omega)
  have hrm := roomF_nn s
  have := open_quiet h.dat hon (by omega) (by omega) ⟨hs, ha, by omega⟩ (headLs_len a s g 0) (headLs_bd a s g 0) (by rw [hv, headA_sec]) (by rw [e1, e2, e3, e4]; simp) (by rw [e1]; simp) (by rw [e2]; simp) e4 (by rw [e4]; exact hrm)
  rw [e3] at this
  refine this.mono ?_
  rintro e w' ⟨wb, rfl, hwb, hw', ho⟩
  exact ⟨wb, rfl, h.more ho (WRes wb b a s g) hw' (fun x hx => by simp [WRes, BRes] at hx; subst hx; exact ⟨hwb, hw'.lt⟩)⟩

theorem has_open_size {w0 w : World} {b : Nat} {F : List Nat} {S : St} {a s s' g : Int} {Rs : List Res} (h : Has w0 w (DRes b F S :: Rs)) (hon : S.on = true) (ha : 0 ≤ a) (hs : 3 ≤ s) (has : a + s ≤ S.n) (hs' : 0 ≤ s') (hs1 : s' < 4294967296) (hne : s' ≠ s) (hg : 0 ≤ g) (hg1 : g < 4294967296) (hv : (S.now a).getD Z = headA a s' g 0) :
    Calls Try.prog 29 #[.pointer (some ⟨b, 0, none⟩), .int .i64 a, .int .i64 s] w fun e w' => e = .returned (.tuple #[.pointer none, .int .i64 4]) ∧ Has w0 w' (DRes b F S :: Rs) := by
  have n1 : S.n ≤ 8192 := by obtain ⟨_, _, _, h, _⟩ := h.dat; exact h.ok.n1
  obtain ⟨e1, e2, e3, e4⟩ := rd_head (a := a) (s := s') (g := g) (p := 0) ⟨ha, by omega⟩ ⟨by omega, by omega⟩ ⟨hg, hg1⟩ (by omega)
  refine (open_size h.dat hon (by omega) (by omega) ⟨hs, ha, by omega⟩ (headLs_len a s' g 0) (headLs_bd a s' g 0) (by rw [hv, headA_sec]) (by rw [e1, e2, e3, e4]; simp) (by rw [e1]; simp) (by rw [e2]; simp [hne])).mono ?_
  rintro e w' ⟨rfl, ho⟩
  exact ⟨rfl, h.later ho⟩

theorem has_open_none {w0 w : World} {b : Nat} {F : List Nat} {S : St} {a s : Int} {Rs : List Res} (h : Has w0 w (DRes b F S :: Rs)) (hon : S.on = true) (ha : 0 ≤ a) (hs : 3 ≤ s) (has : a + s ≤ S.n) (hv : (S.now a).getD Z = Z) :
    Calls Try.prog 29 #[.pointer (some ⟨b, 0, none⟩), .int .i64 a, .int .i64 s] w fun e w' => e = .returned (.tuple #[.pointer none, .int .i64 4]) ∧ Has w0 w' (DRes b F S :: Rs) := by
  have n1 : S.n ≤ 8192 := by obtain ⟨_, _, _, h, _⟩ := h.dat; exact h.ok.n1
  refine (open_other (l := List.replicate 64 0) h.dat hon (by omega) (by omega) ⟨hs, ha, by omega⟩ (by simp) (by simp) (by rw [hv, sec_zero]) (decide_eq_false (head_ne_zero _ _ _ _))).mono ?_
  rintro e w' ⟨rfl, ho⟩
  exact ⟨rfl, h.later ho⟩

theorem writeAll_one {n k : Int} {f : Int → Option (Array Value)} {a : Int} {v : Array Value} (ha : 0 ≤ a) (h : a < n) : (quiet n k f).writeAll [(a, v)] = (0, quiet n (k + 1 + 1) (updF f a v)) :=
  writeAll_quiet n k f [(a, v)] (fun p hp => by rw [List.mem_singleton.1 hp]; exact ⟨ha, h⟩)

theorem has_format {w0 w : World} {b : Nat} {F : List Nat} {n k : Int} {f : Int → Option (Array Value)} {a s : Int} {Rs : List Res} (h : Has w0 w (DRes b F (quiet n k f) :: Rs)) (ha : 0 ≤ a) (hs : 3 ≤ s) (has : a + s ≤ n) (hk0 : 0 ≤ k) (hk : k ≤ 900000000) :
    Calls Try.prog 36 #[.pointer (some ⟨b, 0, none⟩), .int .i64 a, .int .i64 s] w fun e w' => e = .returned (.int .i64 0) ∧ ∃ F', Has w0 w' (DRes b F' (quiet n (k + 1 + 1) (updF f a (headA a s 0 0))) :: Rs) := by
  have n1 : n ≤ 8192 := by obtain ⟨_, _, _, h, _⟩ := h.dat; exact h.ok.n1
  have hw := writeAll_one (n := n) (k := k) (f := f) (a := a) (v := headA a s 0 0) ha (by omega)
  refine (format_any h.dat a s (by omega) (by omega) ⟨hs, ha, by simp only [quiet]; omega⟩ (by simp only [quiet]; omega) (by simp [quiet])).mono ?_
  rintro e w' ⟨rfl, hp⟩
  rw [hw] at hp ⊢
  exact ⟨rfl, h.disk hp⟩

end Go.Proofs.Ytoccnaebckcfmaa
end

section
set_option linter.unusedSimpArgs false
set_option linter.unusedVariables false
set_option maxRecDepth 8000
namespace Go.Proofs.Ytoccnaebckcfmaa
open Go.RowKit

section
variable {o : Oper} {a : Act} {w : World}
theorem run_eql36 {x y : Operand} {i j : Int} (ho : o.op = .binOp .eql 36 x y 36) (hx : a.eval x = .int .i64 i) (hy : a.eval y = .int .i64 j) : ∀ w, (execOp a.eval o).run Try.prog w = .ok (.value (.bool (i == j))) w := by
  intro w
  unfold execOp
  simp only [ho, hx, hy]
  go_simp
theorem run_eql3 {x y : Operand} {i j : Int} (ho : o.op = .binOp .eql 3 x y 3) (hx : a.eval x = .int .i64 i) (hy : a.eval y = .int .i64 j) : ∀ w, (execOp a.eval o).run Try.prog w = .ok (.value (.bool (i == j))) w := by
  intro w
  unfold execOp
  simp only [ho, hx, hy]
  go_simp
theorem run_eqlS {x y : Operand} {s t : ByteArray} (ho : o.op = .binOp .eql 9 x y 9) (hx : a.eval x = .string s) (hy : a.eval y = .string t) : ∀ w, (execOp a.eval o).run Try.prog w = .ok (.value (.bool (s.toList == t.toList))) w := by
  intro w
  unfold execOp
  simp only [ho, hx, hy]
  go_simp
end

def fullL (c l : Int) : List Int := List.replicate 63 c ++ [l]
theorem fullB_sec (c l : Int) : fullB c l = sec (fullL c l) := by kernel_rfl
theorem fullL_len (c l : Int) : (fullL c l).length = 64 := by simp [fullL]

/-- Two puts in memory. -/
theorem putsAt_two {w : World} {F : List Nat} {g : Nat} {i j : Int} {av bv : Value} {v u : Array Value} {t : TypeId} (hb : w.heap[g]? = some (.cells #[.int .i64 i, av, .int .i64 j, bv] t (0, 0))) (hg : g ∉ F) (hv : Bytes64 w F av v) (hu : Bytes64 w F bv u) : PutsAt w F (.slice (some ⟨g, 0, none⟩) 2 2) [(i, v), (j, u)] := by
  refine ⟨_, _, rfl, by simp, fun k p hp => ?_⟩
  match k, hp with
  | 0, hp =>
    simp at hp
    subst hp
    exact ⟨g, 0, av, rfl, (Array.getElem?_eq_some_iff.1 hb).1, hg, by rw [cell_of_row _ _ _ _ _ _ hb]; rfl, by rw [cell_of_row _ _ _ _ _ _ hb]; rfl, hv⟩
  | 1, hp =>
    simp at hp
    subst hp
    exact ⟨g, 0, bv, rfl, (Array.getElem?_eq_some_iff.1 hb).1, hg, by rw [cell_of_row _ _ _ _ _ _ hb]; rfl, by rw [cell_of_row _ _ _ _ _ _ hb]; rfl, hu⟩
  | k + 2, hp => simp at hp

theorem writeAll_fall {S : St} (hon : S.on = true) (hf : S.fuse = 0) (ps : List (Int × Array Value)) (h : ∀ p ∈ ps, 0 ≤ p.1 ∧ p.1 < S.n) : S.writeAll ps = (2, S.fallen) := by
  cases ps with
  | nil => rw [St.writeAll, St.writes, if_pos rfl, St.doBarrier, if_neg (by simp [hon]), if_pos hf]
  | cons p ps =>
    have hp := h p (by simp)
    have hr : S.reach p.1 = 0 := by rw [St.reach, if_neg (by simp [hon]), if_neg (by omega)]
    have hw : S.doWrite p.1 p.2 = (2, S.fallen) := by rw [St.doWrite, if_neg (by simp [hr]), if_pos hf]
    have : S.writes (p :: ps) = (2, S.fallen) := by rw [St.writes, hw, if_neg (by simp)]
    rw [St.writeAll, this, if_neg (by simp)]

theorem commit_fall {S : St} (hon : S.on = true) (hf : S.fuse = 0) {a s g : Int} {ps : List (Int × Array Value)} (ha : 0 ≤ a) (hs : 3 ≤ s) (has : a + s ≤ S.n) (hok : GroupOk a s S.n (rawsOf ps)) : S.commit a s g ps = ⟨2, S.fallen, g⟩ := by
  have hlen : (ps.length : Int) ≤ roomF s := by have := hok.1; simpa [rawsOf] using this
  have hfit := room_fits hs hlen
  rw [St.commit, writeAll_fall hon hf _ (fun p hp => by have := copies_in hp; omega), if_pos (by simp)]

theorem fused_quiet (n k : Int) (f : Int → Option (Array Value)) (m : Int) : (quiet n k f).fused m = { quiet n k f with fuse := m } := rfl
theorem booted_quiet (n k : Int) (f : Int → Option (Array Value)) (keep : List Int) : ({ quiet n k f with fuse := 0 } : St).fallen.booted keep = quiet n k f := rfl
theorem WalAt.lat {w x : World} {wb b : Nat} {a s g : Int} (h : WalAt w wb b a s g) (hl : Lat w x) : WalAt x wb b a s g := hl.at h
theorem keepAt_one {w : World} {F : List Nat} {g : Nat} {z : Int} {t : TypeId} (hb : w.heap[g]? = some (.cells #[.int .i64 z] t (0, 0))) (hg : g ∉ F) : KeepAt w F (.slice (some ⟨g, 0, none⟩) 1 1) [z] := by
  refine ⟨_, _, rfl, by simp, fun _ => ⟨g, 0, rfl, (Array.getElem?_eq_some_iff.1 hb).1, hg, fun j y hy => ?_⟩⟩
  cases j with
  | succ j => simp at hy
  | zero => simp at hy; subst hy; rw [cell_of_row _ _ _ _ _ _ hb]; rfl

theorem room40 : roomF 40 = 37 := by decide
end Go.Proofs.Ytoccnaebckcfmaa
end

section
set_option linter.unusedSimpArgs false
set_option linter.unusedVariables false
set_option maxRecDepth 8000
namespace Go.Proofs.Ytoccnaebckcfmaa
open Go.RowKit

section
variable {o : Oper} {a : Act} {w : World}
theorem run_index32 {x y : Operand} {g off j n cap : Nat} (hj : j < n) (ho : o.op = .indexAddr 79 x y) (hx : a.eval x = .slice (some ⟨g, off, none⟩) n cap) (hy : a.eval y = .int .i64 j) : ∀ w, (execOp a.eval o).run Try.prog w = .ok (.value (.pointer (some ⟨g, off + j * 2, none⟩))) w := by
  intro w
  unfold execOp
  simp only [ho, hx, hy]
  go_simp
theorem run_field54m {x : Operand} {b off : Nat} (ho : o.op = .fieldAddr 112 x 0) (hx : a.eval x = .pointer (some ⟨b, off, none⟩)) :
    ∀ w, (execOp a.eval o).run Try.prog w = .ok (.value (.pointer (some ⟨b, off, none⟩))) w := by
  intro w
  unfold execOp
  simp only [ho, hx]
  go_simp
end

theorem nodup_more {l : List Int} {x : Int} (h : l.Nodup) (hx : ∀ y ∈ l, y ≠ x) : (l ++ [x]).Nodup := by
  rw [List.nodup_append]
  exact ⟨h, by simp, fun a ha b hb => by simp at hb; subst hb; exact hx a ha⟩
theorem not_twice {rs : List (Int × Nat)} {i k : Nat} {q r : Int × Nat} (h : (rs.map (·.1)).Nodup) (hik : i < k) (hq : rs[i]? = some q) (hr : rs[k]? = some r) (e : q.1 = r.1) : False := by
  have h1 : (rs.map (·.1))[i]? = some q.1 := by rw [List.getElem?_map, hq]; rfl
  have h2 : (rs.map (·.1))[k]? = some r.1 := by rw [List.getElem?_map, hr]; rfl
  obtain ⟨a1, a2⟩ := List.getElem?_eq_some_iff.1 h1
  obtain ⟨b1, b2⟩ := List.getElem?_eq_some_iff.1 h2
  exact List.pairwise_iff_getElem.1 h i k a1 b1 hik (a2.trans (e.trans b2.symm))

theorem RawsAt.only {w w' : World} {lv : Value} {rs : List (Int × Nat)} (h : RawsAt w lv rs) (ho : Only [] w w') : RawsAt w' lv rs := by
  obtain ⟨a, cap, h1, h2⟩ := h
  refine ⟨a, cap, h1, fun i r hr => ?_⟩
  obtain ⟨e0, g, o, ad, cap', e1, e2, e3, e4⟩ := h2 i r hr
  have hb := ho.block g e2 (by simp)
  exact ⟨e0, g, o, ad, cap', e1, Nat.lt_of_lt_of_le e2 ho.size, (World.cell?_of_block hb).trans e3, (World.cell?_of_block hb).trans e4⟩

end Go.Proofs.Ytoccnaebckcfmaa
end

section
set_option linter.unusedSimpArgs false
set_option linter.unusedVariables false
set_option maxRecDepth 8000
namespace Go.Proofs.Ytoccnaebckcfmaa
open Go.RowKit

/-- The slice v holds the puts ps; it and their bytes lie in the blocks G. -/
def LAt (w : World) (G : List Nat) (v : Value) (ps : List (Int × Array Value)) : Prop :=
  ∃ gs : List Nat, gs.length = ps.length ∧ w.ownsRow 0 112 2 v ps.length ((ps.zip gs).flatMap (fun q => putCells (q.1.1, .slice (some ⟨q.2, 0, none⟩) 64 64))) ∧ (∀ g, v.ownBlock = some g → g ∈ G) ∧
    ∀ (i : Nat) (p : Int × Array Value) (g : Nat), ps[i]? = some p → gs[i]? = some g → g ∈ G ∧ SecOk p.2 ∧ w.heap[g]? = some (.cells p.2 5 (0, 0))

theorem LAt.congr {w w' : World} {G : List Nat} {v : Value} {ps : List (Int × Array Value)} (h : LAt w G v ps) (he : ∀ x ∈ G, w'.heap[x]? = w.heap[x]?) : LAt w' G v ps := by
  obtain ⟨gs, h1, h2, h3, h4⟩ := h
  refine ⟨gs, h1, ownsRow_congr' h2 (fun g hg => he g (h3 g hg)), h3, fun i p g hp hg => ?_⟩
  obtain ⟨e1, e2, e3⟩ := h4 i p g hp hg
  exact ⟨e1, e2, (he g e1).trans e3⟩

def LRes (G : List Nat) (v : Value) (ps : List (Int × Array Value)) : Res := ⟨G, fun w => LAt w G v ps, fun _ _ he h => h.congr he⟩

theorem LAt.slice {w : World} {G : List Nat} {v : Value} {ps : List (Int × Array Value)} (h : LAt w G v ps) : ∃ a cap, v = .slice a ps.length cap := by
  obtain ⟨gs, h1, h2, h3, h4⟩ := h
  rcases h2.2 with ⟨e, hn⟩ | ⟨g, cap, cur, e, _⟩
  · exact ⟨none, 0, by rw [e, hn]⟩
  · exact ⟨_, cap, e⟩

theorem zip_at {ps : List (Int × Array Value)} {gs : List Nat} {i : Nat} {p : Int × Array Value} {g : Nat} (hp : ps[i]? = some p) (hg : gs[i]? = some g) : (ps.zip gs)[i]? = some (p, g) := by
  rw [List.getElem?_zip_eq_some]; exact ⟨hp, hg⟩

/-- The cells of put i. -/
theorem LAt.cells {w : World} {G : List Nat} {v : Value} {ps : List (Int × Array Value)} (h : LAt w G v ps) {i : Nat} {p : Int × Array Value} (hp : ps[i]? = some p) :
    ∃ g cap gb, v = .slice (some ⟨g, 0, none⟩) ps.length cap ∧ g ∈ G ∧ g < w.heap.size ∧ gb ∈ G ∧ w.cell? ⟨g, 0 + i * 2, none⟩ = some (.int .i64 p.1) ∧ w.cell? ⟨g, 0 + i * 2 + 1, none⟩ = some (.slice (some ⟨gb, 0, none⟩) 64 64) ∧ SecOk p.2 ∧ w.heap[gb]? = some (.cells p.2 5 (0, 0)) := by
  obtain ⟨gs, h1, h2, h3, h4⟩ := h
  have hi := (List.getElem?_eq_some_iff.1 hp).1
  obtain ⟨gb, hgb⟩ : ∃ g, gs[i]? = some g := ⟨_, List.getElem?_eq_getElem (by omega)⟩
  rcases h2.2 with ⟨e, hn⟩ | ⟨g, cap, cur, e, _, hh, _, _, hcs, hcur⟩
  · omega
  · obtain ⟨e1, e2, e3⟩ := h4 i p gb hp hgb
    have hz := zip_at hp hgb
    let qs : List (Int × Value) := (ps.zip gs).map (fun q => (q.1.1, .slice (some ⟨q.2, 0, none⟩) 64 64))
    have hqs : (ps.zip gs).flatMap (fun q => putCells (q.1.1, .slice (some ⟨q.2, 0, none⟩) 64 64)) = qs.flatMap putCells := by simp only [qs, List.flatMap_map]
    have hq : qs[i]? = some (p.1, .slice (some ⟨gb, 0, none⟩) 64 64) := by simp only [qs, List.getElem?_map, hz, Option.map_some]
    obtain ⟨c0, c1⟩ := putCells_at qs i _ hq
    rw [hqs] at hcur
    refine ⟨g, cap, gb, e, h3 g (by rw [e]; rfl), (Array.getElem?_eq_some_iff.1 hh).1, e1, ?_, ?_, e2, e3⟩
    · rw [cell_of_row _ _ _ _ _ _ hh, Nat.zero_add, ← c0, ← hcur, List.getElem?_take_of_lt (by omega)]
      simp
    · rw [cell_of_row _ _ _ _ _ _ hh, Nat.zero_add, ← c1, ← hcur, List.getElem?_take_of_lt (by omega)]
      simp

theorem LAt.puts {w : World} {G F : List Nat} {v : Value} {ps : List (Int × Array Value)} (h : LAt w G v ps) (hGF : ∀ x ∈ F, x ∉ G) (hn : ps.length ≤ 1000000) : PutsAt w F v ps := by
  obtain ⟨a, cap, hv⟩ := h.slice
  refine ⟨a, cap, hv, hn, fun i p hp => ?_⟩
  obtain ⟨g, cap', gb, e, hg, hgs, hgb, c0, c1, ok, hb⟩ := h.cells hp
  rw [hv] at e
  cases e
  exact ⟨g, 0, _, rfl, hgs, fun hx => hGF g hx hg, c0, c1, bytes64_row hb (fun hx => hGF gb hx hgb) ok⟩

/-- The first m of them. -/
theorem LAt.puts_take {w : World} {G F : List Nat} {a : Option Addr} {n cap cap' m : Nat} {ps : List (Int × Array Value)} (h : LAt w G (.slice a n cap) ps) (hGF : ∀ x ∈ F, x ∉ G) (hn : ps.length ≤ 1000000) (hm : m ≤ ps.length) : PutsAt w F (.slice a m cap') (ps.take m) := by
  have hl : (ps.take m).length = m := by simp; omega
  refine ⟨a, cap', by rw [hl], by omega, fun i p hp => ?_⟩
  rw [List.getElem?_take] at hp
  split at hp
  · obtain ⟨g, cap', gb, e, hg, hgs, hgb, c0, c1, ok, hb⟩ := h.cells hp
    cases e
    exact ⟨g, 0, _, rfl, hgs, fun hx => hGF g hx hg, c0, c1, bytes64_row hb (fun hx => hGF gb hx hgb) ok⟩
  · cases hp

theorem Has.lat {w0 w : World} {G : List Nat} {v : Value} {ps : List (Int × Array Value)} {Rs : List Res} (h : Has w0 w Rs) (hm : LRes G v ps ∈ Rs) : LAt w G v ps := (h.each _ hm).1

theorem LAt.lt {w : World} {G : List Nat} {v : Value} {ps : List (Int × Array Value)} (h : LAt w G v ps) {g : Nat} (hg : v.ownBlock = some g) : g < w.heap.size := by
  obtain ⟨gs, h1, h2, h3, h4⟩ := h
  exact (ownsRow_own h2 hg).2.1

/-- An empty one. -/
theorem has_nil {w0 w : World} {Rs : List Res} (h : Has w0 w Rs) : Has w0 (w.alloc (.cells #[] 112)) (LRes [w.heap.size] (.slice (some ⟨w.heap.size, 0, none⟩) 0 0) [] :: Rs) :=
  h.more ((Only.refl [] w).alloc _) (LRes [w.heap.size] (.slice (some ⟨w.heap.size, 0, none⟩) 0 0) [])
    ⟨[], rfl, ⟨rfl, .inr ⟨w.heap.size, 0, #[], rfl, Nat.zero_le _, heap_alloc_last w _, Nat.le_refl _, by decide, rfl, rfl⟩⟩, fun g hg => by simp [Value.ownBlock] at hg; simp [hg], by simp⟩
    (fun x hx => by simp [LRes] at hx; subst hx; simp)

/-- One put more. -/
theorem has_append {w0 w : World} {G : List Nat} {v : Value} {ps : List (Int × Array Value)} {Rs : List Res} (h : Has w0 w (LRes G v ps :: Rs)) (i : Int) (x : Array Value) (hx : SecOk x) (hn : ps.length ≤ 100000) (ty : TypeId) :
    ∃ v' w', (Builtin.append_ #[79, 79] ty #[v, .slice (some ⟨w.heap.size + 1, 0, none⟩) 1 1]).run Try.prog ((w.alloc (.cells x 5)).alloc (.cells #[.int .i64 i, .slice (some ⟨w.heap.size, 0, none⟩) 64 64] 112)) = .ok v' w' ∧ ∃ G', Has w0 w' (LRes G' v' (ps ++ [(i, x)]) :: Rs) := by
  have hl := h.lat (by simp : LRes G v ps ∈ LRes G v ps :: Rs)
  have hGlt : ∀ y ∈ G, y < w.heap.size := fun y hy => ((h.each (LRes G v ps) (by simp)).2 y hy).2
  obtain ⟨gs, h1, h2, h3, h4⟩ := hl
  obtain ⟨i0, hi, hz0, hz1, hz2⟩ := info_parts info54a
  have hone : ∀ u ∈ putCells (i, .slice (some ⟨w.heap.size, 0, none⟩) 64 64), u.oneCell' = true := by
    intro u hu
    simp [putCells] at hu
    rcases hu with rfl | rfl <;> rfl
  have hblk := heap_alloc_last (w.alloc (.cells x 5)) (.cells #[.int .i64 i, .slice (some ⟨w.heap.size, 0, none⟩) 64 64] 112)
  rw [World.size_alloc] at hblk
  have hxb : ((w.alloc (.cells x 5)).alloc (.cells #[.int .i64 i, .slice (some ⟨w.heap.size, 0, none⟩) 64 64] 112)).heap[w.heap.size]? = some (.cells x 5 (0, 0)) := by
    rw [Below.heap_alloc _ _ _ (by simp)]; exact heap_alloc_last w _
  have o2 : Only [] w ((w.alloc (.cells x 5)).alloc (.cells #[.int .i64 i, .slice (some ⟨w.heap.size, 0, none⟩) 64 64] 112)) := ((Only.refl [] w).alloc _).alloc _
  have hs2 : ((w.alloc (.cells x 5)).alloc (.cells #[.int .i64 i, .slice (some ⟨w.heap.size, 0, none⟩) 64 64] 112)).heap.size = w.heap.size + 1 + 1 := by simp
  generalize (w.alloc (.cells x 5)).alloc (.cells #[.int .i64 i, .slice (some ⟨w.heap.size, 0, none⟩) 64 64] 112) = w2 at *
  have SRC2 : ∀ j u, (putCells (i, .slice (some ⟨w.heap.size, 0, none⟩) 64 64))[j]? = some u → w2.cell? ((⟨w.heap.size + 1, 0, none⟩ : Addr).add j) = some u := fun j u hu => by
    rw [Addr.add_mid, Nat.zero_add, cell_of_row _ _ _ _ _ _ hblk]
    simpa [putCells] using hu
  have h2' := ownsRow_congr' h2 (w' := w2) (fun g hg => o2.block g (ownsRow_own h2 hg).2.1 (by simp))
  obtain ⟨v', w', hrun, hown, hgrow, hnil, hloc⟩ := run_append_own_at (P := Try.prog) w2 0 79 ty 112 i0 _ 2 32 Try.underlying79 hi hz0 hz1 hz2 (by simp [Value.cells]) (by omega)
    v _ _ h2' ⟨w.heap.size + 1, 0, none⟩ 1 1 (putCells (i, .slice (some ⟨w.heap.size, 0, none⟩) 64 64)) rfl SRC2 hone (by unfold maxLen; omega) (by omega) (Nat.zero_le _)
  have hvG : ∀ y, v.ownBlock = some y → y ∈ G := h3
  have hO : Only G w w' := (o2.mono (by simp)).grown hgrow (fun y hy => .inl (hvG y hy))
  have hkeep : ∀ y, y < w2.heap.size → v.ownBlock ≠ some y → w'.heap[y]? = w2.heap[y]? := fun y hy hne => hgrow.block y hy (fun e => hne e.symm)
  have h5 : ∀ (y : Nat) (c : Array Value), w2.heap[y]? = some (.cells c 5 (0, 0)) → w'.heap[y]? = some (.cells c 5 (0, 0)) := fun y c hy => by
    rw [hkeep y (Array.getElem?_eq_some_iff.1 hy).1 (fun e => ?_)]
    · exact hy
    · obtain ⟨_, _, cur, hcur⟩ := ownsRow_own h2' e
      rw [hcur] at hy
      simp at hy
  have hgsz := hgrow.size
  refine ⟨v', w', hrun, G ++ v'.ownBlock.toList ++ [w.heap.size], h.turn (r' := LRes (G ++ v'.ownBlock.toList ++ [w.heap.size]) v' (ps ++ [(i, x)])) hO ?_ ?_⟩
  · refine ⟨gs ++ [w.heap.size], by simp [h1], ?_, fun g hg => by simp [hg], ?_⟩
    · have hz : (ps ++ [(i, x)]).zip (gs ++ [w.heap.size]) = ps.zip gs ++ [((i, x), w.heap.size)] := by rw [List.zip_append h1.symm]; rfl
      rw [hz, List.flatMap_append, List.length_append]
      simpa using hown
    · intro j p g hp hg
      by_cases hj : j < ps.length
      · rw [List.getElem?_append_left hj] at hp
        rw [List.getElem?_append_left (by omega)] at hg
        obtain ⟨e1, e2, e3⟩ := h4 j p g hp hg
        exact ⟨by simp [e1], e2, h5 g _ ((o2.block g (hGlt g e1) (by simp)).trans e3)⟩
      · rw [List.getElem?_append_right (by omega)] at hp hg
        have hj0 : j - ps.length = 0 := by
          have := (List.getElem?_eq_some_iff.1 hp).1
          simp at this; omega
        rw [hj0] at hp
        rw [h1, hj0] at hg
        simp at hp hg
        subst hp hg
        exact ⟨by simp, hx, h5 _ _ hxb⟩
  · intro y hy
    simp only [LRes, List.mem_append, Option.mem_toList, List.mem_singleton] at hy
    rcases hy with (hy | hy) | hy
    · exact ⟨.inl hy, by have := hGlt y hy; omega⟩
    · rcases hloc with e | e
      · rw [e] at hy
        have := hvG y hy
        exact ⟨.inl this, by have := hGlt y this; omega⟩
      · have hlt := (ownsRow_own hown hy).2.1
        rw [e] at hy
        simp at hy
        exact ⟨.inr (by omega), hlt⟩
    · subst hy
      exact ⟨.inr (Nat.le_refl _), by omega⟩

end Go.Proofs.Ytoccnaebckcfmaa
end

section
set_option linter.unusedSimpArgs false
set_option linter.unusedVariables false
set_option maxRecDepth 8000
namespace Go.Proofs.Ytoccnaebckcfmaa
open Go.RowKit

/-- Number i of a sector of numbers. -/
def unp (f : Nat → Int) (i : Nat) : Int := ldF (fun j => f (i * 2 + j)) 2

structure UnpRow (f : Nat → Int) (A : Array Value) (k : Nat) : Prop where
  size : A.size = 32
  got : ∀ j, j < k → A[j]? = some (.int .i64 (unp f j))
  zero : ∀ j, k ≤ j → j < 32 → A[j]? = some (.int .i64 0)

set_option maxHeartbeats 1000000 in
theorem unpack_any (w : World) (g : Nat) (f : Nat → Int) (hc : ∀ j, j < 64 → w.cell? ⟨g, j, none⟩ = some (.int .u8 (f j))) (hgw : g < w.heap.size) (hf : ∀ j, 0 ≤ f j ∧ f j < 256) :
    Calls Try.prog 90 #[.slice (some ⟨g, 0, none⟩) 64 64] w fun e w' => e = .returned (.slice (some ⟨w.heap.size, 0, none⟩) 32 32) ∧ (∃ A, w'.heap[w.heap.size]? = some (.cells A 3 (0, 0)) ∧ UnpRow f A 32) ∧ Only [] w w' := by
  have hmk : ∀ w : World, (Instr.makeSlice 40 (.int .i64 32) (.int .i64 32)).run Try.prog w = .ok (.slice (some ⟨w.heap.size, 0, none⟩) 32 32) (w.alloc (.cells (madeCells #[.int .i64 0] 32) 3)) := make33 32 (by omega)
  have HC := Lib.hid hc
  have HF := Lib.hid hf
  clear hc hf
  go_enter Try.func90, Try.ntmps90
  go_wp2
  go_loopw [8] (fun i wr => ∃ (k : Nat) (A : Array Value), k ≤ 32 ∧ i = .int .i64 k ∧ wr.heap[w.heap.size]? = some (.cells A 3 (0, 0)) ∧ UnpRow f A k ∧ Only [] w wr) (fun i _ => 32 - (intOf i).toNat)
  case atStart => exact ⟨0, _, by omega, rfl, heap_alloc_last w _, ⟨(made_row 32).1, by simp, fun j _ hj => (made_row 32).2 j hj⟩, (Only.refl [] w).alloc _⟩
  case round =>
    obtain ⟨k, A, hk, rfl, hb, hA, ho⟩ := hrel
    by_cases hlt : k < 32
    · have LD := Lib.hid (load_any wr g (k * 2) 2 (64 - k * 2) (fun j => f (k * 2 + j)) (by omega) (fun j hj => (World.cell?_of_block (ho.block g hgw (by simp))).trans (HC.out _ (by omega))) (fun j => HF.out _))
      have hcell : wr.cell? ⟨w.heap.size, k, none⟩ = some (.int .i64 0) := by rw [cell_of_row _ _ _ _ _ _ hb]; exact hA.zero k (Nat.le_refl _) hlt
      have hfz : wr.frozen? ⟨w.heap.size, k, none⟩ = false := by simp [World.frozen?, hb]
      have KEEP := Lib.hid (And.intro hb (And.intro hA ho))
      clear hb hA ho
      go_wp2_with (go_at_call 79; rw [show (k + 1) * 2 - k * 2 = 2 by omega]; refine LD.out.mono ?_; rintro e w' ⟨rfl, rfl⟩)
      go_roundw
      case rel =>
        obtain ⟨hb, hA, ho⟩ := KEEP.out
        refine ⟨k + 1, _, by omega, by go_num, heap_setCell_row hb _ _, ⟨by simpa using hA.size, fun j hj => ?_, fun j h1 h2 => ?_⟩, ho.setCell (by simp) _⟩
        · by_cases hjk : j = k
          · subst hjk
            rw [Array.getElem?_setIfInBounds_self_of_lt (by rw [hA.size]; exact hlt)]
            rfl
          · rw [Array.getElem?_setIfInBounds_ne (by omega)]
            exact hA.got j (by omega)
        · rw [Array.getElem?_setIfInBounds_ne (by omega)]
          exact hA.zero j (by omega) h2
      case measure => simp [intOf]; omega
    · have : k = 32 := by omega
      subst this
      have KEEP := Lib.hid (And.intro hb (And.intro hA ho))
      clear hb hA ho
      go_wp2
      go_ret
      exact ⟨rfl, ⟨A, KEEP.out.1, KEEP.out.2.1⟩, KEEP.out.2.2⟩

/-- A sector of numbers read back. -/
theorem unp_packed (ns : Nat → Int) (k : Nat) (hk : k ≤ 32) (hn : ∀ j, j < k → 0 ≤ ns j ∧ ns j < 65536) {f : Nat → Int} (hf : ∀ j, j < 64 → (packed ns k)[j]? = some (.int .u8 (f j))) (i : Nat) (hi : i < 32) : unp f i = if i < k then ns i else 0 := by
  unfold unp
  by_cases h : i < k
  · rw [if_pos h]
    have h0 := hf (i * 2 + 0) (by omega)
    have h1 := hf (i * 2 + 1) (by omega)
    rw [packed_at ns k i 0 h hk (by omega)] at h0
    rw [packed_at ns k i 1 h hk (by omega)] at h1
    simp at h0 h1
    have := ldF_le2 (hn i h).1 (hn i h).2
    simp only [ldF] at this ⊢
    rw [← this, h0, h1]
    simp
  · rw [if_neg h]
    have h0 := hf (i * 2 + 0) (by omega)
    have h1 := hf (i * 2 + 1) (by omega)
    rw [packed_ge ns k _ (by omega) (by omega)] at h0 h1
    simp at h0 h1
    simp only [ldF, Nat.add_zero]
    omega

end Go.Proofs.Ytoccnaebckcfmaa
end

section
set_option linter.unusedSimpArgs false
set_option linter.unusedVariables false
set_option maxRecDepth 8000
namespace Go.Proofs.Ytoccnaebckcfmaa
open Go.RowKit

/-- Bytes that stay where they are while a slice of puts is built. -/
def Src2 (w0 w : World) (F : List Nat) (av : Value) (v : Array Value) : Prop :=
  SecOk v ∧ ∃ g o cap, av = .slice (some ⟨g, o, none⟩) 64 cap ∧ g < w.heap.size ∧ g ∉ F ∧ w.rangeAt g o v.toList ∧ (g < w0.heap.size ∨ ∃ cs t, w.heap[g]? = some (.cells cs t (0, 0)) ∧ t ≠ 112)
theorem Src2.bytes {w0 w : World} {F : List Nat} {av : Value} {v : Array Value} (h : Src2 w0 w F av v) : Bytes64 w F av v := by
  obtain ⟨h1, g, o, cap, h2, h3, h4, h5, _⟩ := h
  exact ⟨h1, g, o, cap, h2, h3, h4, h5⟩
theorem Src2.keep {w0 w w' : World} {F : List Nat} {av : Value} {v : Array Value} (h : Src2 w0 w F av v) (hs : w.heap.size ≤ w'.heap.size) (hk : ∀ x, x < w.heap.size → (x < w0.heap.size ∨ ∃ cs t, w.heap[x]? = some (.cells cs t (0, 0)) ∧ t ≠ 112) → w'.heap[x]? = w.heap[x]?) : Src2 w0 w' F av v := by
  obtain ⟨h1, g, o, cap, h2, h3, h4, h5, h6⟩ := h
  have hg := hk g h3 h6
  refine ⟨h1, g, o, cap, h2, by omega, h4, fun j u hu => (World.cell?_of_block hg).trans (h5 j u hu), ?_⟩
  rcases h6 with h6 | ⟨cs, t, h6, h7⟩
  · exact .inl h6
  · exact .inr ⟨cs, t, hg.trans h6, h7⟩

/-- The slice v holds the puts ps; it is the law's own, and lies behind w0. -/
def Built (w0 w : World) (F : List Nat) (v : Value) (ps : List (Int × Array Value)) : Prop :=
  ∃ qs : List (Int × Value), qs.length = ps.length ∧ w.ownsRow w0.heap.size 112 2 v qs.length (qs.flatMap putCells) ∧ ∀ (i : Nat) (q : Int × Value) (p : Int × Array Value), qs[i]? = some q → ps[i]? = some p → q.1 = p.1 ∧ Src2 w0 w F q.2 p.2

theorem Built.nil (w0 w : World) (F : List Nat) : Built w0 w F (.slice none 0 0) [] := ⟨[], rfl, World.ownsRow_nil _ _ _ _, by simp⟩

theorem Built.keep {w0 w w' : World} {F : List Nat} {v : Value} {ps : List (Int × Array Value)} (h : Built w0 w F v ps) (ho : Only [] w w') : Built w0 w' F v ps := by
  obtain ⟨qs, h1, h2, h3⟩ := h
  refine ⟨qs, h1, ownsRow_congr' h2 (fun g hg => ho.block g (ownsRow_own h2 hg).2.1 (by simp)), fun i q p hq hp => ⟨(h3 i q p hq hp).1, (h3 i q p hq hp).2.keep ho.size (fun x hx _ => ho.block x hx (by simp))⟩⟩

theorem Built.slice {w0 w : World} {F : List Nat} {v : Value} {ps : List (Int × Array Value)} (h : Built w0 w F v ps) : ∃ a cap, v = .slice a ps.length cap := by
  obtain ⟨qs, h1, h2, h3⟩ := h
  rcases h2.2 with ⟨e, hn⟩ | ⟨g, cap, cur, e, _⟩
  · exact ⟨none, 0, by rw [e, ← h1, hn]⟩
  · exact ⟨_, cap, by rw [e, h1]⟩

/-- One put more. -/
theorem Built.append {w0 w : World} {F : List Nat} {v : Value} {ps : List (Int × Array Value)} (h : Built w0 w F v ps) (ho : Only [] w0 w) {i : Int} {av : Value} {x : Array Value} (hx : Src2 w0 w F av x) (hn : ps.length ≤ 100000) (ty : TypeId) :
    ∃ v' w', (Builtin.append_ #[79, 79] ty #[v, .slice (some ⟨w.heap.size, 0, none⟩) 1 1]).run Try.prog (w.alloc (.cells #[.int .i64 i, av] 112)) = .ok v' w' ∧ Built w0 w' F v' (ps ++ [(i, x)]) ∧ Only [] w0 w' ∧
      (∀ y, y < w.heap.size → v.ownBlock ≠ some y → w'.heap[y]? = w.heap[y]?) ∧ w.heap.size ≤ w'.heap.size := by
  obtain ⟨qs, h1, h2, h3⟩ := h
  obtain ⟨i0, hi, hz0, hz1, hz2⟩ := info_parts info54a
  have hav : ∃ g o cap, av = .slice (some ⟨g, o, none⟩) 64 cap := by obtain ⟨_, g, o, cap, e, _⟩ := hx; exact ⟨g, o, cap, e⟩
  have hone : ∀ u ∈ putCells (i, av), u.oneCell' = true := by
    obtain ⟨g, o, cap, rfl⟩ := hav
    intro u hu
    simp [putCells] at hu
    rcases hu with rfl | rfl <;> rfl
  have hblk := heap_alloc_last w (.cells #[.int .i64 i, av] 112)
  have SRC2 : ∀ j u, (putCells (i, av))[j]? = some u → (w.alloc (.cells #[.int .i64 i, av] 112)).cell? ((⟨w.heap.size, 0, none⟩ : Addr).add j) = some u := fun j u hu => by
    rw [Addr.add_mid, Nat.zero_add, cell_of_row _ _ _ _ _ _ hblk]
    simpa [putCells] using hu
  obtain ⟨v', w', hrun, hown, hgrow, hnil, hloc⟩ := run_append_own_at (P := Try.prog) (w.alloc (.cells #[.int .i64 i, av] 112)) w0.heap.size 79 ty 112 i0 _ 2 32 Try.underlying79 hi hz0 hz1 hz2 (by simp [Value.cells]) (by omega)
    v _ _ (World.ownsRow.alloc (w := w) h2 _) ⟨w.heap.size, 0, none⟩ 1 1 (putCells (i, av)) rfl SRC2 hone (by unfold maxLen; omega) (by omega) (by simp; exact Nat.le_succ_of_le ho.size)
  have hkeep : ∀ y, y < w.heap.size → v.ownBlock ≠ some y → w'.heap[y]? = w.heap[y]? := fun y hy hne =>
    (hgrow.block y (by simp; omega) (fun e => hne e.symm)).trans (Below.heap_alloc _ _ _ hy)
  have hsz : w.heap.size ≤ w'.heap.size := by have := hgrow.size; simp at this; omega
  have hown0 : ∀ y, v.ownBlock = some y → w0.heap.size ≤ y := fun y hy => (ownsRow_own h2 hy).1
  have hsrc : ∀ {av : Value} {x : Array Value}, Src2 w0 w F av x → Src2 w0 w' F av x := fun hs => hs.keep hsz (fun y hy hc => hkeep y hy (fun e => by
    rcases hc with hc | ⟨cs, t, hc, ht⟩
    · have := hown0 y e; omega
    · obtain ⟨_, _, cur, hcur⟩ := ownsRow_own h2 e
      rw [hcur] at hc
      simp at hc
      exact ht hc.2.symm))
  refine ⟨v', w', hrun, ⟨qs ++ [(i, av)], by simp [h1], ?_, ?_⟩, ?_, hkeep, hsz⟩
  · rw [List.flatMap_append, List.length_append]
    simpa using hown
  · intro j q p hq hp
    by_cases hj : j < qs.length
    · rw [List.getElem?_append_left hj] at hq
      rw [List.getElem?_append_left (by omega)] at hp
      obtain ⟨e1, e2⟩ := h3 j q p hq hp
      exact ⟨e1, hsrc e2⟩
    · rw [List.getElem?_append_right (by omega)] at hq
      rw [List.getElem?_append_right (by omega)] at hp
      have hj0 : j - qs.length = 0 := by
        have := (List.getElem?_eq_some_iff.1 hq).1
        simp at this; omega
      rw [hj0] at hq
      rw [← h1, hj0] at hp
      simp at hq hp
      subst hq hp
      exact ⟨rfl, hsrc hx⟩
  · exact (ho.alloc _).grown hgrow (fun k hk => .inr (hown0 k hk))

theorem Built.puts {w0 w : World} {F : List Nat} {v : Value} {ps : List (Int × Array Value)} (h : Built w0 w F v ps) (hF : ∀ x ∈ F, x < w0.heap.size) (hn : ps.length ≤ 1000000) : PutsAt w F v ps := by
  obtain ⟨qs, h1, h2, h3⟩ := h
  rcases h2.2 with ⟨e, hn0⟩ | ⟨g, cap, cur, e, hg, hh, _, _, hcs, hcur⟩
  · refine ⟨none, 0, by rw [e, ← h1, hn0], hn, fun i p hp => ?_⟩
    have := (List.getElem?_eq_some_iff.1 hp).1
    omega
  · refine ⟨_, cap, by rw [e, h1], hn, fun i p hp => ?_⟩
    have hi := (List.getElem?_eq_some_iff.1 hp).1
    obtain ⟨q, hq⟩ : ∃ q, qs[i]? = some q := ⟨_, List.getElem?_eq_getElem (by omega)⟩
    obtain ⟨e1, e2⟩ := h3 i q p hq hp
    obtain ⟨c0, c1⟩ := putCells_at qs i q hq
    refine ⟨g, 0, q.2, rfl, (Array.getElem?_eq_some_iff.1 hh).1, fun hx => by have := hF g hx; omega, ?_, ?_, e2.bytes⟩
    · rw [cell_of_row _ _ _ _ _ _ hh, ← e1, ← c0, ← hcur, List.getElem?_take_of_lt (by omega)]
      simp
    · rw [cell_of_row _ _ _ _ _ _ hh, ← c1, ← hcur, List.getElem?_take_of_lt (by omega)]
      simp


/-- The log from sector a on holds the group ps. -/
structure Holds (S : St) (a : Int) (ps : List (Int × Array Value)) : Prop where
  nums : ∀ i, i < numsF ps.length → (S.now (a + 1 + (i : Int))).getD Z = (numPut a ps i).2
  byts : ∀ i, i < ps.length → (S.now (a + 1 + (numsF ps.length : Int) + (i : Int))).getD Z = bytOf ps i

def numAt (ps : List (Int × Array Value)) (j : Nat) : Value := .int .i64 (if j < ps.length then secOf ps j else 0)
def RecPost (ps : List (Int × Array Value)) (F : List Nat) (w : World) (e : Ending) (w' : World) : Prop := ∃ v, e = .returned (.tuple #[v, .int .i64 0]) ∧ PutsAt w' F v ps ∧ Only [] w w'
theorem RecPost.mk {ps : List (Int × Array Value)} {F : List Nat} {w w' : World} {v : Value} (h : PutsAt w' F v ps) (ho : Only [] w w') : RecPost ps F w (.returned (.tuple #[v, .int .i64 0])) w' := Exists.intro v ⟨rfl, h, ho⟩
theorem info3a : (Try.prog.info? 3).map (fun i => (i.zero, i.size, i.bytes)) = some (some (.int .i64 0), 1, 8) := by kernel_rfl

theorem numPut_byte (a : Int) (ps : List (Int × Array Value)) (i : Nat) : ∃ f : Nat → Int, (∀ j, j < 64 → (numPut a ps i).2[j]? = some (.int .u8 (f j))) ∧ ∀ j, 0 ≤ f j ∧ f j < 256 := by
  have key : ∀ j, ∃ z : Int, (j < 64 → (numPut a ps i).2[j]? = some (.int .u8 z)) ∧ 0 ≤ z ∧ z < 256 := fun j => by
    by_cases hj : j < 64
    · simp only [numPut]
      generalize hm : min (i * 32 + 32) ps.length - i * 32 = m
      have hm32 : m ≤ 32 := by omega
      by_cases h : m * 2 ≤ j
      · exact ⟨0, fun _ => packed_ge _ m j h hj, by omega, by omega⟩
      · have := packed_at (fun j => secOf ps (i * 32 + j)) m (j / 2) (j % 2) (by omega) hm32 (by omega)
        rw [show j / 2 * 2 + j % 2 = j by omega] at this
        exact ⟨_, fun _ => this, le_bd _ _⟩
    · exact ⟨0, fun h => absurd h hj, by omega, by omega⟩
  obtain ⟨f, hf⟩ := Classical.axiomOfChoice key
  exact ⟨f, fun j hj => (hf j).1 hj, fun j => (hf j).2⟩

theorem does_nums {o : Oper} {a : Act} {w : World} {x : Operand} {n : Nat} {t : TypeId} (hn : n ≤ 1000000000) (ho : o.op = .call { callee := .value (.func 85), args := #[x], argTypes := #[t] }) (hx : a.eval x = .int .i64 n) : Does Try.prog o a w (.int .i64 (numsF n)) w :=
  .inr (.inr ⟨85, _, run_enter1 Try.call85 ho hx, (nums_any n w hn).mono fun e w' h => ⟨h.1, h.2.symm⟩⟩)

set_option maxRecDepth 100000 in
set_option maxHeartbeats 4000000 in
theorem recorded_any {w : World} {wb b : Nat} {F : List Nat} {S : St} {a s g : Int} {ps : List (Int × Array Value)} (hd : DAt w b F S) (hw : WalAt w wb b a s g) (hon : S.on = true) (ha : 0 ≤ a) (hs : 3 ≤ s) (has : a + s ≤ S.n) (hok : GroupOk a s S.n (rawsOf ps)) (hh : Holds S a ps) (hpb : ∀ p ∈ ps, SecOk p.2) (hne : 0 < ps.length) :
    Calls Try.prog 81 #[.pointer (some ⟨wb, 0, none⟩), .int .i64 (ps.length : Int)] w fun e w' => RecPost ps F w e w' := by
  have n1 : S.n ≤ 8192 := by obtain ⟨_, _, _, h, _⟩ := hd; exact h.ok.n1
  have hlen : (ps.length : Int) ≤ roomF s := by have := hok.1; simpa [rawsOf] using this
  have hfit := room_fits hs hlen
  have hrb := roomF_bd hs
  have hsec : ∀ j, j < ps.length → 0 ≤ secOf ps j ∧ secOf ps j < 65536 := fun j hj => by
    obtain ⟨p, hp⟩ : ∃ p, ps[j]? = some p := ⟨_, List.getElem?_eq_getElem hj⟩
    rw [(at_of hp).1]
    have := hok.2.1 (p.1, 64) (List.mem_map.2 ⟨p, List.mem_of_getElem? hp, rfl⟩)
    have h1 := this.1
    have h2 := this.2.1
    simp only at h1 h2
    omega
  have hlt0 := dAt_lt hd
  have HD := Lib.hid hd
  have HW := Lib.hid hw
  have HH := Lib.hid hh
  have HSEC := Lib.hid hsec
  have HPB := Lib.hid hpb
  have HF := Lib.hid hlt0
  have HON := Lib.hid hon
  have NS := Lib.hid (nums_any ps.length w (by omega))
  clear hd hw hh hsec hpb hlt0 hok hon hlen
  go_enter Try.func81, Try.ntmps81
  go_wp2_with (go_at_call 85; refine NS.out.mono ?_; rintro e w' ⟨rfl, rfl⟩)
  go_loopw [18, 6] (fun i c wr => ∃ k : Nat, k ≤ numsF ps.length ∧ i = .int .i64 k ∧ wr.ownsRow w.heap.size 3 1 c (k * 32) ((List.range (k * 32)).map (numAt ps)) ∧ Only [] w wr) (fun i _ _ => numsF ps.length - (intOf i).toNat)
  case atStart => exact ⟨0, by omega, rfl, by simpa using World.ownsRow_nil _ _ _ _, Only.refl _ _⟩
  case round =>
    obtain ⟨k, hk, rfl, hown, ho⟩ := hrel
    by_cases hlt : k < numsF ps.length
    · have hkn : k * 32 < ps.length := by unfold numsF at hlt; omega
      have hk2 : k ≤ 400 := by unfold numsF at hlt; omega
      have o1 : Only [] w wr.drew := ho.drew
      have d1 := HD.out.only o1 (by simp)
      obtain ⟨x0, x1, x2, x3, -⟩ := (HW.out.only o1 (by simp)).cells
      have RD := Lib.hid (read_ok d1 (a + 1 + (k : Int)) (by rw [St.reach, if_neg (by simp [HON.out]), if_neg (by omega)]))
      rw [HH.out.nums k hlt] at RD
      have own1 : wr.drew.ownsRow w.heap.size 3 1 u6 (k * 32) ((List.range (k * 32)).map (numAt ps)) := ownsRow_congr' hown (fun _ _ => rfl)
      have KEEP := Lib.hid (And.intro own1 o1)
      clear hown ho own1 o1 d1
      go_wp2_with fail
      refine wp_region_flowR Lat [0, 0, 0, 1, 0, 0, 0, 1, 0, 0, 0, 2, 0, 0, 0, 0, 0] (by kernel_rfl) (by kernel_rfl) Lat.refl Lat.trans ?_
      refine fr0 rfl (fun _ => rfl) ?_
      simp only [Act.put, List.setIfInBounds_toArray, List.set_cons_succ, List.set_cons_zero]
      refine fr0 rfl (fun _ => rfl) ?_
      simp only [Act.put, List.setIfInBounds_toArray, List.set_cons_succ, List.set_cons_zero]
      refine fr0 rfl (run_field75 (by omega) rfl rfl) ?_
      simp only [Act.put, List.setIfInBounds_toArray, List.set_cons_succ, List.set_cons_zero]
      refine fr1 (u := .pointer (some ⟨b, 0, none⟩)) rfl (fun x hx => run_load1 rfl rfl (hx.cell x0) isAgg25) ?_
      simp only [Act.put, List.setIfInBounds_toArray, List.set_cons_succ, List.set_cons_zero]
      refine fr0 rfl (fun _ => rfl) ?_
      simp only [Act.put, List.setIfInBounds_toArray, List.set_cons_succ, List.set_cons_zero]
      refine fr0 rfl (fun _ => rfl) ?_
      simp only [Act.put, List.setIfInBounds_toArray, List.set_cons_succ, List.set_cons_zero]
      refine fr0 rfl (run_field75 (by omega) rfl rfl) ?_
      simp only [Act.put, List.setIfInBounds_toArray, List.set_cons_succ, List.set_cons_zero]
      refine fr1 (u := .int .i64 a) rfl (fun x hx => run_load1 rfl rfl (hx.cell x1) isAgg3) ?_
      simp only [Act.put, List.setIfInBounds_toArray, List.set_cons_succ, List.set_cons_zero]
      refine fr0 (u := .int .i64 (a + 1)) rfl (run_add (by omega) (by omega) rfl rfl rfl) ?_
      simp only [Act.put, List.setIfInBounds_toArray, List.set_cons_succ, List.set_cons_zero]
      refine fr0 rfl (fun _ => rfl) ?_
      simp only [Act.put, List.setIfInBounds_toArray, List.set_cons_succ, List.set_cons_zero]
      refine fr0 (u := .int .i64 (a + 1 + (k : Int))) rfl (run_add (by omega) (by omega) rfl rfl rfl) ?_
      simp only [Act.put, List.setIfInBounds_toArray, List.set_cons_succ, List.set_cons_zero]
      refine fr2c rfl (run_enter2 Try.call33 rfl rfl rfl) RD.out ?_
      rintro e w2 ⟨rfl, hw2⟩
      refine ⟨_, rfl, by rw [hw2]; exact Lat.alloc _ _, ?_⟩
      simp only [Act.put, List.setIfInBounds_toArray, List.set_cons_succ, List.set_cons_zero]
      refine fr0 (u := .tuple #[.slice (some ⟨wr.drew.heap.size, 0, none⟩) 64 64, .int .i64 0]) rfl (fun _ => rfl) ?_
      simp only [Act.put, List.setIfInBounds_toArray, List.set_cons_succ, List.set_cons_zero]
      refine fr0 (u := .slice (some ⟨wr.drew.heap.size, 0, none⟩) 64 64) rfl (fun _ => rfl) ?_
      simp only [Act.put, List.setIfInBounds_toArray, List.set_cons_succ, List.set_cons_zero]
      refine fr0 (u := .int .i64 0) rfl (fun _ => rfl) ?_
      simp only [Act.put, List.setIfInBounds_toArray, List.set_cons_succ, List.set_cons_zero]
      refine fr0 (u := .slice (some ⟨wr.drew.heap.size, 0, none⟩) 64 64) rfl (fun _ => rfl) ?_
      simp only [Act.put, List.setIfInBounds_toArray, List.set_cons_succ, List.set_cons_zero]
      refine fr0 (u := .int .i64 0) rfl (fun _ => rfl) ?_
      simp only [Act.put, List.setIfInBounds_toArray, List.set_cons_succ, List.set_cons_zero]
      refine frnil ?_
      obtain ⟨fb, hfb, hfd⟩ := numPut_byte a ps k
      have hb2 : w2.heap[wr.drew.heap.size]? = some (.cells (numPut a ps k).2 93 (0, 0)) := by rw [hw2]; exact heap_alloc_last wr.drew _
      have o2 : Only [] w w2 := by rw [hw2]; exact KEEP.out.2.alloc _
      have own2 : w2.ownsRow w.heap.size 3 1 u6 (k * 32) ((List.range (k * 32)).map (numAt ps)) := by rw [hw2]; exact World.ownsRow.alloc KEEP.out.1 _
      have UN := Lib.hid (unpack_any w2 wr.drew.heap.size fb (fun j hj => by rw [cell_of_row _ _ _ _ _ _ hb2]; exact hfb j hj) (Array.getElem?_eq_some_iff.1 hb2).1 hfd)
      clear hw2 RD x0 x1 x2 x3 KEEP hb2
      generalize wr.drew.heap.size = gq at *
      have KEEP2 := Lib.hid (And.intro o2 own2)
      clear o2 own2
      go_wp2_with fail
      refine UN.out.mono ?_
      rintro e w3 ⟨rfl, ⟨A, hbA, hA⟩, o3⟩
      obtain ⟨o2, own2⟩ := KEEP2.out
      have own3 := ownsRow_congr' own2 (w' := w3) (fun g hg => o3.block g (ownsRow_own own2 hg).2.1 (by simp))
      obtain ⟨i0, hi, hz0, hz1, hz2⟩ := info_parts info3a
      have hunp : ∀ j, j < 32 → A[j]? = some (numAt ps (k * 32 + j)) := fun j hj => by
        rw [hA.got j hj]
        have := unp_packed (fun j => secOf ps (k * 32 + j)) (min (k * 32 + 32) ps.length - k * 32) (by omega) (fun j hj => HSEC.out _ (by omega)) (f := fb) (fun j hj => hfb j hj) j hj
        rw [this, numAt]
        by_cases hjm : k * 32 + j < ps.length
        · rw [if_pos (by omega), if_pos hjm]
        · rw [if_neg (by omega), if_neg hjm]
      obtain ⟨v', w', hrun, hown', hgrow, hnil, hloc⟩ := run_append_own_at (P := Try.prog) w3 w.heap.size 40 40 3 i0 _ 1 8 Try.underlying40 hi hz0 hz1 hz2 rfl (by omega)
        u6 _ _ own3 ⟨w2.heap.size, 0, none⟩ 32 32 ((List.range 32).map (fun j => numAt ps (k * 32 + j))) (by simp) (fun j u hu => by
          have hj : j < 32 := by have := (List.getElem?_eq_some_iff.1 hu).1; simpa using this
          simp [hj] at hu
          rw [Addr.add_mid, Nat.zero_add, cell_of_row _ _ _ _ _ _ hbA, hunp j hj, hu]) (fun u hu => by
          obtain ⟨j, _, rfl⟩ := List.mem_map.1 hu
          rfl) (by unfold maxLen; omega) (by omega) (by have := (o2.trans o3 (by simp)).size; exact this)
      have hlist : (List.range (k * 32)).map (numAt ps) ++ (List.range 32).map (fun j => numAt ps (k * 32 + j)) = (List.range ((k + 1) * 32)).map (numAt ps) := by
        rw [show (k + 1) * 32 = k * 32 + 32 by omega, List.range_add, List.map_append, List.map_map]
        rfl
      rw [hlist, show k * 32 + 32 = (k + 1) * 32 by omega] at hown'
      have o4 : Only [] w w' := (o2.trans o3 (by simp)).grown hgrow (fun y hy => .inr (ownsRow_own own3 hy).1)
      have RUN := Lib.hid hrun
      have FIN := Lib.hid (And.intro hown' o4)
      clear hrun hown' o4 hgrow hnil hloc hlist hunp own3 own2 o2 o3 hbA hA UN KEEP2 hi hz0 hz1 hz2
      go_wp2_with (refine wpL_value rfl (run_builtin_append rfl rfl rfl RUN.out) ?_)
      go_roundw
      case rel => exact ⟨k + 1, by omega, by go_num, FIN.out.1, FIN.out.2⟩
      case measure => simp [intOf]; omega
    · have hkl : k = numsF ps.length := by omega
      subst hkl
      have hnn : ps.length ≤ numsF ps.length * 32 := by unfold numsF; omega
      have hn400 : numsF ps.length ≤ 400 := by unfold numsF; omega
      obtain ⟨gn, capn, cur, rfl, hgn, hbn, hcap1, hcap2, hcs, hcur⟩ : ∃ gn capn cur, u6 = .slice (some ⟨gn, 0, none⟩) (numsF ps.length * 32) capn ∧ w.heap.size ≤ gn ∧ wr.heap[gn]? = some (.cells cur 3 (0, 0)) ∧ numsF ps.length * 32 ≤ capn ∧ capn ≤ maxLen ∧ cur.size = capn * 1 ∧ cur.toList.take (numsF ps.length * 32 * 1) = (List.range (numsF ps.length * 32)).map (numAt ps) := by
        rcases hown.2 with ⟨_, e⟩ | ⟨gn, capn, cur, e1, e2, e3, e4, e5, e6, e7⟩
        · omega
        · exact ⟨gn, capn, cur, e1, e2, e3, e4, e5, e6, e7⟩
      have hnum : ∀ j, j < ps.length → cur[j]? = some (.int .i64 (secOf ps j)) := fun j hj => by
        have h1 : (cur.toList.take (numsF ps.length * 32 * 1))[j]? = some (numAt ps j) := by rw [hcur, List.getElem?_map, List.getElem?_range (by omega)]; rfl
        rw [List.getElem?_take_of_lt (by omega)] at h1
        rw [← Array.getElem?_toList, h1, numAt, if_pos hj]
      have o1 : Only [] w wr.drew := ho.drew
      obtain ⟨x0, x1, x2, x3, -⟩ := (HW.out.only o1 (by simp)).cells
      have HNUM := Lib.hid hnum
      have KEEP := Lib.hid (And.intro hbn ho)
      have HCAP := Lib.hid hcap1
      have hcapn : ps.length ≤ capn := by omega
      have hdr : ∀ y : Nat, wr.drew.heap[y]? = wr.heap[y]? := fun _ => rfl
      clear hown ho o1 hbn hcap1 hcap2 hcs hcur hnum
      go_wp2_with fail
      refine wp_region_flowR Lat [0, 0, 0, 1, 0, 0, 1, 0, 0] (by kernel_rfl) (by kernel_rfl) Lat.refl Lat.trans ?_
      refine fr0 (u := .pointer (some ⟨wb, 0, none⟩)) rfl (fun _ => rfl) ?_
      simp only [Act.put, List.setIfInBounds_toArray, List.set_cons_succ, List.set_cons_zero]
      refine fr0 (u := .pointer (some ⟨wb, 0, none⟩)) rfl (fun _ => rfl) ?_
      simp only [Act.put, List.setIfInBounds_toArray, List.set_cons_succ, List.set_cons_zero]
      refine fr0 rfl (run_field75 (by omega) rfl rfl) ?_
      simp only [Act.put, List.setIfInBounds_toArray, List.set_cons_succ, List.set_cons_zero]
      refine fr1 (u := .int .i64 a) rfl (fun x hx => run_load1 rfl rfl (hx.cell x1) isAgg3) ?_
      simp only [Act.put, List.setIfInBounds_toArray, List.set_cons_succ, List.set_cons_zero]
      refine fr0 (u := .int .i64 (a + 1)) rfl (run_add (by omega) (by omega) rfl rfl rfl) ?_
      simp only [Act.put, List.setIfInBounds_toArray, List.set_cons_succ, List.set_cons_zero]
      refine fr0 (u := .int .i64 (ps.length : Int)) rfl (fun _ => rfl) ?_
      simp only [Act.put, List.setIfInBounds_toArray, List.set_cons_succ, List.set_cons_zero]
      refine fr1c (u := .int .i64 (numsF ps.length : Int)) rfl (fun x hx => does_nums (by omega) rfl rfl) ?_
      simp only [Act.put, List.setIfInBounds_toArray, List.set_cons_succ, List.set_cons_zero]
      refine fr0 (u := .int .i64 (a + 1 + (numsF ps.length : Int))) rfl (run_add (by omega) (by omega) rfl rfl rfl) ?_
      simp only [Act.put, List.setIfInBounds_toArray, List.set_cons_succ, List.set_cons_zero]
      refine fr0 (u := .int .i64 (a + 1 + (numsF ps.length : Int))) rfl (fun _ => rfl) ?_
      simp only [Act.put, List.setIfInBounds_toArray, List.set_cons_succ, List.set_cons_zero]
      refine frnil ?_
      have hbn : wr.drew.heap[gn]? = some (.cells cur 3 (0, 0)) := KEEP.out.1
      have ho : Only [] w wr.drew := KEEP.out.2.drew
      clear KEEP x0 x1 x2 x3
      generalize wr.drew = w9 at *
      have KEEP := Lib.hid (And.intro hbn ho)
      clear hbn ho hdr
      go_wp2
      go_loopw [57, 11] (fun i c wr => ∃ k : Nat, k ≤ ps.length ∧ i = .int .i64 k ∧ Built w wr F c (ps.take k) ∧ wr.heap[gn]? = some (.cells cur 3 (0, 0)) ∧ Only [] w wr) (fun i _ _ => ps.length - (intOf i).toNat)
      case atStart => exact ⟨0, by omega, rfl, by simpa using Built.nil w w9 F, KEEP.out.1, KEEP.out.2⟩
      case round =>
        rename World => wq
        obtain ⟨k, hk, rfl, hbl, hbn, ho⟩ := hrel
        by_cases hlt2 : k < ps.length
        · obtain ⟨p, hp⟩ : ∃ p, ps[k]? = some p := ⟨_, List.getElem?_eq_getElem hlt2⟩
          have hcn : wq.cell? ⟨gn, k, none⟩ = some (.int .i64 p.1) := by rw [cell_of_row _ _ _ _ _ _ hbn, HNUM.out k hlt2, (at_of hp).1]
          have d1 := HD.out.only ho (by simp)
          obtain ⟨x0, x1, x2, x3, -⟩ := (HW.out.only ho (by simp)).cells
          have RD := Lib.hid (read_ok d1 (a + 1 + (numsF ps.length : Int) + (k : Int)) (by rw [St.reach, if_neg (by simp [HON.out]), if_neg (by omega)]))
          rw [HH.out.byts k hlt2, (at_of hp).2] at RD
          have hbq := heap_alloc_last wq (.cells p.2 93)
          have oal : Only [] wq (wq.alloc (.cells p.2 93)) := (Only.refl [] wq).alloc _
          have hsrc : Src2 w (wq.alloc (.cells p.2 93)) F (.slice (some ⟨wq.heap.size, 0, none⟩) 64 64) p.2 := ⟨HPB.out p (List.mem_of_getElem? hp), wq.heap.size, 0, 64, rfl, by simp, fun hx => by have := HF.out _ hx; have := ho.size; omega, fun j u hu => by rw [Nat.zero_add, cell_of_row _ _ _ _ _ _ hbq]; simpa using hu, .inr ⟨_, 93, hbq, by decide⟩⟩
          obtain ⟨v3, w3, hrun, hbl3, o3, hk3, hs3⟩ := (hbl.keep oal).append (ho.trans oal (by simp)) (i := p.1) hsrc (by simp; omega) 79
          rw [World.size_alloc] at hrun
          have hbn3 : w3.heap[gn]? = some (.cells cur 3 (0, 0)) := by
            have h2 : (wq.alloc (.cells p.2 93)).heap[gn]? = some (.cells cur 3 (0, 0)) := (oal.block _ (Array.getElem?_eq_some_iff.1 hbn).1 (by simp)).trans hbn
            rw [hk3 _ (Array.getElem?_eq_some_iff.1 h2).1 (fun e => ?_)]
            · exact h2
            · obtain ⟨qs, _, q2, _⟩ := hbl.keep oal
              obtain ⟨_, _, cur', hcur'⟩ := ownsRow_own q2 e
              rw [hcur'] at h2
              simp at h2
          have ht : ps.take k ++ [(p.1, p.2)] = ps.take (k + 1) := by rw [List.take_add_one, hp]; rfl
          rw [ht] at hbl3
          have RUN := Lib.hid hrun
          have FIN := Lib.hid (And.intro hbl3 (And.intro hbn3 o3))
          clear hbl hbn ho d1 x1 x2 x3 hbq oal hsrc hrun hbl3 o3 hk3 hs3 hbn3 ht hp
          go_wp2_with (first | (go_at_call 33; refine RD.out.mono ?_; rintro e w' ⟨rfl, rfl⟩) | (refine wpL_value rfl (run_builtin_append rfl rfl rfl RUN.out) ?_))
          go_roundw
          case rel => exact ⟨k + 1, by omega, by go_num, FIN.out.1, FIN.out.2.1, FIN.out.2.2⟩
          case measure => simp [intOf]; omega
        · have hkl3 : k = ps.length := by omega
          subst hkl3
          rw [List.take_length] at hbl
          have FIN := Lib.hid (And.intro hbl ho)
          clear hbl hbn ho
          go_wp2
          go_ret2
          exact RecPost.mk (FIN.out.1.puts HF.out (by omega)) FIN.out.2

end Go.Proofs.Ytoccnaebckcfmaa
end

section
set_option linter.unusedSimpArgs false
set_option linter.unusedVariables false
set_option maxRecDepth 8000
namespace Go.Proofs.Ytoccnaebckcfmaa
open Go.RowKit

set_option maxHeartbeats 2000000 in
theorem resume_any {w : World} {wb b : Nat} {F : List Nat} {S : St} {a s g : Int} {ps : List (Int × Array Value)} (hd : DAt w b F S) (hw : WalAt w wb b a s g) (hwb : wb ∉ F) (hon : S.on = true) (ha : 0 ≤ a) (hs : 3 ≤ s) (has : a + s ≤ S.n) (hok : GroupOk a s S.n (rawsOf ps)) (hh : Holds S a ps) (hpb : ∀ p ∈ ps, SecOk p.2) (hne : 0 < ps.length) (hg : 0 ≤ g) (hg1 : g ≤ 9223372036854775807)
    (hst : S.steps + ps.length + 100 < 1000000000) (hpd : S.pend.length + ps.length + 100 < 1000000000) :
    Calls Try.prog 61 #[.pointer (some ⟨wb, 0, none⟩), .int .i64 (ps.length : Int)] w fun e w' => e = .returned (.int .i64 (S.finish a s ps g).1) ∧ DPost w w' b F (S.finish a s ps g).2 := by
  have n1 : S.n ≤ 8192 := by obtain ⟨_, _, _, h, _⟩ := hd; exact h.ok.n1
  have hsec : ∀ p ∈ ps, p.1 ≤ 9223372036854775807 := fun p hp => by
    have := (hok.2.1 (p.1, 64) (List.mem_map.2 ⟨p, hp, rfl⟩)).2.1
    simp only at this
    omega
  have RE := Lib.hid (recorded_any hd hw hon ha hs has hok hh hpb hne)
  have KEEP := Lib.hid (And.intro hd (And.intro hw (And.intro hok hsec)))
  clear hd hw hok hh hpb hsec hon
  go_enter Try.func61, Try.ntmps61
  go_wp2_with fail
  refine RE.out.mono ?_
  rintro e w1 ⟨v, rfl, hv, o1⟩
  obtain ⟨ad, cap, rfl, hlen, -⟩ := hv.shape
  obtain ⟨hd, hw, hok, hsec⟩ := KEEP.out
  have VA := Lib.hid (valid_any (hd.only o1 (by simp)) (hw.only o1 (by simp)) (hv.raws hsec) ha (by omega) hs (by omega))
  have HV := Lib.hid (And.intro hv o1)
  clear RE hv o1 hd hw hok hsec
  go_wp2_with fail
  refine VA.out.mono ?_
  rintro e w2 ⟨r, rfl, hr, o2⟩
  obtain ⟨hd, hw, hok, hsec⟩ := KEEP.out
  obtain ⟨hv, o1⟩ := HV.out
  have hrt : r = true := hr.2 hok
  subst hrt
  have o12 := o1.trans o2 (by simp)
  have hw2 := hw.only o12 (by simp)
  obtain ⟨x0, x1, x2, x3, -⟩ := hw2.cells
  have FI := Lib.hid (finish_any (g := g) (hd.only o12 (by simp)) hw2 hwb (hv.only o2 (by simp)) ⟨ha, by omega⟩ ⟨by omega, by omega⟩ ⟨hg, hg1⟩ (by omega) (by omega))
  have HO := Lib.hid o12
  clear VA HV hr o1 o2 o12 hv hd hw hok hsec hw2 KEEP
  go_wp2_with (go_at_call 73; refine FI.out.mono ?_; rintro e w3 ⟨rfl, hp⟩)
  go_ret
  exact ⟨rfl, DPost.trans (HO.out.mono (by simp)) (fun x hx => .inl hx) hp⟩

/-- A log has been opened, and its group completed; or not. -/
def OpenRPost (b : Nat) (F : List Nat) (S : St) (a s g : Int) (ps : List (Int × Array Value)) (w : World) (e : Ending) (w' : World) : Prop :=
  DPost w w' b F (S.finish a s ps g).2 ∧ (((S.finish a s ps g).1 = 0 ∧ ∃ wb, e = .returned (.tuple #[.pointer (some ⟨wb, 0, none⟩), .int .i64 0]) ∧ w.heap.size ≤ wb ∧ WalAt w' wb b a s g) ∨ ((S.finish a s ps g).1 ≠ 0 ∧ e = .returned (.tuple #[.pointer none, .int .i64 (S.finish a s ps g).1])))
theorem OpenRPost.ok {b : Nat} {F : List Nat} {S : St} {a s g : Int} {ps : List (Int × Array Value)} {w w' : World} {wb : Nat} (h : DPost w w' b F (S.finish a s ps g).2) (hz : (S.finish a s ps g).1 = 0) (h1 : w.heap.size ≤ wb) (h2 : WalAt w' wb b a s g) : OpenRPost b F S a s g ps w (.returned (.tuple #[.pointer (some ⟨wb, 0, none⟩), .int .i64 0])) w' := ⟨h, .inl ⟨hz, wb, rfl, h1, h2⟩⟩
theorem OpenRPost.no {b : Nat} {F : List Nat} {S : St} {a s g : Int} {ps : List (Int × Array Value)} {w w' : World} (h : DPost w w' b F (S.finish a s ps g).2) (hz : (S.finish a s ps g).1 ≠ 0) : OpenRPost b F S a s g ps w (.returned (.tuple #[.pointer none, .int .i64 (S.finish a s ps g).1])) w' := ⟨h, .inr ⟨hz, rfl⟩⟩

set_option maxHeartbeats 2000000 in
theorem open_resumed {w : World} {b : Nat} {F : List Nat} {S : St} {a s : Int} {l : List Int} (h : DAt w b F S) (hon : S.on = true) (ha1 : a ≤ 9223372036854775807) (hs1 : s ≤ 9223372036854775807) (hyes : 3 ≤ s ∧ 0 ≤ a ∧ a ≤ S.n - s) (hl : l.length = 64) (hlb : ∀ x ∈ l, 0 ≤ x ∧ x < 256) (hv : (S.now a).getD Z = sec l)
    (heq : decide (l = headLs (rd l 13) (rd l 17) (rd l 21) (rd l 25)) = true) (hat : (rd l 13 != a) = false) (hsz : (rd l 17 != s) = false) {ps : List (Int × Array Value)} (hpz : rd l 25 = (ps.length : Int)) (hrm : rd l 25 ≤ roomF s) (hok : GroupOk a s S.n (rawsOf ps)) (hho : Holds S a ps) (hpb : ∀ p ∈ ps, SecOk p.2) (hne : 0 < ps.length) (hst : S.steps + ps.length + 100 < 1000000000) (hpd : S.pend.length + ps.length + 100 < 1000000000) (hz : (S.finish a s ps (rd l 21)).1 = 0) :
    Calls Try.prog 29 #[.pointer (some ⟨b, 0, none⟩), .int .i64 a, .int .i64 s] w fun e w' => OpenRPost b F S a s (rd l 21) ps w e w' := by
  have n1 : S.n ≤ 8192 := by obtain ⟨_, _, _, h, _⟩ := h; exact h.ok.n1
  have hr : S.reach a = 0 := by rw [St.reach, if_neg (by simp [hon]), if_neg (by omega)]
  have P := possible_any h a s (by omega) ha1 (by omega) hs1
  rw [decide_eq_true hyes] at P
  have P2 := Lib.hid P
  have RD := Lib.hid (read_ok h a hr)
  rw [hv] at RD
  have H := Lib.hid h
  have hblk := heap_alloc_last w (.cells (sec l) 93)
  have PA := Lib.hid (parse_any (w.alloc (.cells (sec l) 93)) w.heap.size 64 (byt l) (fun j hj => by
    rw [cell_of_row _ _ _ _ _ _ hblk]
    exact sec_at _ _ _ (by rw [byt, List.getD_eq_getElem?_getD, List.getElem?_eq_getElem (by omega)]; rfl)) (by simp) (byt_bd hlb))
  rw [parsed_rd] at PA
  have b13 := rd_bd hlb 13
  have b17 := rd_bd hlb 17
  have b21 := rd_bd hlb 21
  have b25 := rd_bd hlb 25
  clear P h hv hblk
  have HEQ := Lib.hid heq
  have HAT := Lib.hid hat
  have HSZ := Lib.hid hsz
  have HPZ := Lib.hid hpz
  have HRM := Lib.hid hrm
  have KP := Lib.hid (And.intro hok (And.intro hho (And.intro hpb hon)))
  have HZ := Lib.hid hz
  clear heq hat hsz hpz hrm hok hho hpb hon hz
  go_enter Try.func29, Try.ntmps29
  go_wp2_with (first | (go_at_call 56; refine P2.out.mono ?_; rintro e w' ⟨rfl, rfl⟩) | (go_at_call 33; refine RD.out.mono ?_; rintro e w' ⟨rfl, rfl⟩) | (go_at_call 57; refine PA.out.mono ?_; rintro e w1 ⟨rfl, o1⟩))
  have o2 : Only [] w (w1.alloc (.cells #[.int .i64 (rd l 13), .int .i64 (rd l 17), .int .i64 (rd l 21), .int .i64 (rd l 25)] 99)) := (((Only.refl [] w).alloc _).trans o1 (by simp)).alloc _
  have hb2 : (w1.alloc (.cells #[.int .i64 (rd l 13), .int .i64 (rd l 17), .int .i64 (rd l 21), .int .i64 (rd l 25)] 99)).heap[w.heap.size]? = some (.cells (sec l) 93 (0, 0)) := by
    have h1 := heap_alloc_last w (.cells (sec l) 93)
    have h2 := (o1.block w.heap.size (by simp) (by simp)).trans h1
    rw [Below.heap_alloc _ _ _ (Array.getElem?_eq_some_iff.1 h2).1]
    exact h2
  have hh2 : (w1.alloc (.cells #[.int .i64 (rd l 13), .int .i64 (rd l 17), .int .i64 (rd l 21), .int .i64 (rd l 25)] 99)).heap[w1.heap.size]? = some (.cells #[.int .i64 (rd l 13), .int .i64 (rd l 17), .int .i64 (rd l 21), .int .i64 (rd l 25)] 99 (0, 0)) := heap_alloc_last w1 _
  generalize w1.alloc (.cells #[.int .i64 (rd l 13), .int .i64 (rd l 17), .int .i64 (rd l 21), .int .i64 (rd l 25)] 99) = w2 at *
  have x0 : w2.drew.cell? ⟨w1.heap.size, 0, none⟩ = some (.int .i64 (rd l 13)) := (cell_of_row w2 _ _ _ _ _ hh2).trans rfl
  have x1 : w2.drew.cell? ⟨w1.heap.size, 1, none⟩ = some (.int .i64 (rd l 17)) := (cell_of_row w2 _ _ _ _ _ hh2).trans rfl
  have x3 : w2.drew.cell? ⟨w1.heap.size, 3, none⟩ = some (.int .i64 (rd l 25)) := (cell_of_row w2 _ _ _ _ _ hh2).trans rfl
  have hh2' : w2.drew.heap[w1.heap.size]? = some (.cells #[.int .i64 (rd l 13), .int .i64 (rd l 17), .int .i64 (rd l 21), .int .i64 (rd l 25)] 99 (0, 0)) := hh2
  have hb2' : w2.drew.heap[w.heap.size]? = some (.cells (sec l) 93 (0, 0)) := hb2
  clear o1
  refine wp_region_flowR Lat [0, 1, 2, 1, 0, 0, 0, 1, 0, 0, 0, 0, 0, 1, 0, 0, 0, 0, 0, 1, 0, 1, 0, 0] (by kernel_rfl) (by kernel_rfl) Lat.refl Lat.trans ?_
  refine fr0 rfl (fun _ => rfl) ?_
  simp only [Act.put, List.setIfInBounds_toArray, List.set_cons_succ, List.set_cons_zero]
  refine fr1 (u := .agg #[.int .i64 (rd l 13), .int .i64 (rd l 17), .int .i64 (rd l 21), .int .i64 (rd l 25)]) rfl (fun x hx => run_load78 rfl rfl (hx.at hh2') rfl) ?_
  simp only [Act.put, List.setIfInBounds_toArray, List.set_cons_succ, List.set_cons_zero]
  refine fr2c rfl (run_enter1 Try.call59 rfl rfl) (bytes_any w2.drew (rd l 13) (rd l 17) (rd l 21) (rd l 25) ⟨b13.1, by omega⟩ ⟨b17.1, by omega⟩ ⟨b21.1, by omega⟩ ⟨b25.1, by omega⟩) ?_
  rintro e w3 ⟨q, rfl, hq, hqb, o3⟩
  rw [headA_sec] at hqb
  refine ⟨_, rfl, o3.lat, ?_⟩
  simp only [Act.put, List.setIfInBounds_toArray, List.set_cons_succ, List.set_cons_zero]
  refine fr1c (u := .bool true) rfl (fun x hx => does_equal hl (headLs_len _ _ _ _) hlb (headLs_bd _ _ _ _) HEQ.out (hx.at (o3.lat.at hb2')) (hx.at hqb) rfl rfl rfl) ?_
  simp only [Act.put, List.setIfInBounds_toArray, List.set_cons_succ, List.set_cons_zero]
  refine fr0 (u := .bool false) rfl (fun w => (run_not (v := true) rfl rfl w).trans rfl) ?_
  simp only [Act.put, List.setIfInBounds_toArray, List.set_cons_succ, List.set_cons_zero]
  refine fr0 (u := .bool false) rfl (fun _ => rfl) ?_
  simp only [Act.put, List.setIfInBounds_toArray, List.set_cons_succ, List.set_cons_zero]
  refine fr0 (by kernel_rfl) (run_field78 (by omega) rfl rfl) ?_
  simp only [Act.put, List.setIfInBounds_toArray, List.set_cons_succ, List.set_cons_zero]
  refine fr1 (u := .int .i64 (rd l 13)) (by kernel_rfl) (fun x hx => run_load1 rfl rfl (hx.cell (o3.lat.cell x0)) isAgg3) ?_
  simp only [Act.put, List.setIfInBounds_toArray, List.set_cons_succ, List.set_cons_zero]
  refine fr0 (by kernel_rfl) (fun _ => rfl) ?_
  simp only [Act.put, List.setIfInBounds_toArray, List.set_cons_succ, List.set_cons_zero]
  refine fr0 (u := .bool false) (by kernel_rfl) (fun w => (run_neq rfl rfl rfl w).trans (by rw [HAT.out])) ?_
  simp only [Act.put, List.setIfInBounds_toArray, List.set_cons_succ, List.set_cons_zero]
  refine fr0 (u := .bool false) rfl (fun _ => rfl) ?_
  simp only [Act.put, List.setIfInBounds_toArray, List.set_cons_succ, List.set_cons_zero]
  refine fr0 (u := .bool false) rfl (fun _ => rfl) ?_
  simp only [Act.put, List.setIfInBounds_toArray, List.set_cons_succ, List.set_cons_zero]
  refine fr0 (by kernel_rfl) (run_field78 (by omega) rfl rfl) ?_
  simp only [Act.put, List.setIfInBounds_toArray, List.set_cons_succ, List.set_cons_zero]
  refine fr1 (u := .int .i64 (rd l 17)) (by kernel_rfl) (fun x hx => run_load1 rfl rfl (hx.cell (o3.lat.cell x1)) isAgg3) ?_
  simp only [Act.put, List.setIfInBounds_toArray, List.set_cons_succ, List.set_cons_zero]
  refine fr0 (by kernel_rfl) (fun _ => rfl) ?_
  simp only [Act.put, List.setIfInBounds_toArray, List.set_cons_succ, List.set_cons_zero]
  refine fr0 (u := .bool false) (by kernel_rfl) (fun w => (run_neq rfl rfl rfl w).trans (by rw [HSZ.out])) ?_
  simp only [Act.put, List.setIfInBounds_toArray, List.set_cons_succ, List.set_cons_zero]
  refine fr0 (u := .bool false) rfl (fun _ => rfl) ?_
  simp only [Act.put, List.setIfInBounds_toArray, List.set_cons_succ, List.set_cons_zero]
  refine fr0 (u := .bool false) rfl (fun _ => rfl) ?_
  simp only [Act.put, List.setIfInBounds_toArray, List.set_cons_succ, List.set_cons_zero]
  refine fr0 (by kernel_rfl) (run_field78 (by omega) rfl rfl) ?_
  simp only [Act.put, List.setIfInBounds_toArray, List.set_cons_succ, List.set_cons_zero]
  refine fr1 (u := .int .i64 (rd l 25)) (by kernel_rfl) (fun x hx => run_load1 rfl rfl (hx.cell (o3.lat.cell x3)) isAgg3) ?_
  simp only [Act.put, List.setIfInBounds_toArray, List.set_cons_succ, List.set_cons_zero]
  refine fr0 (by kernel_rfl) (fun _ => rfl) ?_
  simp only [Act.put, List.setIfInBounds_toArray, List.set_cons_succ, List.set_cons_zero]
  refine fr1c (u := .int .i64 (roomF s)) (by kernel_rfl) (fun x hx => does_room hs1 rfl rfl) ?_
  simp only [Act.put, List.setIfInBounds_toArray, List.set_cons_succ, List.set_cons_zero]
  refine fr0 (u := .bool false) (by kernel_rfl) (fun w => (run_gtr rfl rfl rfl w).trans (by rw [decide_eq_false (Int.not_lt.2 HRM.out)])) ?_
  simp only [Act.put, List.setIfInBounds_toArray, List.set_cons_succ, List.set_cons_zero]
  refine fr0 (u := .bool false) rfl (fun _ => rfl) ?_
  simp only [Act.put, List.setIfInBounds_toArray, List.set_cons_succ, List.set_cons_zero]
  refine frnil ?_
  show Exit.then _ _ _ _ _
  have hO : Only [] w w3 := (o2.drew).trans o3 (by simp)
  have y2 : w3.cell? ⟨w1.heap.size, 2, none⟩ = some (.int .i64 (rd l 21)) := o3.lat.cell ((cell_of_row w2 _ _ _ _ _ hh2).trans rfl)
  have y3 : w3.cell? ⟨w1.heap.size, 3, none⟩ = some (.int .i64 (ps.length : Int)) := by rw [← HPZ.out]; exact o3.lat.cell x3
  have hsz3 : w1.heap.size < w3.heap.size := Nat.lt_of_lt_of_le (Array.getElem?_eq_some_iff.1 hh2').1 o3.size
  have hbx := heap_alloc_last w3 (.cells (wrow b a s (rd l 21)) 104)
  have oX : Only [] w (w3.alloc (.cells (wrow b a s (rd l 21)) 104)) := hO.alloc _
  have hwF : w3.heap.size ∉ F := fun hx => by have := dAt_lt H.out _ hx; have := hO.size; omega
  have RS := Lib.hid (resume_any (H.out.only oX (by simp)) hbx hwF KP.out.2.2.2 hyes.2.1 hyes.1 (by omega) KP.out.1 KP.out.2.1 KP.out.2.2.1 hne b21.1 (by omega) hst hpd)
  have KX := Lib.hid (And.intro oX (And.intro hwF hO.size))
  clear o2 o3 hb2 hb2' hh2 hh2' x0 x1 x3 hqb hbx oX hwF hO
  unfold wrow at RS
  have HZ2 := HZ.out
  go_wp2_with (go_at_call 61; refine RS.out.mono ?_; rintro e w4 ⟨rfl, hp4⟩)
  go_ret2
  obtain ⟨oX, hwF, hsz⟩ := KX.out
  have hwa : WalAt w4 w3.heap.size b a s (rd l 21) := by
    obtain ⟨F4, d4, f4, o4⟩ := hp4
    exact (o4.block _ (by simp) hwF).trans (heap_alloc_last w3 _)
  exact OpenRPost.ok (DPost.trans (oX.mono (by simp)) (fun x hx => .inl hx) hp4) HZ.out hsz hwa

set_option maxHeartbeats 2000000 in
theorem open_fell {w : World} {b : Nat} {F : List Nat} {S : St} {a s : Int} {l : List Int} (h : DAt w b F S) (hon : S.on = true) (ha1 : a ≤ 9223372036854775807) (hs1 : s ≤ 9223372036854775807) (hyes : 3 ≤ s ∧ 0 ≤ a ∧ a ≤ S.n - s) (hl : l.length = 64) (hlb : ∀ x ∈ l, 0 ≤ x ∧ x < 256) (hv : (S.now a).getD Z = sec l)
    (heq : decide (l = headLs (rd l 13) (rd l 17) (rd l 21) (rd l 25)) = true) (hat : (rd l 13 != a) = false) (hsz : (rd l 17 != s) = false) {ps : List (Int × Array Value)} (hpz : rd l 25 = (ps.length : Int)) (hrm : rd l 25 ≤ roomF s) (hok : GroupOk a s S.n (rawsOf ps)) (hho : Holds S a ps) (hpb : ∀ p ∈ ps, SecOk p.2) (hne : 0 < ps.length) (hst : S.steps + ps.length + 100 < 1000000000) (hpd : S.pend.length + ps.length + 100 < 1000000000) (hz : (S.finish a s ps (rd l 21)).1 ≠ 0) :
    Calls Try.prog 29 #[.pointer (some ⟨b, 0, none⟩), .int .i64 a, .int .i64 s] w fun e w' => OpenRPost b F S a s (rd l 21) ps w e w' := by
  have n1 : S.n ≤ 8192 := by obtain ⟨_, _, _, h, _⟩ := h; exact h.ok.n1
  have hr : S.reach a = 0 := by rw [St.reach, if_neg (by simp [hon]), if_neg (by omega)]
  have P := possible_any h a s (by omega) ha1 (by omega) hs1
  rw [decide_eq_true hyes] at P
  have P2 := Lib.hid P
  have RD := Lib.hid (read_ok h a hr)
  rw [hv] at RD
  have H := Lib.hid h
  have hblk := heap_alloc_last w (.cells (sec l) 93)
  have PA := Lib.hid (parse_any (w.alloc (.cells (sec l) 93)) w.heap.size 64 (byt l) (fun j hj => by
    rw [cell_of_row _ _ _ _ _ _ hblk]
    exact sec_at _ _ _ (by rw [byt, List.getD_eq_getElem?_getD, List.getElem?_eq_getElem (by omega)]; rfl)) (by simp) (byt_bd hlb))
  rw [parsed_rd] at PA
  have b13 := rd_bd hlb 13
  have b17 := rd_bd hlb 17
  have b21 := rd_bd hlb 21
  have b25 := rd_bd hlb 25
  clear P h hv hblk
  have HEQ := Lib.hid heq
  have HAT := Lib.hid hat
  have HSZ := Lib.hid hsz
  have HPZ := Lib.hid hpz
  have HRM := Lib.hid hrm
  have KP := Lib.hid (And.intro hok (And.intro hho (And.intro hpb hon)))
  have HZ := Lib.hid hz
  clear heq hat hsz hpz hrm hok hho hpb hon hz
  go_enter Try.func29, Try.ntmps29
  go_wp2_with (first | (go_at_call 56; refine P2.out.mono ?_; rintro e w' ⟨rfl, rfl⟩) | (go_at_call 33; refine RD.out.mono ?_; rintro e w' ⟨rfl, rfl⟩) | (go_at_call 57; refine PA.out.mono ?_; rintro e w1 ⟨rfl, o1⟩))
  have o2 : Only [] w (w1.alloc (.cells #[.int .i64 (rd l 13), .int .i64 (rd l 17), .int .i64 (rd l 21), .int .i64 (rd l 25)] 99)) := (((Only.refl [] w).alloc _).trans o1 (by simp)).alloc _
  have hb2 : (w1.alloc (.cells #[.int .i64 (rd l 13), .int .i64 (rd l 17), .int .i64 (rd l 21), .int .i64 (rd l 25)] 99)).heap[w.heap.size]? = some (.cells (sec l) 93 (0, 0)) := by
    have h1 := heap_alloc_last w (.cells (sec l) 93)
    have h2 := (o1.block w.heap.size (by simp) (by simp)).trans h1
    rw [Below.heap_alloc _ _ _ (Array.getElem?_eq_some_iff.1 h2).1]
    exact h2
  have hh2 : (w1.alloc (.cells #[.int .i64 (rd l 13), .int .i64 (rd l 17), .int .i64 (rd l 21), .int .i64 (rd l 25)] 99)).heap[w1.heap.size]? = some (.cells #[.int .i64 (rd l 13), .int .i64 (rd l 17), .int .i64 (rd l 21), .int .i64 (rd l 25)] 99 (0, 0)) := heap_alloc_last w1 _
  generalize w1.alloc (.cells #[.int .i64 (rd l 13), .int .i64 (rd l 17), .int .i64 (rd l 21), .int .i64 (rd l 25)] 99) = w2 at *
  have x0 : w2.drew.cell? ⟨w1.heap.size, 0, none⟩ = some (.int .i64 (rd l 13)) := (cell_of_row w2 _ _ _ _ _ hh2).trans rfl
  have x1 : w2.drew.cell? ⟨w1.heap.size, 1, none⟩ = some (.int .i64 (rd l 17)) := (cell_of_row w2 _ _ _ _ _ hh2).trans rfl
  have x3 : w2.drew.cell? ⟨w1.heap.size, 3, none⟩ = some (.int .i64 (rd l 25)) := (cell_of_row w2 _ _ _ _ _ hh2).trans rfl
  have hh2' : w2.drew.heap[w1.heap.size]? = some (.cells #[.int .i64 (rd l 13), .int .i64 (rd l 17), .int .i64 (rd l 21), .int .i64 (rd l 25)] 99 (0, 0)) := hh2
  have hb2' : w2.drew.heap[w.heap.size]? = some (.cells (sec l) 93 (0, 0)) := hb2
  clear o1
  refine wp_region_flowR Lat [0, 1, 2, 1, 0, 0, 0, 1, 0, 0, 0, 0, 0, 1, 0, 0, 0, 0, 0, 1, 0, 1, 0, 0] (by kernel_rfl) (by kernel_rfl) Lat.refl Lat.trans ?_
  refine fr0 rfl (fun _ => rfl) ?_
  simp only [Act.put, List.setIfInBounds_toArray, List.set_cons_succ, List.set_cons_zero]
  refine fr1 (u := .agg #[.int .i64 (rd l 13), .int .i64 (rd l 17), .int .i64 (rd l 21), .int .i64 (rd l 25)]) rfl (fun x hx => run_load78 rfl rfl (hx.at hh2') rfl) ?_
  simp only [Act.put, List.setIfInBounds_toArray, List.set_cons_succ, List.set_cons_zero]
  refine fr2c rfl (run_enter1 Try.call59 rfl rfl) (bytes_any w2.drew (rd l 13) (rd l 17) (rd l 21) (rd l 25) ⟨b13.1, by omega⟩ ⟨b17.1, by omega⟩ ⟨b21.1, by omega⟩ ⟨b25.1, by omega⟩) ?_
  rintro e w3 ⟨q, rfl, hq, hqb, o3⟩
  rw [headA_sec] at hqb
  refine ⟨_, rfl, o3.lat, ?_⟩
  simp only [Act.put, List.setIfInBounds_toArray, List.set_cons_succ, List.set_cons_zero]
  refine fr1c (u := .bool true) rfl (fun x hx => does_equal hl (headLs_len _ _ _ _) hlb (headLs_bd _ _ _ _) HEQ.out (hx.at (o3.lat.at hb2')) (hx.at hqb) rfl rfl rfl) ?_
  simp only [Act.put, List.setIfInBounds_toArray, List.set_cons_succ, List.set_cons_zero]
  refine fr0 (u := .bool false) rfl (fun w => (run_not (v := true) rfl rfl w).trans rfl) ?_
  simp only [Act.put, List.setIfInBounds_toArray, List.set_cons_succ, List.set_cons_zero]
  refine fr0 (u := .bool false) rfl (fun _ => rfl) ?_
  simp only [Act.put, List.setIfInBounds_toArray, List.set_cons_succ, List.set_cons_zero]
  refine fr0 (by kernel_rfl) (run_field78 (by omega) rfl rfl) ?_
  simp only [Act.put, List.setIfInBounds_toArray, List.set_cons_succ, List.set_cons_zero]
  refine fr1 (u := .int .i64 (rd l 13)) (by kernel_rfl) (fun x hx => run_load1 rfl rfl (hx.cell (o3.lat.cell x0)) isAgg3) ?_
  simp only [Act.put, List.setIfInBounds_toArray, List.set_cons_succ, List.set_cons_zero]
  refine fr0 (by kernel_rfl) (fun _ => rfl) ?_
  simp only [Act.put, List.setIfInBounds_toArray, List.set_cons_succ, List.set_cons_zero]
  refine fr0 (u := .bool false) (by kernel_rfl) (fun w => (run_neq rfl rfl rfl w).trans (by rw [HAT.out])) ?_
  simp only [Act.put, List.setIfInBounds_toArray, List.set_cons_succ, List.set_cons_zero]
  refine fr0 (u := .bool false) rfl (fun _ => rfl) ?_
  simp only [Act.put, List.setIfInBounds_toArray, List.set_cons_succ, List.set_cons_zero]
  refine fr0 (u := .bool false) rfl (fun _ => rfl) ?_
  simp only [Act.put, List.setIfInBounds_toArray, List.set_cons_succ, List.set_cons_zero]
  refine fr0 (by kernel_rfl) (run_field78 (by omega) rfl rfl) ?_
  simp only [Act.put, List.setIfInBounds_toArray, List.set_cons_succ, List.set_cons_zero]
  refine fr1 (u := .int .i64 (rd l 17)) (by kernel_rfl) (fun x hx => run_load1 rfl rfl (hx.cell (o3.lat.cell x1)) isAgg3) ?_
  simp only [Act.put, List.setIfInBounds_toArray, List.set_cons_succ, List.set_cons_zero]
  refine fr0 (by kernel_rfl) (fun _ => rfl) ?_
  simp only [Act.put, List.setIfInBounds_toArray, List.set_cons_succ, List.set_cons_zero]
  refine fr0 (u := .bool false) (by kernel_rfl) (fun w => (run_neq rfl rfl rfl w).trans (by rw [HSZ.out])) ?_
  simp only [Act.put, List.setIfInBounds_toArray, List.set_cons_succ, List.set_cons_zero]
  refine fr0 (u := .bool false) rfl (fun _ => rfl) ?_
  simp only [Act.put, List.setIfInBounds_toArray, List.set_cons_succ, List.set_cons_zero]
  refine fr0 (u := .bool false) rfl (fun _ => rfl) ?_
  simp only [Act.put, List.setIfInBounds_toArray, List.set_cons_succ, List.set_cons_zero]
  refine fr0 (by kernel_rfl) (run_field78 (by omega) rfl rfl) ?_
  simp only [Act.put, List.setIfInBounds_toArray, List.set_cons_succ, List.set_cons_zero]
  refine fr1 (u := .int .i64 (rd l 25)) (by kernel_rfl) (fun x hx => run_load1 rfl rfl (hx.cell (o3.lat.cell x3)) isAgg3) ?_
  simp only [Act.put, List.setIfInBounds_toArray, List.set_cons_succ, List.set_cons_zero]
  refine fr0 (by kernel_rfl) (fun _ => rfl) ?_
  simp only [Act.put, List.setIfInBounds_toArray, List.set_cons_succ, List.set_cons_zero]
  refine fr1c (u := .int .i64 (roomF s)) (by kernel_rfl) (fun x hx => does_room hs1 rfl rfl) ?_
  simp only [Act.put, List.setIfInBounds_toArray, List.set_cons_succ, List.set_cons_zero]
  refine fr0 (u := .bool false) (by kernel_rfl) (fun w => (run_gtr rfl rfl rfl w).trans (by rw [decide_eq_false (Int.not_lt.2 HRM.out)])) ?_
  simp only [Act.put, List.setIfInBounds_toArray, List.set_cons_succ, List.set_cons_zero]
  refine fr0 (u := .bool false) rfl (fun _ => rfl) ?_
  simp only [Act.put, List.setIfInBounds_toArray, List.set_cons_succ, List.set_cons_zero]
  refine frnil ?_
  show Exit.then _ _ _ _ _
  have hO : Only [] w w3 := (o2.drew).trans o3 (by simp)
  have y2 : w3.cell? ⟨w1.heap.size, 2, none⟩ = some (.int .i64 (rd l 21)) := o3.lat.cell ((cell_of_row w2 _ _ _ _ _ hh2).trans rfl)
  have y3 : w3.cell? ⟨w1.heap.size, 3, none⟩ = some (.int .i64 (ps.length : Int)) := by rw [← HPZ.out]; exact o3.lat.cell x3
  have hsz3 : w1.heap.size < w3.heap.size := Nat.lt_of_lt_of_le (Array.getElem?_eq_some_iff.1 hh2').1 o3.size
  have hbx := heap_alloc_last w3 (.cells (wrow b a s (rd l 21)) 104)
  have oX : Only [] w (w3.alloc (.cells (wrow b a s (rd l 21)) 104)) := hO.alloc _
  have hwF : w3.heap.size ∉ F := fun hx => by have := dAt_lt H.out _ hx; have := hO.size; omega
  have RS := Lib.hid (resume_any (H.out.only oX (by simp)) hbx hwF KP.out.2.2.2 hyes.2.1 hyes.1 (by omega) KP.out.1 KP.out.2.1 KP.out.2.2.1 hne b21.1 (by omega) hst hpd)
  have KX := Lib.hid (And.intro oX (And.intro hwF hO.size))
  clear o2 o3 hb2 hb2' hh2 hh2' x0 x1 x3 hqb hbx oX hwF hO
  unfold wrow at RS
  have HZ2 := HZ.out
  go_wp2_with (go_at_call 61; refine RS.out.mono ?_; rintro e w4 ⟨rfl, hp4⟩)
  go_ret2
  obtain ⟨oX, hwF, hsz⟩ := KX.out
  exact OpenRPost.no (DPost.trans (oX.mono (by simp)) (fun x hx => .inl hx) hp4) HZ.out

end Go.Proofs.Ytoccnaebckcfmaa
end

section
set_option linter.unusedSimpArgs false
set_option linter.unusedVariables false
namespace Go.Proofs.Ytoccnaebckcfmaa

/-- What a sector reads as; what it reads as behind a boot that keeps nothing. -/
def St.look (S : St) (x : Int) : Array Value := (S.now x).getD Z
def St.sureLook (S : St) (x : Int) : Array Value := (S.base x).getD Z

theorem sureLook_write (S : St) (i : Int) (v : Array Value) (x : Int) : (S.write i v).sureLook x = S.sureLook x := by
  unfold St.sureLook St.base
  change (((if (S.sure i).isSome = true then S.sure else updF S.sure i ((S.now i).getD Z)) x).or (updF S.now i v x)).getD Z = ((S.sure x).or (S.now x)).getD Z
  by_cases hs : (S.sure i).isSome = true
  · rw [if_pos hs]
    by_cases hx : x = i
    · subst hx
      obtain ⟨s, hs'⟩ := Option.isSome_iff_exists.1 hs
      rw [hs']
      rfl
    · rw [updF, if_neg hx]
  · rw [if_neg hs]
    by_cases hx : x = i
    · subst hx
      have hn : S.sure x = none := by simpa using hs
      rw [hn]
      simp [updF]
    · simp only [updF, if_neg hx]

theorem bootF_look (base : Int → Option (Array Value)) (keep : List Int) (pend : List (Int × Array Value)) (x : Int) : ∀ j, (bootF base keep pend j x).getD Z = (base x).getD Z ∨ ∃ p ∈ pend, p.1 = x ∧ (bootF base keep pend j x).getD Z = p.2
  | 0 => .inl rfl
  | j + 1 => by
    have ih := bootF_look base keep pend x j
    cases hp : pend[j]? with
    | none => rw [bootF_none hp]; exact ih
    | some p =>
      rw [bootF_some hp]
      split
      · unfold updF
        split
        · rename_i hx
          exact .inr ⟨p, List.mem_of_getElem? hp, hx.symm, rfl⟩
        · exact ih
      · exact ih

theorem booted_look (S : St) (keep : List Int) (x : Int) : (S.booted keep).look x = S.sureLook x ∨ ∃ p ∈ S.pend, p.1 = x ∧ (S.booted keep).look x = p.2 := bootF_look S.base keep S.pend x S.pend.length

/-- On, nothing pending. -/
structure Calm (S : St) : Prop where
  on : S.on = true
  pend : S.pend = []
  sure : S.sure = fun _ => none
theorem Calm.sureLook {S : St} (h : Calm S) (x : Int) : S.sureLook x = S.look x := by
  unfold St.sureLook St.base St.look
  rw [h.sure]
  rfl
theorem calm_booted (S : St) (keep : List Int) : Calm (S.booted keep) := ⟨rfl, rfl, rfl⟩
theorem calm_quiet (n k : Int) (f : Int → Option (Array Value)) : Calm (quiet n k f) := ⟨rfl, rfl, rfl⟩

/-- Fallen: behind any boot each sector is as in S0, or has the bytes of one of the writes P. -/
structure Fell (S0 S : St) (P : List (Int × Array Value)) : Prop where
  off : S.on = false
  n : S.n = S0.n
  look : ∀ x, S.sureLook x = S0.look x
  pend : ∀ p ∈ S.pend, p ∈ P
theorem Fell.boot {S0 S : St} {P : List (Int × Array Value)} (h : Fell S0 S P) (keep : List Int) (x : Int) : (S.booted keep).look x = S0.look x ∨ ∃ p ∈ P, p.1 = x ∧ (S.booted keep).look x = p.2 := by
  rcases booted_look S keep x with e | ⟨p, hp, e1, e2⟩
  · exact .inl (e.trans (h.look x))
  · exact .inr ⟨p, h.pend p hp, e1, e2⟩

theorem writes_out (S0 : St) (P : List (Int × Array Value)) : ∀ (ps : List (Int × Array Value)) (S : St), S.on = true → S.n = S0.n → (∀ x, S.sureLook x = S0.look x) → (∀ p ∈ S.pend, p ∈ P) → (∀ p ∈ ps, p ∈ P) → (∀ p ∈ ps, 0 ≤ p.1 ∧ p.1 < S0.n) →
    ((S.writes ps).1 = 0 ∧ (S.writes ps).2.on = true ∧ (S.writes ps).2.n = S0.n ∧ (∀ x, (S.writes ps).2.sureLook x = S0.look x) ∧ (∀ p ∈ (S.writes ps).2.pend, p ∈ P) ∧ (S.writes ps).2.now = putAll S.now ps) ∨
    ((S.writes ps).1 = 2 ∧ Fell S0 (S.writes ps).2 P)
  | [], S, h1, h2, h3, h4, _, _ => .inl ⟨rfl, h1, h2, h3, h4, rfl⟩
  | p :: ps, S, h1, h2, h3, h4, h5, h6 => by
    have hp := h6 p (by simp)
    have hr : S.reach p.1 = 0 := by rw [St.reach, if_neg (by simp [h1]), if_neg (by omega)]
    by_cases hf : S.fuse = 0
    · have hw : S.doWrite p.1 p.2 = (2, S.fallen) := by rw [St.doWrite, if_neg (by simp [hr]), if_pos hf]
      rw [St.writes, hw, if_neg (by simp)]
      exact .inr ⟨rfl, rfl, h2, h3, h4⟩
    · have hw : S.doWrite p.1 p.2 = (0, S.write p.1 p.2) := by rw [St.doWrite, if_neg (by simp [hr]), if_neg hf]
      rw [St.writes, hw, if_pos rfl]
      have ih := writes_out S0 P ps (S.write p.1 p.2) (by simp [St.write, St.written, St.kept, St.stepped, h1]) (by simp [St.write, St.written, St.kept, St.stepped, h2]) (fun x => (sureLook_write S p.1 p.2 x).trans (h3 x)) (fun q hq => by
        simp only [St.write, St.written, St.kept, St.stepped, List.mem_append, List.mem_singleton] at hq
        rcases hq with hq | hq
        · exact h4 q hq
        · rw [hq]; exact h5 p (by simp)) (fun q hq => h5 q (by simp [hq])) (fun q hq => h6 q (by simp [hq]))
      rcases ih with ⟨e1, e2, e3, e4, e5, e6⟩ | ih
      · exact .inl ⟨e1, e2, e3, e4, e5, by rw [e6]; rfl⟩
      · exact .inr ih

/-- What comes of writes and a barrier behind them. -/
theorem writeAll_out {S : St} (h : Calm S) (ps : List (Int × Array Value)) (hps : ∀ p ∈ ps, 0 ≤ p.1 ∧ p.1 < S.n) :
    ((S.writeAll ps).1 = 0 ∧ Calm (S.writeAll ps).2 ∧ (S.writeAll ps).2.n = S.n ∧ (S.writeAll ps).2.now = putAll S.now ps) ∨ ((S.writeAll ps).1 = 2 ∧ Fell S (S.writeAll ps).2 ps) := by
  have key := writes_out S ps ps S h.on rfl h.sureLook (by rw [h.pend]; simp) (fun _ hp => hp) hps
  unfold St.writeAll
  rcases key with ⟨e1, e2, e3, e4, e5, e6⟩ | ⟨e1, e2⟩
  · rw [if_pos e1]
    generalize (S.writes ps).2 = T at *
    unfold St.doBarrier
    rw [if_neg (by simp [e2])]
    by_cases hf : T.fuse = 0
    · rw [if_pos hf]
      exact .inr ⟨rfl, rfl, e3, e4, e5⟩
    · rw [if_neg hf]
      exact .inl ⟨rfl, ⟨e2, rfl, rfl⟩, e3, e6⟩
  · rw [if_neg (by omega)]
    exact .inr ⟨e1, e2⟩

end Go.Proofs.Ytoccnaebckcfmaa
end

section
set_option linter.unusedSimpArgs false
set_option linter.unusedVariables false
namespace Go.Proofs.Ytoccnaebckcfmaa

/-- The sectors f behind the group ps. -/
def updL (f : Int → Array Value) (ps : List (Int × Array Value)) (x : Int) : Array Value := (putAll (fun _ => none) ps x).getD (f x)
theorem updL_at {f : Int → Array Value} {ps : List (Int × Array Value)} (hn : (ps.map (·.1)).Nodup) {p : Int × Array Value} (hp : p ∈ ps) : updL f ps p.1 = p.2 := by
  rw [updL, putAll_at hn hp]; rfl
theorem updL_other {f : Int → Array Value} {ps : List (Int × Array Value)} {x : Int} (h : ∀ p ∈ ps, p.1 ≠ x) : updL f ps x = f x := by
  rw [updL, putAll_other h]; rfl

/-- A log with n groups, none in progress; the other sectors are f. -/
structure LogIs (S : St) (a s n N : Int) (f : Int → Array Value) : Prop where
  calm : Calm S
  dn : S.n = N
  head : S.look a = headA a s n 0
  rest : ∀ x, (x < a ∨ a + s ≤ x) → S.look x = f x
/-- A log with n groups, and the group ps in progress. -/
structure LogBusy (S : St) (a s n N : Int) (f : Int → Array Value) (ps : List (Int × Array Value)) : Prop where
  calm : Calm S
  dn : S.n = N
  head : S.look a = headA a s (n + 1) ps.length
  holds : Holds S a ps
  rest : ∀ x, (x < a ∨ a + s ≤ x) → S.look x = f x ∨ ∃ p ∈ ps, p.1 = x ∧ S.look x = p.2
/-- One of them. -/
def LogOut (S : St) (a s n N : Int) (f : Int → Array Value) (ps : List (Int × Array Value)) : Prop := LogIs S a s n N f ∨ LogBusy S a s n N f ps ∨ LogIs S a s (n + 1) N (updL f ps)

/-- Where a group lies. -/
structure GFits (a s N : Int) (ps : List (Int × Array Value)) : Prop where
  a0 : 0 ≤ a
  s3 : 3 ≤ s
  aN : a + s ≤ N
  len : 1 + (numsF ps.length : Int) + ps.length ≤ s
  outside : ∀ p ∈ ps, 0 ≤ p.1 ∧ p.1 < N ∧ (p.1 < a ∨ a + s ≤ p.1)
  nodup : (ps.map (·.1)).Nodup
theorem gfits_of {a s N : Int} {ps : List (Int × Array Value)} (a0 : 0 ≤ a) (s3 : 3 ≤ s) (aN : a + s ≤ N) (hok : GroupOk a s N (rawsOf ps)) : GFits a s N ps := by
  refine ⟨a0, s3, aN, room_fits s3 (by have := hok.1; simpa [rawsOf] using this), fun p hp => ?_, by have := hok.2.2; rw [rawsOf, List.map_map] at this; exact this⟩
  have h := hok.2.1 (p.1, 64) (List.mem_map.2 ⟨p, hp, rfl⟩)
  have h1 := h.1
  have h2 := h.2.1
  have h3 := h.2.2.1
  simp only at h1 h2 h3
  exact ⟨h1, h2, by omega⟩

theorem look_now {S T : St} {f : Int → Option (Array Value)} {x : Int} (h : T.now = f) (e : f x = S.now x) : T.look x = S.look x := by unfold St.look; rw [h, e]

theorem copies_nodup (a : Int) (ps : List (Int × Array Value)) : ((copiesL a ps).map (·.1)).Nodup := by
  rw [copiesL, List.map_append, List.map_map, List.map_map, List.nodup_append]
  refine ⟨?_, ?_, ?_⟩
  · rw [List.nodup_iff_pairwise_ne, List.pairwise_map]
    exact (List.nodup_iff_pairwise_ne.1 List.nodup_range).imp (fun hne e => hne (by simp [numPut] at e; omega))
  · rw [List.nodup_iff_pairwise_ne, List.pairwise_map]
    exact (List.nodup_iff_pairwise_ne.1 List.nodup_range).imp (fun hne e => hne (by simp [bytPut] at e; omega))
  · intro x hx y hy e
    obtain ⟨i, hi, rfl⟩ := List.mem_map.1 hx
    obtain ⟨j, hj, rfl⟩ := List.mem_map.1 hy
    have := List.mem_range.1 hi
    simp [numPut, bytPut] at e
    omega

/-- Behind copies the log holds the group. -/
theorem holds_copies {S T : St} {a : Int} {ps : List (Int × Array Value)} (h : T.now = putAll S.now (copiesL a ps)) : Holds T a ps := by
  refine ⟨fun i hi => ?_, fun i hi => ?_⟩
  · have hm : numPut a ps i ∈ copiesL a ps := List.mem_append.2 (.inl (List.mem_map.2 ⟨i, List.mem_range.2 hi, rfl⟩))
    have := putAll_at (f := S.now) (copies_nodup a ps) hm
    rw [h]
    show (putAll S.now (copiesL a ps) (numPut a ps i).1).getD Z = _
    rw [this]
    rfl
  · have hm : bytPut a ps i ∈ copiesL a ps := List.mem_append.2 (.inr (List.mem_map.2 ⟨i, List.mem_range.2 hi, rfl⟩))
    have := putAll_at (f := S.now) (copies_nodup a ps) hm
    rw [h]
    show (putAll S.now (copiesL a ps) (bytPut a ps i).1).getD Z = _
    rw [this]
    rfl
theorem Holds.of_look {S T : St} {a : Int} {ps : List (Int × Array Value)} (h : Holds S a ps) (e : ∀ x, a < x → x < a + 1 + numsF ps.length + ps.length → T.look x = S.look x) : Holds T a ps :=
  ⟨fun i hi => (e _ (by omega) (by omega)).trans (h.nums i hi), fun i hi => (e _ (by omega) (by omega)).trans (h.byts i hi)⟩

/-- The group's sectors, and the head that forgets it. -/
theorem finish_out {S : St} {a s n N : Int} {f : Int → Array Value} {ps : List (Int × Array Value)} (hf : GFits a s N ps) (h : LogBusy S a s n N f ps) :
    ((S.finish a s ps (n + 1)).1 = 0 ∧ LogIs (S.finish a s ps (n + 1)).2 a s (n + 1) N (updL f ps)) ∨ ((S.finish a s ps (n + 1)).1 = 2 ∧ (S.finish a s ps (n + 1)).2.on = false ∧ ∀ keep, LogOut ((S.finish a s ps (n + 1)).2.booted keep) a s n N f ps) := by
  have hin : ∀ p ∈ ps, 0 ≤ p.1 ∧ p.1 < S.n := fun p hp => by have := hf.outside p hp; rw [h.dn]; exact ⟨this.1, this.2.1⟩
  have hps : ∀ p ∈ ps, p.1 ≠ a := fun p hp => by have := hf.outside p hp; have := hf.s3; omega
  unfold St.finish
  generalize hH0 : headA a s (n + 1) 0 = H0
  rcases writeAll_out h.calm ps hin with ⟨e1, c1, n1, w1⟩ | ⟨e1, fe⟩
  · rw [if_pos e1]
    generalize (S.writeAll ps).2 = T at *
    have hin2 : ∀ p ∈ [(a, H0)], 0 ≤ (p : Int × Array Value).1 ∧ p.1 < T.n := fun p hp => by
      rw [List.mem_singleton.1 hp, n1, h.dn]
      have := hf.a0
      have := hf.s3
      have := hf.aN
      exact ⟨by simp only; omega, by simp only; omega⟩
    have lT : ∀ x, (∀ p ∈ ps, p.1 ≠ x) → T.look x = S.look x := fun x hx => look_now w1 (putAll_other hx)
    have lP : ∀ p ∈ ps, T.look p.1 = p.2 := fun p hp => by unfold St.look; rw [w1, putAll_at hf.nodup hp, Option.getD_some]
    have lR : ∀ x, (x < a ∨ a + s ≤ x) → T.look x = updL f ps x := fun x hx => by
      by_cases hm : ∃ p ∈ ps, p.1 = x
      · obtain ⟨p, hp, rfl⟩ := hm
        rw [lP p hp, updL_at hf.nodup hp]
      · have hno : ∀ p ∈ ps, p.1 ≠ x := fun p hp e => hm ⟨p, hp, e⟩
        rw [lT x hno, updL_other hno]
        rcases h.rest x hx with e | ⟨p, hp, e, _⟩
        · exact e
        · exact absurd e (hno p hp)
    have s3 := hf.s3
    have len := hf.len
    rcases writeAll_out c1 _ hin2 with ⟨e2, c2, n2, w2⟩ | ⟨e2, fe2⟩
    · refine .inl ⟨e2, c2, by rw [n2, n1, h.dn], ?_, fun x hx => ?_⟩
      · unfold St.look; rw [w2, putAll_one, updF, if_pos rfl, Option.getD_some, hH0]
      · rw [look_now (S := T) w2 (by rw [putAll_one, updF, if_neg (by omega)])]
        exact lR x hx
    · refine .inr ⟨e2, fe2.off, fun keep => ?_⟩
      have hlk := fe2.boot keep
      have hother : ∀ x, x ≠ a → ((T.writeAll [(a, H0)]).2.booted keep).look x = T.look x := fun x hx => by
        rcases hlk x with e | ⟨p, hp, e, _⟩
        · exact e
        · rw [List.mem_singleton.1 hp] at e; exact absurd e.symm hx
      have hrest : ∀ x, (x < a ∨ a + s ≤ x) → ((T.writeAll [(a, H0)]).2.booted keep).look x = updL f ps x := fun x hx => (hother x (by omega)).trans (lR x hx)
      have hdn : ((T.writeAll [(a, H0)]).2.booted keep).n = N := (fe2.n.trans n1).trans h.dn
      rcases hlk a with e | ⟨p, hp, _, e⟩
      · refine .inr (.inl ⟨calm_booted _ _, hdn, e.trans ((lT a hps).trans h.head), h.holds.of_look (fun x h1 h2 => (hother x (by omega)).trans (lT x (fun p hp e => by have := hf.outside p hp; omega))), fun x hx => ?_⟩)
        rw [hrest x hx]
        by_cases hm : ∃ p ∈ ps, p.1 = x
        · obtain ⟨p, hp, rfl⟩ := hm
          exact .inr ⟨p, hp, rfl, updL_at hf.nodup hp⟩
        · exact .inl (updL_other (fun p hp e => hm ⟨p, hp, e⟩))
      · rw [List.mem_singleton.1 hp] at e
        exact .inr (.inr ⟨calm_booted _ _, hdn, e.trans hH0.symm, hrest⟩)
  · rw [if_neg (by omega)]
    refine .inr ⟨e1, fe.off, fun keep => .inr (.inl ?_)⟩
    have hlk := fe.boot keep
    have s3 := hf.s3
    have len := hf.len
    have hother : ∀ x, (∀ p ∈ ps, p.1 ≠ x) → ((S.writeAll ps).2.booted keep).look x = S.look x := fun x hx => by
      rcases hlk x with e | ⟨p, hp, e, _⟩
      · exact e
      · exact absurd e (hx p hp)
    refine ⟨calm_booted _ _, fe.n.trans h.dn, (hother a hps).trans h.head, h.holds.of_look (fun x h1 h2 => hother x (fun p hp e => by have := hf.outside p hp; omega)), fun x hx => ?_⟩
    rcases hlk x with e | ⟨p, hp, e1, e2⟩
    · rw [e]; exact h.rest x hx
    · exact .inr ⟨p, hp, e1, e2⟩

end Go.Proofs.Ytoccnaebckcfmaa
end

section
set_option linter.unusedSimpArgs false
set_option linter.unusedVariables false
namespace Go.Proofs.Ytoccnaebckcfmaa

theorem commit_out {S : St} {a s n N : Int} {f : Int → Array Value} {ps : List (Int × Array Value)} (hf : GFits a s N ps) (h : LogIs S a s n N f) :
    ((S.commit a s n ps).e = 0 ∧ (S.commit a s n ps).g = n + 1 ∧ LogIs (S.commit a s n ps).st a s (n + 1) N (updL f ps)) ∨ ((S.commit a s n ps).e = 2 ∧ (S.commit a s n ps).g = n ∧ (S.commit a s n ps).st.on = false ∧ ∀ keep, LogOut ((S.commit a s n ps).st.booted keep) a s n N f ps) := by
  have a0 := hf.a0
  have s3 := hf.s3
  have aN := hf.aN
  have len := hf.len
  have hcp : ∀ p ∈ copiesL a ps, a < p.1 ∧ p.1 < a + s := fun p hp => by have := copies_in hp; omega
  have hin : ∀ p ∈ copiesL a ps, 0 ≤ p.1 ∧ p.1 < S.n := fun p hp => by have := hcp p hp; rw [h.dn]; omega
  unfold St.commit
  generalize hH1 : headA a s (n + 1) (ps.length : Int) = H1
  rcases writeAll_out h.calm _ hin with ⟨e1, c1, n1, w1⟩ | ⟨e1, fe⟩
  · rw [if_neg (by simp [e1])]
    have ho1 := holds_copies w1
    generalize (S.writeAll (copiesL a ps)).2 = T at *
    have lT : ∀ x, (x ≤ a ∨ a + s ≤ x) → T.look x = S.look x := fun x hx => look_now w1 (putAll_other (fun p hp e => by have := hcp p hp; omega))
    have hin2 : ∀ p ∈ [(a, H1)], 0 ≤ (p : Int × Array Value).1 ∧ p.1 < T.n := fun p hp => by
      rw [List.mem_singleton.1 hp, n1, h.dn]
      exact ⟨by simp only; omega, by simp only; omega⟩
    rcases writeAll_out c1 _ hin2 with ⟨e2, c2, n2, w2⟩ | ⟨e2, fe2⟩
    · rw [if_neg (by simp [e2])]
      generalize (T.writeAll [(a, H1)]).2 = U at *
      have lU : ∀ x, x ≠ a → U.look x = T.look x := fun x hx => look_now w2 (by rw [putAll_one, updF, if_neg hx])
      have busy : LogBusy U a s n N f ps := by
        refine ⟨c2, by rw [n2, n1, h.dn], ?_, ho1.of_look (fun x h1 h2 => lU x (by omega)), fun x hx => .inl ?_⟩
        · unfold St.look; rw [w2, putAll_one, updF, if_pos rfl, Option.getD_some, hH1]
        · rw [lU x (by omega), lT x (by omega)]; exact h.rest x hx
      rcases finish_out hf busy with ⟨e3, l3⟩ | ⟨e3, o3, l3⟩
      · rw [if_neg (by simp [e3])]
        exact .inl ⟨rfl, rfl, l3⟩
      · rw [if_pos (by rw [e3]; omega)]
        exact .inr ⟨e3, rfl, o3, l3⟩
    · rw [if_pos (by rw [e2]; omega)]
      refine .inr ⟨e2, rfl, fe2.off, fun keep => ?_⟩
      have hlk := fe2.boot keep
      have hother : ∀ x, x ≠ a → ((T.writeAll [(a, H1)]).2.booted keep).look x = T.look x := fun x hx => by
        rcases hlk x with e | ⟨p, hp, e, _⟩
        · exact e
        · rw [List.mem_singleton.1 hp] at e; exact absurd e.symm hx
      have hrest : ∀ x, (x < a ∨ a + s ≤ x) → ((T.writeAll [(a, H1)]).2.booted keep).look x = f x := fun x hx => by rw [hother x (by omega), lT x (by omega)]; exact h.rest x hx
      have hdn : ((T.writeAll [(a, H1)]).2.booted keep).n = N := (fe2.n.trans n1).trans h.dn
      rcases hlk a with e | ⟨p, hp, _, e⟩
      · exact .inl ⟨calm_booted _ _, hdn, e.trans ((lT a (by omega)).trans h.head), hrest⟩
      · rw [List.mem_singleton.1 hp] at e
        exact .inr (.inl ⟨calm_booted _ _, hdn, e.trans hH1.symm, ho1.of_look (fun x h1 h2 => hother x (by omega)), fun x hx => .inl (hrest x hx)⟩)
  · rw [if_pos (by rw [e1]; omega)]
    refine .inr ⟨e1, rfl, fe.off, fun keep => .inl ?_⟩
    have hlk := fe.boot keep
    have hother : ∀ x, (x ≤ a ∨ a + s ≤ x) → ((S.writeAll (copiesL a ps)).2.booted keep).look x = S.look x := fun x hx => by
      rcases hlk x with e | ⟨p, hp, e, _⟩
      · exact e
      · have := hcp p hp; omega
    exact ⟨calm_booted _ _, fe.n.trans h.dn, (hother a (by omega)).trans h.head, fun x hx => (hother x (by omega)).trans (h.rest x hx)⟩

/-- A log formatted anew: the new one; or, behind a crash, the old one or the new one. -/
theorem format_out {S : St} {a s n N : Int} {f : Int → Array Value} (a0 : 0 ≤ a) (s3 : 3 ≤ s) (aN : a + s ≤ N) (h : LogIs S a s n N f) :
    ((S.writeAll [(a, headA a s 0 0)]).1 = 0 ∧ LogIs (S.writeAll [(a, headA a s 0 0)]).2 a s 0 N f) ∨ ((S.writeAll [(a, headA a s 0 0)]).1 = 2 ∧ (S.writeAll [(a, headA a s 0 0)]).2.on = false ∧ ∀ keep, LogIs ((S.writeAll [(a, headA a s 0 0)]).2.booted keep) a s n N f ∨ LogIs ((S.writeAll [(a, headA a s 0 0)]).2.booted keep) a s 0 N f) := by
  generalize hH : headA a s 0 0 = H
  have hin : ∀ p ∈ [(a, H)], 0 ≤ (p : Int × Array Value).1 ∧ p.1 < S.n := fun p hp => by
    rw [List.mem_singleton.1 hp, h.dn]
    exact ⟨by simp only; omega, by simp only; omega⟩
  rcases writeAll_out h.calm _ hin with ⟨e2, c2, n2, w2⟩ | ⟨e2, fe2⟩
  · refine .inl ⟨e2, c2, n2.trans h.dn, ?_, fun x hx => ?_⟩
    · unfold St.look; rw [w2, putAll_one, updF, if_pos rfl, Option.getD_some, hH]
    · rw [look_now (S := S) w2 (by rw [putAll_one, updF, if_neg (by omega)])]
      exact h.rest x hx
  · refine .inr ⟨e2, fe2.off, fun keep => ?_⟩
    have hlk := fe2.boot keep
    have hrest : ∀ x, (x < a ∨ a + s ≤ x) → ((S.writeAll [(a, H)]).2.booted keep).look x = f x := fun x hx => by
      rcases hlk x with e | ⟨p, hp, e, _⟩
      · exact e.trans (h.rest x hx)
      · rw [List.mem_singleton.1 hp] at e; simp only at e; omega
    rcases hlk a with e | ⟨p, hp, _, e⟩
    · exact .inl ⟨calm_booted _ _, fe2.n.trans h.dn, e.trans h.head, hrest⟩
    · rw [List.mem_singleton.1 hp] at e
      exact .inr ⟨calm_booted _ _, fe2.n.trans h.dn, e.trans hH.symm, hrest⟩

/-- A boot of a disk that is calm leaves the log as it is. -/
theorem LogIs.boot {S : St} {a s n N : Int} {f : Int → Array Value} (h : LogIs S a s n N f) (keep : List Int) : LogIs (S.booted keep) a s n N f := by
  have hl : ∀ x, (S.booted keep).look x = S.look x := fun x => by
    rcases booted_look S keep x with e | ⟨p, hp, _⟩
    · exact e.trans (h.calm.sureLook x)
    · rw [h.calm.pend] at hp; cases hp
  exact ⟨calm_booted _ _, h.dn, (hl a).trans h.head, fun x hx => (hl x).trans (h.rest x hx)⟩
theorem LogIs.fuse {S : St} {a s n N : Int} {f : Int → Array Value} (h : LogIs S a s n N f) (m : Int) : LogIs (S.fused m) a s n N f := by
  have e : S.fused m = { S with fuse := m } := by unfold St.fused; rw [if_pos h.calm.on]
  rw [e]
  exact ⟨⟨h.calm.on, h.calm.pend, h.calm.sure⟩, h.dn, h.head, h.rest⟩
theorem LogBusy.fuse {S : St} {a s n N : Int} {f : Int → Array Value} {ps : List (Int × Array Value)} (h : LogBusy S a s n N f ps) (m : Int) : LogBusy (S.fused m) a s n N f ps := by
  have e : S.fused m = { S with fuse := m } := by unfold St.fused; rw [if_pos h.calm.on]
  rw [e]
  exact ⟨⟨h.calm.on, h.calm.pend, h.calm.sure⟩, h.dn, h.head, ⟨h.holds.nums, h.holds.byts⟩, h.rest⟩

end Go.Proofs.Ytoccnaebckcfmaa
end

section
set_option linter.unusedSimpArgs false
set_option linter.unusedVariables false
set_option maxRecDepth 8000
namespace Go.Proofs.Ytoccnaebckcfmaa
open Go.RowKit

theorem commit_bd (S : St) (a s g : Int) (ps : List (Int × Array Value)) : (S.commit a s g ps).st.steps ≤ S.steps + 3 * ps.length + 20 ∧ (S.commit a s g ps).st.pend.length ≤ S.pend.length + 3 * ps.length + 20 := by
  have h1 := writeAll_bd (copiesL a ps) S
  rw [copiesL_len] at h1
  have hn : numsF ps.length ≤ ps.length := by unfold numsF; omega
  have h2 := writeAll_bd [(a, headA a s (g + 1) (ps.length : Int))] (S.writeAll (copiesL a ps)).2
  simp only [List.length_singleton] at h2
  have h3 := finish_bd ((S.writeAll (copiesL a ps)).2.writeAll [(a, headA a s (g + 1) (ps.length : Int))]).2 a s ps (g + 1)
  unfold St.commit
  split
  · constructor <;> simp only <;> omega
  · split
    · constructor <;> simp only <;> omega
    · split
      · constructor <;> simp only <;> omega
      · constructor <;> simp only <;> omega

theorem wal_not_disk {w : World} {b wb b' : Nat} {F : List Nat} {S : St} {a s g : Int} (hd : DAt w b F S) (hw : WalAt w wb b' a s g) : wb ∉ F := by
  obtain ⟨mn, ms, pv, h, rfl⟩ := hd
  unfold WalAt at hw
  intro hx
  simp only [foot, List.mem_cons, Option.mem_toList] at hx
  rcases hx with rfl | rfl | rfl | hx
  · rw [h.row] at hw; simp at hw
  · obtain ⟨es, c, hb, _⟩ := h.now
    rw [hb] at hw; simp at hw
  · obtain ⟨es, c, hb, _⟩ := h.sure
    rw [hb] at hw; simp at hw
  · obtain ⟨cur, hc⟩ := ownsRow_block h.pend hx
    rw [hc] at hw; simp at hw

/-- Behind a Commit: done; or fallen, and then behind any boot one of the three. -/
def ComPost (w0 : World) (b wb : Nat) (a s n N : Int) (f : Int → Array Value) (ps : List (Int × Array Value)) (k : Int) (Rs : List Res) (e : Ending) (w' : World) : Prop :=
  ∃ F' S', S'.steps ≤ k + 3 * ps.length + 20 ∧ S'.pend.length ≤ 3 * ps.length + 20 ∧
    ((e = .returned (.int .i64 0) ∧ LogIs S' a s (n + 1) N (updL f ps) ∧ Has w0 w' (DRes b F' S' :: WRes wb b a s (n + 1) :: Rs)) ∨
     (e = .returned (.int .i64 2) ∧ S'.on = false ∧ (∀ keep, LogOut (S'.booted keep) a s n N f ps) ∧ Has w0 w' (DRes b F' S' :: WRes wb b a s n :: Rs)))

theorem has_commitL {w0 w : World} {b wb : Nat} {F : List Nat} {S : St} {a s n N : Int} {f : Int → Array Value} {Rs : List Res} {lv : Value} {ps : List (Int × Array Value)} (h : Has w0 w (DRes b F S :: WRes wb b a s n :: Rs)) (hS : LogIs S a s n N f) (hl : PutsAt w F lv ps) (ha : 0 ≤ a) (hs : 3 ≤ s) (has : a + s ≤ N) (hn : 0 ≤ n) (hn1 : n ≤ 1000000) (hok : GroupOk a s N (rawsOf ps)) (hk : S.steps ≤ 900000000) :
    Calls Try.prog 46 #[.pointer (some ⟨wb, 0, none⟩), lv] w fun e w' => ComPost w0 b wb a s n N f ps S.steps Rs e w' := by
  have n1 : S.n ≤ 8192 := by obtain ⟨_, _, _, h, _⟩ := h.dat; exact h.ok.n1
  have hN := hS.dn
  have hlen : ps.length ≤ 8192 := by
    have h1 := hok.1
    have h2 := roomF_bd hs
    simp only [rawsOf, List.length_map] at h1
    omega
  have hbd := commit_bd S a s n ps
  rw [hS.calm.pend] at hbd
  simp only [List.length_nil] at hbd
  refine (commit_any h.dat (h.walAt (by simp)) h.wal_notin hl ha (by omega) hs (by omega) hn (by omega) (by rw [hN]; exact hok) (by omega) (by rw [hS.calm.pend]; simp only [List.length_nil]; omega)).mono ?_
  rintro e w' ⟨rfl, hp⟩
  obtain ⟨F', hh⟩ := h.wpost hp
  rcases commit_out (gfits_of ha hs has hok) hS with ⟨e1, e2, e3⟩ | ⟨e1, e2, e3, e4⟩
  · rw [e2] at hh
    exact ⟨F', _, hbd.1, by omega, .inl ⟨by rw [e1], e3, hh⟩⟩
  · rw [e2] at hh
    exact ⟨F', _, hbd.1, by omega, .inr ⟨by rw [e1], e3, e4, hh⟩⟩

/-- Behind an Open of a log with a group in progress. -/
def BusyPost (w0 : World) (b : Nat) (a s n N : Int) (f : Int → Array Value) (ps : List (Int × Array Value)) (k : Int) (Rs : List Res) (e : Ending) (w' : World) : Prop :=
  ∃ F' S', S'.steps ≤ k + ps.length + 3 ∧ S'.pend.length ≤ ps.length + 1 ∧
    ((∃ wb, e = .returned (.tuple #[.pointer (some ⟨wb, 0, none⟩), .int .i64 0]) ∧ LogIs S' a s (n + 1) N (updL f ps) ∧ Has w0 w' (WRes wb b a s (n + 1) :: DRes b F' S' :: Rs)) ∨
     (e = .returned (.tuple #[.pointer none, .int .i64 2]) ∧ S'.on = false ∧ (∀ keep, LogOut (S'.booted keep) a s n N f ps) ∧ Has w0 w' (DRes b F' S' :: Rs)))

theorem has_openB {w0 w : World} {b : Nat} {F : List Nat} {S : St} {a s n N : Int} {f : Int → Array Value} {Rs : List Res} {ps : List (Int × Array Value)} (h : Has w0 w (DRes b F S :: Rs)) (hS : LogBusy S a s n N f ps) (ha : 0 ≤ a) (hs : 3 ≤ s) (has : a + s ≤ N) (hn : 0 ≤ n) (hn1 : n ≤ 1000000) (hok : GroupOk a s N (rawsOf ps)) (hpb : ∀ p ∈ ps, SecOk p.2) (hne : 0 < ps.length) (hk : S.steps ≤ 900000000) :
    Calls Try.prog 29 #[.pointer (some ⟨b, 0, none⟩), .int .i64 a, .int .i64 s] w fun e w' => BusyPost w0 b a s n N f ps S.steps Rs e w' := by
  have n1 : S.n ≤ 8192 := by obtain ⟨_, _, _, h, _⟩ := h.dat; exact h.ok.n1
  have hN := hS.dn
  have hlr : (ps.length : Int) ≤ roomF s := by have := hok.1; simpa [rawsOf] using this
  have hlen : ps.length ≤ 8192 := by have h2 := roomF_bd hs; omega
  obtain ⟨e1, e2, e3, e4⟩ := rd_head (a := a) (s := s) (g := n + 1) (p := (ps.length : Int)) ⟨ha, by omega⟩ ⟨by omega, by omega⟩ ⟨by omega, by omega⟩ ⟨by omega, by omega⟩
  have hbd := finish_bd S a s ps (n + 1)
  rw [hS.calm.pend] at hbd
  simp only [List.length_nil] at hbd
  have hv : (S.now a).getD Z = sec (headLs a s (n + 1) (ps.length : Int)) := by rw [← headA_sec]; exact hS.head
  have hpd : S.pend.length + ps.length + 100 < 1000000000 := by rw [hS.calm.pend]; simp only [List.length_nil]; omega
  have fin : ∀ e w', OpenRPost b F S a s (n + 1) ps w e w' → BusyPost w0 b a s n N f ps S.steps Rs e w' := by
    rintro e w' ⟨hd, hcase⟩
    rcases finish_out (gfits_of ha hs has hok) hS with ⟨z, lg⟩ | ⟨z, off, lg⟩
    · rcases hcase with ⟨_, wb, he, hwb, hw'⟩ | ⟨hz, _⟩
      · obtain ⟨F', hh⟩ := h.disk hd
        refine ⟨F', _, by omega, by omega, .inl ⟨wb, he, lg, ?_⟩⟩
        -- the new log's block lies beside all
        have hlt := hw'.lt
        refine ⟨hh.only, fun r hr => ?_, List.pairwise_cons.2 ⟨fun r hr x hx hxr => ?_, hh.apart⟩⟩
        · rcases List.mem_cons.1 hr with rfl | hr
          · exact ⟨hw', fun x hx => by simp [WRes, BRes] at hx; subst hx; exact ⟨by have := h.only.size; omega, hlt⟩⟩
          · exact hh.each r hr
        · simp [WRes, BRes] at hx
          subst hx
          rcases List.mem_cons.1 hr with rfl | hr
          · exact wal_not_disk hh.dat hw' hxr
          · have := ((h.each r (by simp [hr])).2 x hxr).2
            omega
      · exact absurd z hz
    · rcases hcase with ⟨hz, _⟩ | ⟨_, he⟩
      · omega
      · obtain ⟨F', hh⟩ := h.disk hd
        exact ⟨F', _, by omega, by omega, .inr ⟨by rw [he, z], off, lg, hh⟩⟩
  by_cases hz : (S.finish a s ps (n + 1)).1 = 0
  · have := open_resumed (ps := ps) h.dat hS.calm.on (by omega) (by omega) ⟨hs, ha, by omega⟩ (headLs_len _ _ _ _) (headLs_bd _ _ _ _) hv (by rw [e1, e2, e3, e4]; simp) (by rw [e1]; simp) (by rw [e2]; simp) e4 (by rw [e4]; exact hlr) (by rw [hN]; exact hok) hS.holds hpb hne (by omega) hpd (by rw [e3]; exact hz)
    rw [e3] at this
    exact this.mono fin
  · have := open_fell (ps := ps) h.dat hS.calm.on (by omega) (by omega) ⟨hs, ha, by omega⟩ (headLs_len _ _ _ _) (headLs_bd _ _ _ _) hv (by rw [e1, e2, e3, e4]; simp) (by rw [e1]; simp) (by rw [e2]; simp) e4 (by rw [e4]; exact hlr) (by rw [hN]; exact hok) hS.holds hpb hne (by omega) hpd (by rw [e3]; exact hz)
    rw [e3] at this
    exact this.mono fin

end Go.Proofs.Ytoccnaebckcfmaa
end

section
set_option linter.unusedSimpArgs false
set_option linter.unusedVariables false
set_option maxRecDepth 8000
namespace Go.Proofs.Ytoccnaebckcfmaa
open Go.RowKit

/-- Behind a Format of a log anew. -/
def ForPost (w0 : World) (b : Nat) (a s n N : Int) (f : Int → Array Value) (k : Int) (Rs : List Res) (e : Ending) (w' : World) : Prop :=
  ∃ F' S', S'.steps ≤ k + 2 ∧ S'.pend.length ≤ 1 ∧ Has w0 w' (DRes b F' S' :: Rs) ∧
    ((e = .returned (.int .i64 0) ∧ LogIs S' a s 0 N f) ∨
     (e = .returned (.int .i64 2) ∧ S'.on = false ∧ ∀ keep, LogIs (S'.booted keep) a s n N f ∨ LogIs (S'.booted keep) a s 0 N f))

theorem has_formatL {w0 w : World} {b : Nat} {F : List Nat} {S : St} {a s n N : Int} {f : Int → Array Value} {Rs : List Res} (h : Has w0 w (DRes b F S :: Rs)) (hS : LogIs S a s n N f) (ha : 0 ≤ a) (hs : 3 ≤ s) (has : a + s ≤ N) (hk : S.steps ≤ 900000000) :
    Calls Try.prog 36 #[.pointer (some ⟨b, 0, none⟩), .int .i64 a, .int .i64 s] w fun e w' => ForPost w0 b a s n N f S.steps Rs e w' := by
  have n1 : S.n ≤ 8192 := by obtain ⟨_, _, _, h, _⟩ := h.dat; exact h.ok.n1
  have hN := hS.dn
  have hbd := writeAll_bd [(a, headA a s 0 0)] S
  rw [hS.calm.pend] at hbd
  simp only [List.length_nil, List.length_singleton] at hbd
  refine (format_any h.dat a s (by omega) (by omega) ⟨hs, ha, by omega⟩ (by omega) (by rw [hS.calm.pend]; simp)).mono ?_
  rintro e w' ⟨rfl, hp⟩
  obtain ⟨F', hh⟩ := h.disk hp
  rcases format_out ha hs has hS with ⟨z, lg⟩ | ⟨z, off, lg⟩
  · exact ⟨F', _, by omega, by omega, hh, .inl ⟨by rw [z], lg⟩⟩
  · exact ⟨F', _, by omega, by omega, hh, .inr ⟨by rw [z], off, lg⟩⟩

/-- Open of a log without a group in progress, whatever the fuse. -/
theorem has_openL {w0 w : World} {b : Nat} {F : List Nat} {S : St} {a s n N : Int} {f : Int → Array Value} {Rs : List Res} (h : Has w0 w (DRes b F S :: Rs)) (hS : LogIs S a s n N f) (ha : 0 ≤ a) (hs : 3 ≤ s) (has : a + s ≤ N) (hn : 0 ≤ n) (hn1 : n ≤ 1000000) :
    Calls Try.prog 29 #[.pointer (some ⟨b, 0, none⟩), .int .i64 a, .int .i64 s] w fun e w' => ∃ wb, e = .returned (.tuple #[.pointer (some ⟨wb, 0, none⟩), .int .i64 0]) ∧ Has w0 w' (WRes wb b a s n :: DRes b F S :: Rs) :=
  has_open h hS.calm.on ha hs (by rw [hS.dn]; exact has) hn (by omega) hS.head

/-- What boots and fuses leave of the three. -/
theorem LogBusy.boot {S : St} {a s n N : Int} {f : Int → Array Value} {ps : List (Int × Array Value)} (h : LogBusy S a s n N f ps) (keep : List Int) : LogBusy (S.booted keep) a s n N f ps := by
  have hl : ∀ x, (S.booted keep).look x = S.look x := fun x => by
    rcases booted_look S keep x with e | ⟨p, hp, _⟩
    · exact e.trans (h.calm.sureLook x)
    · rw [h.calm.pend] at hp; cases hp
  exact ⟨calm_booted _ _, h.dn, (hl a).trans h.head, h.holds.of_look (fun x _ _ => hl x), fun x hx => by rw [hl x]; exact h.rest x hx⟩
theorem LogOut.boot {S : St} {a s n N : Int} {f : Int → Array Value} {ps : List (Int × Array Value)} (h : LogOut S a s n N f ps) (keep : List Int) : LogOut (S.booted keep) a s n N f ps := by
  rcases h with h | h | h
  · exact .inl (h.boot keep)
  · exact .inr (.inl (h.boot keep))
  · exact .inr (.inr (h.boot keep))
theorem LogOut.fuse {S : St} {a s n N : Int} {f : Int → Array Value} {ps : List (Int × Array Value)} (h : LogOut S a s n N f ps) (m : Int) : LogOut (S.fused m) a s n N f ps := by
  rcases h with h | h | h
  · exact .inl (h.fuse m)
  · exact .inr (.inl (h.fuse m))
  · exact .inr (.inr (h.fuse m))
/-- The group at hand without puts is no group in progress. -/
theorem LogBusy.none {S : St} {a s n N : Int} {f : Int → Array Value} (h : LogBusy S a s n N f []) : LogIs S a s (n + 1) N f := by
  refine ⟨h.calm, h.dn, h.head, fun x hx => ?_⟩
  rcases h.rest x hx with e | ⟨p, hp, _⟩
  · exact e
  · cases hp

end Go.Proofs.Ytoccnaebckcfmaa
end
