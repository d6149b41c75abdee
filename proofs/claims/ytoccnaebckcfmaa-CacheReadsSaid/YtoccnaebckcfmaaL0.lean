/- The laws' own helpers; a cache beside other things. -/
import Derived.Test.YtoccnaebckcfmaaK13
set_option linter.unusedSimpArgs false
set_option linter.unusedVariables false
set_option maxRecDepth 8000
namespace Go.Proofs.Ytoccnaebckcfmaa
open Go.RowKit
open Go.ChangeMaps (setBlock)

theorem Has.pull {w0 w : World} {L1 L2 : List Res} {r : Res} (h : Has w0 w (L1 ++ r :: L2)) : Has w0 w (r :: (L1 ++ L2)) :=
  ⟨h.only, fun q hq => h.each q ((List.perm_middle (l₁ := L1) (l₂ := L2) (a := r)).mem_iff.2 hq), (List.perm_middle (l₁ := L1) (l₂ := L2) (a := r)).pairwise h.apart (fun hab x hx hy => hab x hy hx)⟩
theorem Has.firsts {w0 w : World} {L L2 : List Res} (h : Has w0 w (L ++ L2)) : Has w0 w L :=
  ⟨h.only, fun q hq => h.each q (List.mem_append_left _ hq), (List.pairwise_append.1 h.apart).1⟩
theorem Has.setb {w0 w : World} {g : Nat} {A : Array Value} {t : TypeId} {Rs : List Res} (h : Has w0 w (BRes g (.cells A t) :: Rs)) (j : Nat) (v : Value) : Has w0 (w.setCell ⟨g, j, none⟩ v) (BRes g (.cells (A.setIfInBounds j v) t) :: Rs) := by
  have hb : w.heap[g]? = some (.cells A t (0, 0)) := h.blk (by simp)
  refine h.turn (r' := BRes g (.cells (A.setIfInBounds j v) t)) ((Only.refl [g] w).setCell (by simp) _) (heap_setCell_row hb _ _) (fun x hx => ⟨.inl hx, ?_⟩)
  simp [BRes] at hx
  subst hx
  simpa using (Array.getElem?_eq_some_iff.1 hb).1
theorem Has.apartD {w0 w : World} {r s : Res} {Rs : List Res} (h : Has w0 w (r :: Rs)) (hs : s ∈ Rs) : ∀ x ∈ r.G, x ∉ s.G := (List.pairwise_cons.1 h.apart).1 s hs

set_option maxHeartbeats 400000 in
theorem kind_any (c n : Int) (w : World) (h0 : -9223372036854775808 ≤ c) (h1 : c ≤ 9223372036854775807) (hn : 0 < n) (hn1 : n ≤ 100) :
    Calls Try.prog 9 #[.int .i64 c, .int .i64 n] w fun e w' => e = .returned (.int .i64 (amongF c n)) ∧ w = w' := by
  by_cases hc : c < 0
  · have HK : Hid (-(c + 1).tmod n = amongF c n) := by
      show -(c + 1).tmod n = amongF c n
      rw [amongF, if_pos hc, ← Int.neg_tmod, Int.tmod_eq_emod_of_nonneg (by omega)]
    go_enter Try.func9, Try.ntmps9
    go_wp2
    go_ret
    exact ⟨ret_int HK.out, rfl⟩
  · have HK : Hid (c % n = amongF c n) := by
      show c % n = amongF c n
      rw [amongF, if_neg hc]
    go_enter Try.func9, Try.ntmps9
    go_wp2
    go_ret
    exact ⟨ret_int HK.out, rfl⟩

set_option maxHeartbeats 400000 in
theorem full1_any (c : Int) (w : World) : Calls Try.prog 14 #[.int .u8 c] w fun e w' => e = .returned (.slice (some ⟨w.heap.size, 0, none⟩) 64 64) ∧ w' = w.alloc (.cells (fullA c) 5) := by
  have hmk := make64
  go_enter Try.func14, Try.ntmps14
  go_wp2
  go_loopw [4] (fun i wr => ∃ k : Nat, k ≤ 64 ∧ i = .int .i64 k ∧ wr = w.alloc (.cells (filling c k) 5)) (fun i _ => 64 - (RowKit.intOf i).toNat)
  case atStart => exact ⟨0, by omega, rfl, rfl⟩
  case round =>
    obtain ⟨k, hk, rfl, rfl⟩ := hrel
    by_cases hlt : k < 64
    · have hcell := filling_at c k hlt
      have HS := Lib.hid (filling_step c k hlt)
      go_wp2
      go_roundw
      case rel => exact ⟨k + 1, by omega, by go_num, by rw [← HS.out]⟩
      case measure => simp [RowKit.intOf]; omega
    · have : k = 64 := by omega
      subst this
      go_wp2
      go_ret
      exact ⟨rfl, by rw [filling_end]⟩

/-! The cache's calls, beside other things. -/
section
variable {w0 w : World} {cb d wb : Nat} {F FD : List Nat} {C : CaS} {S : St} {Rs : List Res}

theorem has_cnew (h : Has w0 w Rs) (d wb : Nat) {most : Int} (h1 : 1 ≤ most) (h2 : most ≤ 9223372036854775807) :
    Calls Try.prog 30 #[pp d, pp wb, .int .i64 most] w fun e w' => ∃ cb F, e = .returned (.tuple #[pp cb, .int .i64 0]) ∧ Has w0 w' (CRes cb d wb F (CaS.new most) :: Rs) := by
  refine (cnew_any w d wb h1 h2).mono ?_
  rintro e w' ⟨cb, F, rfl, hc, hF, o⟩
  exact ⟨cb, F, rfl, h.more o (CRes cb d wb F (CaS.new most)) hc (fun x hx => ⟨hF x hx, hc.lt x hx⟩)⟩

/-- Behind a Read that was answered: the bytes lie in a block beside all. -/
theorem Has.readOk {w' : World} {C' : CaS} {v : Array Value} {e : Ending} (h : Has w0 w (CRes cb d wb F C :: Rs)) (hp : ReadPost w cb d wb F C' v e w') : ∃ F', Has w0 w' (BRes w.heap.size (.cells v 69) :: CRes cb d wb F' C' :: Rs) := by
  obtain ⟨_, hb, F', hc, hF, o⟩ := hp
  have h2 : Has w0 w' (CRes cb d wb F' C' :: Rs) := h.turn (r' := CRes cb d wb F' C') o hc (fun x hx => ⟨by rcases hF x hx with h | h; exact .inl h; exact .inr (by omega), hc.lt x hx⟩)
  have hlt := (Array.getElem?_eq_some_iff.1 hb).1
  refine ⟨F', h2.only, fun r hr => ?_, List.pairwise_cons.2 ⟨fun r hr x hx hxr => ?_, h2.apart⟩⟩
  · rcases List.mem_cons.1 hr with rfl | hr
    · exact ⟨hb, fun x hx => by simp [BRes] at hx; subst hx; exact ⟨h.only.size, hlt⟩⟩
    · exact h2.each r hr
  · simp [BRes] at hx
    subst hx
    rcases List.mem_cons.1 hr with rfl | hr
    · rcases hF _ hxr with h3 | h3
      · have := ((h.each (CRes cb d wb F C) (by simp)).2 _ h3).2
        omega
      · omega
    · have := ((h.each r (by simp [hr])).2 _ hxr).2
      omega

/-- What a Read gives, and what it leaves. -/
def CaS.got (C : CaS) (S : St) (i : Int) : Array Value := (C.held i).getD ((S.now i).getD Z)
def CaS.read (C : CaS) (S : St) (i : Int) : CaS := ((if (C.held i).isSome then C else { C with miss := C.miss + 1 } : CaS).use i (C.got S i)).evict
def CReadPost (w0 : World) (cb d wb : Nat) (FD : List Nat) (C : CaS) (S : St) (i : Int) (Rs : List Res) (e : Ending) (w' : World) : Prop :=
  (((C.held i).isSome = true ∨ S.reach i = 0) ∧ ∃ rb F', e = .returned (.tuple #[.slice (some ⟨rb, 0, none⟩) 64 64, .int .i64 0]) ∧ Has w0 w' (BRes rb (.cells (C.got S i) 69) :: CRes cb d wb F' (C.read S i) :: DRes d FD S :: Rs)) ∨
  (C.held i = none ∧ S.reach i ≠ 0 ∧ ∃ F', e = .returned (.tuple #[.slice none 0 0, .int .i64 (S.reach i)]) ∧ Has w0 w' (CRes cb d wb F' C :: DRes d FD S :: Rs))

theorem has_cread (h : Has w0 w (CRes cb d wb F C :: DRes d FD S :: Rs)) (i : Int) (hm : C.miss < 1000000000) (hsn : S.n ≤ 8192) :
    Calls Try.prog 12 #[pp cb, .int .i64 i] w fun e w' => CReadPost w0 cb d wb FD C S i Rs e w' := by
  have hc := h.cat (cb := cb) (d := d) (wb := wb) (F := F) (C := C) (by simp)
  have hd := h.swap.dat
  cases hh : C.held i with
  | some v =>
    refine (read_hit hc hh).mono fun e w' hp => ?_
    obtain ⟨F', h'⟩ := h.readOk hp
    have e1 : C.got S i = v := by unfold CaS.got; rw [hh]; rfl
    have e2 : C.read S i = (C.use i v).evict := by unfold CaS.read; rw [e1, hh]; rfl
    exact .inl ⟨.inl (by rw [hh]; rfl), _, F', hp.1, by rw [e1, e2]; exact h'⟩
  | none =>
    by_cases hr : S.reach i = 0
    · refine (read_miss hc hd hh hr hm hsn).mono fun e w' hp => ?_
      obtain ⟨F', h'⟩ := h.readOk hp
      have e1 : C.got S i = (S.now i).getD Z := by unfold CaS.got; rw [hh]; rfl
      have e2 : C.read S i = (({ C with miss := C.miss + 1 } : CaS).use i ((S.now i).getD Z)).evict := by unfold CaS.read; rw [e1, hh]; rfl
      exact .inl ⟨.inr hr, _, F', hp.1, by rw [e1, e2]; exact h'⟩
    · refine (read_none hc hd hh hr).mono ?_
      rintro e w' ⟨rfl, o⟩
      exact .inr ⟨hh, hr, F, rfl, h.later o⟩

theorem has_cbegin (h : Has w0 w (CRes cb d wb F C :: Rs)) : Calls Try.prog 17 #[pp cb] w fun e w' => ∃ F', e = .returned (.int .i64 (if C.opn then 30 else 0)) ∧ Has w0 w' (CRes cb d wb F' { C with opn := true } :: Rs) := by
  refine (begin_any (h.cat (cb := cb) (d := d) (wb := wb) (F := F) (C := C) (by simp))).mono ?_
  rintro e w' (⟨ho, rfl, rfl⟩ | ⟨ho, rfl, hp⟩)
  · have : ({ C with opn := true } : CaS) = C := by cases C; simp_all
    exact ⟨F, by rw [ho]; rfl, by rw [this]; exact h⟩
  · obtain ⟨F', h'⟩ := h.cache hp
    exact ⟨F', by rw [ho]; rfl, h'⟩

theorem has_cabort (h : Has w0 w (CRes cb d wb F C :: Rs)) : Calls Try.prog 21 #[pp cb] w fun e w' => ∃ F', e = .returned (.int .i64 (if C.opn then 0 else 30)) ∧ Has w0 w' (CRes cb d wb F' (if C.opn then C.abort else C) :: Rs) := by
  refine (abort_any (h.cat (cb := cb) (d := d) (wb := wb) (F := F) (C := C) (by simp))).mono ?_
  rintro e w' (⟨ho, rfl, rfl⟩ | ⟨ho, rfl, hp⟩)
  · exact ⟨F, by rw [ho]; rfl, by rw [ho]; exact h⟩
  · obtain ⟨F', h'⟩ := h.cache hp
    exact ⟨F', by rw [ho]; rfl, by rw [ho]; exact h'⟩

/-- What a Write of 64 bytes answers, and what it leaves. -/
def wcode (C : CaS) (n i : Int) : Int := if C.opn = false then 30 else if i < 0 ∨ n ≤ i then 10 else 0
theorem has_cwrite (h : Has w0 w (CRes cb d wb F C :: DRes d FD S :: Rs)) (hsn : S.n ≤ 8192) (i : Int) {bv : Value} {v : Array Value} (hb : Bytes64 w [] bv v) :
    Calls Try.prog 16 #[pp cb, .int .i64 i, bv] w fun e w' => ∃ F', e = .returned (.int .i64 (wcode C S.n i)) ∧ Has w0 w' (CRes cb d wb F' (if wcode C S.n i = 0 then C.write i v else C) :: DRes d FD S :: Rs) := by
  have hc := h.cat (cb := cb) (d := d) (wb := wb) (F := F) (C := C) (by simp)
  have hd := h.swap.dat
  by_cases ho : C.opn = false
  · have e1 : wcode C S.n i = 30 := if_pos ho
    refine (cwrite_closed hc ho i bv).mono ?_
    rintro e w' ⟨rfl, rfl⟩
    exact ⟨F, by rw [e1], by rw [e1]; exact h⟩
  · have ho' : C.opn = true := by simpa using ho
    by_cases hi : i < 0 ∨ S.n ≤ i
    · have e1 : wcode C S.n i = 10 := by rw [wcode, if_neg ho, if_pos hi]
      refine (cwrite_place hc hd ho' hi bv).mono ?_
      rintro e w' ⟨rfl, rfl⟩
      exact ⟨F, by rw [e1], by rw [e1]; exact h⟩
    · have e1 : wcode C S.n i = 0 := by rw [wcode, if_neg ho, if_neg hi]
      refine (cwrite_ok hc hd ho' (by omega) (by omega) hsn hb).mono ?_
      rintro e w' ⟨rfl, hp⟩
      obtain ⟨F', h'⟩ := h.cache hp
      exact ⟨F', by rw [e1], by rw [e1]; exact h'⟩

/-! Commit on a disk without a fuse. -/
theorem commit_quiet1 {n k : Int} {f : Int → Option (Array Value)} {a s g : Int} {ps : List (Int × Array Value)} (ha : 0 ≤ a) (hs : 3 ≤ s) (has : a + s ≤ n) (hok : GroupOk a s n (rawsOf ps)) :
    ∃ k', k < k' ∧ k' ≤ k + 3 * ps.length + 10 ∧ (quiet n k f).commit a s g ps = ⟨0, quiet n k' (putLog f a s g ps), g + 1⟩ := by
  obtain ⟨k', e1, e2, e3⟩ := commit_quiet (n := n) (k := k) (f := f) (g := g) ha hs has hok
  refine ⟨k', ?_, e2, e3⟩
  have hlen : (ps.length : Int) ≤ roomF s := by have := hok.1; simpa [rawsOf] using this
  have hfit := room_fits hs hlen
  have hin : ∀ p ∈ ps, 0 ≤ p.1 ∧ p.1 < n := fun p hp => by
    have := hok.2.1 (p.1, 64) (List.mem_map.2 ⟨p, hp, rfl⟩)
    exact ⟨this.1, this.2.1⟩
  have hcp : ∀ p ∈ copiesL a ps, 0 ≤ p.1 ∧ p.1 < n := fun p hp => by have := copies_in hp; omega
  have hhd : ∀ v, ∀ p ∈ [(a, v)], 0 ≤ (p : Int × Array Value).1 ∧ p.1 < n := fun v p hp => by simp at hp; subst hp; exact ⟨ha, by omega⟩
  have w1 := writeAll_quiet n k f (copiesL a ps) hcp
  have w2 : ∀ k f v, (quiet n k f).writeAll [(a, v)] = (0, quiet n (k + 1 + 1) (updF f a v)) := fun k f v => writeAll_quiet n k f [(a, v)] (hhd v)
  have w3 := fun k f => writeAll_quiet n k f ps hin
  have e4 := congrArg (fun r => r.st.steps) e3
  rw [St.commit, w1] at e4
  simp only [w2, St.finish, w3, ne_eq, not_true_eq_false, if_false, if_true] at e4
  simp only [quiet] at e4
  omega

/-- Behind a Commit. -/
def CComPost (w0 : World) (cb d wb : Nat) (C : CaS) (n k : Int) (f : Int → Option (Array Value)) (a s g : Int) (Rs : List Res) (e : Ending) (w' : World) : Prop :=
  (C.opn = true ∧ GroupOk a s n (rawsOf (putsC C)) ∧ ∃ k' FD' F', k < k' ∧ k' ≤ k + 3 * (putsC C).length + 10 ∧ e = .returned (.int .i64 0) ∧ Has w0 w' (CRes cb d wb F' C.committed :: DRes d FD' (quiet n k' (putLog f a s g (putsC C))) :: WRes wb d a s (g + 1) :: Rs)) ∨
  (¬ (C.opn = true ∧ GroupOk a s n (rawsOf (putsC C))) ∧ ∃ FD' F', e = .returned (.int .i64 (if C.opn then 20 else 30)) ∧ Has w0 w' (CRes cb d wb F' C :: DRes d FD' (quiet n k f) :: WRes wb d a s g :: Rs))

theorem has_ccommit {n k : Int} {f : Int → Option (Array Value)} {a s g : Int} (h : Has w0 w (CRes cb d wb F C :: DRes d FD (quiet n k f) :: WRes wb d a s g :: Rs)) (ha : 0 ≤ a) (hs : 3 ≤ s) (has : a + s ≤ n) (hg : 0 ≤ g) (hg1 : g ≤ 1000000) (hk0 : 0 ≤ k) (hk : k ≤ 900000000) :
    Calls Try.prog 19 #[pp cb] w fun e w' => CComPost w0 cb d wb C n k f a s g Rs e w' := by
  have hd := h.swap.dat
  have hn1 : n ≤ 8192 := by obtain ⟨_, _, _, q, _⟩ := hd; exact q.ok.n1
  obtain ⟨_, _, _, _, okC, _⟩ := h.cat (cb := cb) (d := d) (wb := wb) (F := F) (C := C) (by simp)
  cases ho : C.opn with
  | false =>
    refine (ccommit_closed (h.cat (cb := cb) (d := d) (wb := wb) (F := F) (C := C) (by simp)) ho).mono ?_
    rintro e w' ⟨rfl, rfl⟩
    exact .inr ⟨by simp [ho], FD, F, by rw [ho]; rfl, h⟩
  | true =>
    by_cases hok : GroupOk a s n (rawsOf (putsC C))
    · refine (ccommit_any (FD := FD) (Q := fun z Rs' => z = 0 ∧ ∃ k' FD', k < k' ∧ k' ≤ k + 3 * (putsC C).length + 10 ∧ Rs' = DRes d FD' (quiet n k' (putLog f a s g (putsC C))) :: WRes wb d a s (g + 1) :: Rs) h ho (fun x hx => dAt_lt hd x hx) (fun w1 lv h1 hpu => ?_)).mono ?_
      · have h2 := (h1.pull (L1 := [_]) (L2 := _ :: Rs)).pull (L1 := [_, _]) (L2 := Rs)
        have h3 := h2.swap
        obtain ⟨k', q1, q2, q3⟩ := commit_quiet1 (k := k) (f := f) (g := g) ha hs has hok
        have hlen : (putsC C).length ≤ 8192 := by
          have h5 := hok.1
          have h6 := roomF_bd hs
          simp only [rawsOf, List.length_map] at h5
          omega
        refine (commit_any h3.dat (h3.walAt (by simp)) h3.wal_notin hpu ha (by omega) hs (by omega) hg (by omega) hok (by simp only [quiet]; omega) (by simp only [quiet, List.length_nil]; omega)).mono ?_
        rintro e w' ⟨rfl, hp⟩
        rw [q3] at hp ⊢
        obtain ⟨FD', hh⟩ := h3.wpost hp
        exact ⟨0, _, rfl, ⟨rfl, k', FD', q1, q2, rfl⟩, hh.pull (L1 := [_, _]) (L2 := Rs)⟩
      · rintro e w' ⟨z, Rs', F', rfl, ⟨rfl, k', FD', q1, q2, rfl⟩, hh⟩
        exact .inl ⟨ho, hok, k', FD', F', q1, q2, rfl, by rw [if_pos rfl] at hh; exact hh⟩
    · refine (ccommit_any (FD := FD) (Q := fun z Rs' => z = 20 ∧ Rs' = DRes d FD (quiet n k f) :: WRes wb d a s g :: Rs) h ho (fun x hx => dAt_lt hd x hx) (fun w1 lv h1 hpu => ?_)).mono ?_
      · have h2 := (h1.pull (L1 := [_]) (L2 := _ :: Rs)).pull (L1 := [_, _]) (L2 := Rs)
        have h3 := h2.swap
        refine (has_commit_no h3 (hpu.raws (fun p hp => ?_)) ha (by omega) hs (by omega) hok).mono ?_
        · obtain ⟨x, hx, rfl⟩ := List.mem_map.1 hp
          have := okC.rg x (okC.ps x (sorted_mem.1 hx))
          simp only; omega
        · rintro e w' ⟨rfl, hh⟩
          exact ⟨20, _, rfl, ⟨rfl, rfl⟩, hh.pull (L1 := [_, _]) (L2 := Rs)⟩
      · rintro e w' ⟨z, Rs', F', rfl, ⟨rfl, rfl⟩, hh⟩
        exact .inr ⟨fun hx => hok hx.2, FD, F', by rw [ho]; rfl, by rw [if_neg (by omega)] at hh; exact hh⟩
end
end Go.Proofs.Ytoccnaebckcfmaa
