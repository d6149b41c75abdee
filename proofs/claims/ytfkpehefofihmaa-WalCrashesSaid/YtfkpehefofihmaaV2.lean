/- WalCrashes: Open behind boots; what holds between calls; the calls that came in. -/
import Derived.Test.YtfkpehefofihmaaV1
import Derived.Test.YtfkpehefofihmaaFrame
import Derived.Test.YtfkpehefofihmaaP0
set_option linter.unusedSimpArgs false
set_option linter.unusedVariables false
set_option maxRecDepth 8000
namespace Go.Proofs.Ytfkpehefofihmaa
open Go.RowKit

theorem IsB.ok {c : Array Value} (h : IsB c) : SecOk c := by
  obtain ⟨l, hl, _, rfl⟩ := h
  exact sec_ok hl
theorem group_len {a N : Int} {ps : List (Int × Array Value)} (h : GroupOk a 40 N (rawsOf ps)) : ps.length ≤ 37 := by
  have := h.1
  rw [room40] at this
  simp only [rawsOf, List.length_map] at this
  omega

/-- Behind an Open whose answer nobody looks at. -/
def AnyPost (w0 : World) (b : Nat) (Q : St → Prop) (k : Int) (Rs : List Res) (e : Ending) (w' : World) : Prop :=
  ∃ v F' S', e = .returned v ∧ S'.steps ≤ k + 50 ∧ S'.pend.length ≤ 50 ∧ (∀ keep, Q (S'.booted keep)) ∧ Has w0 w' (DRes b F' S' :: Rs)

section
variable {w0 w : World} {b : Nat} {F : List Nat} {S : St} {a n : Int} {f : Int → Array Value} {Rs : List Res} {ps : List (Int × Array Value)}

theorem open_any_is {m : Int} (h : Has w0 w (DRes b F S :: Rs)) (hS : LogIs S a 40 n 100 f ∨ LogIs S a 40 m 100 f) (ha : 0 ≤ a) (ha1 : a ≤ 60) (hn : 0 ≤ n) (hn1 : n ≤ 900000) (hm : 0 ≤ m) (hm1 : m ≤ 900000) :
    Calls Try.prog 17 #[.pointer (some ⟨b, 0, none⟩), .int .i64 a, .int .i64 40] w fun e w' => AnyPost w0 b (fun S => LogIs S a 40 n 100 f ∨ LogIs S a 40 m 100 f) S.steps Rs e w' := by
  have key : ∀ q, LogIs S a 40 q 100 f → 0 ≤ q → q ≤ 900000 → Calls Try.prog 17 #[.pointer (some ⟨b, 0, none⟩), .int .i64 a, .int .i64 40] w fun e w' => AnyPost w0 b (fun S => LogIs S a 40 n 100 f ∨ LogIs S a 40 m 100 f) S.steps Rs e w' := by
    intro q hq q0 q1
    refine (has_openL h hq ha (by omega) (by omega) q0 (by omega)).mono ?_
    rintro e w' ⟨wb, rfl, hh⟩
    exact ⟨_, F, S, rfl, by omega, by rw [hq.calm.pend]; simp, fun keep => hS.imp (fun h => h.boot keep) (fun h => h.boot keep), hh.drop⟩
  rcases hS with hq | hq
  · exact key n hq hn hn1
  · exact key m hq hm hm1

theorem open_any_out (h : Has w0 w (DRes b F S :: Rs)) (hS : LogOut S a 40 n 100 f ps) (ha : 0 ≤ a) (ha1 : a ≤ 60) (hn : 0 ≤ n) (hn1 : n ≤ 900000) (hok : GroupOk a 40 100 (rawsOf ps)) (hpb : ∀ p ∈ ps, IsB p.2) (hk : S.steps ≤ 900000000) :
    Calls Try.prog 17 #[.pointer (some ⟨b, 0, none⟩), .int .i64 a, .int .i64 40] w fun e w' => AnyPost w0 b (fun S => LogOut S a 40 n 100 f ps) S.steps Rs e w' := by
  have hlen := group_len hok
  have key : ∀ q g, LogIs S a 40 q 100 g → 0 ≤ q → q ≤ 900001 → Calls Try.prog 17 #[.pointer (some ⟨b, 0, none⟩), .int .i64 a, .int .i64 40] w fun e w' => AnyPost w0 b (fun S => LogOut S a 40 n 100 f ps) S.steps Rs e w' := by
    intro q g hq q0 q1
    refine (has_openL h hq ha (by omega) (by omega) q0 (by omega)).mono ?_
    rintro e w' ⟨wb, rfl, hh⟩
    exact ⟨_, F, S, rfl, by omega, by rw [hq.calm.pend]; simp, fun keep => hS.boot keep, hh.drop⟩
  rcases hS with hq | hq | hq
  · exact key n f hq hn (by omega)
  · by_cases hne : 0 < ps.length
    · refine (has_openB h hq ha (by omega) (by omega) hn (by omega) hok (fun p hp => (hpb p hp).ok) hne hk).mono ?_
      rintro e w' ⟨F', S', e1, e2, ⟨wb, rfl, lg, hh⟩ | ⟨rfl, off, lg, hh⟩⟩
      · exact ⟨_, F', S', rfl, by omega, by omega, fun keep => .inr (.inr (lg.boot keep)), hh.drop⟩
      · exact ⟨_, F', S', rfl, by omega, by omega, lg, hh⟩
    · have hp : ps = [] := List.eq_nil_of_length_eq_zero (by omega)
      subst hp
      exact key (n + 1) f hq.none (by omega) (by omega)
  · exact key (n + 1) _ hq (by omega) (by omega)

/-- Behind an Open of a disk without a fuse. -/
def DonePost (w0 : World) (b : Nat) (a : Int) (R : Int → (Int → Array Value) → Prop) (k : Int) (Rs : List Res) (e : Ending) (w' : World) : Prop :=
  ∃ wb F' S' n' f', e = .returned (.tuple #[.pointer (some ⟨wb, 0, none⟩), .int .i64 0]) ∧ S'.steps ≤ k + 50 ∧ LogIs S' a 40 n' 100 f' ∧ R n' f' ∧ Has w0 w' (WRes wb b a 40 n' :: DRes b F' S' :: Rs)

theorem open_done_is {R : Int → (Int → Array Value) → Prop} (h : Has w0 w (DRes b F S :: Rs)) (hS : LogIs S a 40 n 100 f) (hR : R n f) (ha : 0 ≤ a) (ha1 : a ≤ 60) (hn : 0 ≤ n) (hn1 : n ≤ 900001) :
    Calls Try.prog 17 #[.pointer (some ⟨b, 0, none⟩), .int .i64 a, .int .i64 40] w fun e w' => DonePost w0 b a R S.steps Rs e w' := by
  refine (has_openL h hS ha (by omega) (by omega) hn (by omega)).mono ?_
  rintro e w' ⟨wb, rfl, hh⟩
  exact ⟨wb, F, S, n, f, rfl, by omega, hS, hR, hh⟩

theorem has_openD {s N : Int} (h : Has w0 w (DRes b F S :: Rs)) (hS : LogBusy S a s n N f ps) (hfu : S.fuse = -1) (ha : 0 ≤ a) (hs : 3 ≤ s) (has : a + s ≤ N) (hn : 0 ≤ n) (hn1 : n ≤ 1000000) (hok : GroupOk a s N (rawsOf ps)) (hpb : ∀ p ∈ ps, SecOk p.2) (hne : 0 < ps.length) (hk : S.steps ≤ 900000000) :
    Calls Try.prog 17 #[.pointer (some ⟨b, 0, none⟩), .int .i64 a, .int .i64 s] w fun e w' => ∃ wb F' S', e = .returned (.tuple #[.pointer (some ⟨wb, 0, none⟩), .int .i64 0]) ∧ S'.steps ≤ S.steps + ps.length + 3 ∧ LogIs S' a s (n + 1) N (updL f ps) ∧ Has w0 w' (WRes wb b a s (n + 1) :: DRes b F' S' :: Rs) := by
  have n1 : S.n ≤ 8192 := by obtain ⟨_, _, _, h, _⟩ := h.dat; exact h.ok.n1
  have hN := hS.dn
  have hlr : (ps.length : Int) ≤ roomF s := by have := hok.1; simpa [rawsOf] using this
  have hlen : ps.length ≤ 8192 := by have h2 := roomF_bd hs; omega
  have hg := gfits_of ha hs has hok
  obtain ⟨e1, e2, e3, e4⟩ := rd_head (a := a) (s := s) (g := n + 1) (p := (ps.length : Int)) ⟨ha, by omega⟩ ⟨by omega, by omega⟩ ⟨by omega, by omega⟩ ⟨by omega, by omega⟩
  have hbd := finish_bd S a s ps (n + 1)
  rw [hS.calm.pend] at hbd
  simp only [List.length_nil] at hbd
  have hv : (S.now a).getD Z = sec (headLs a s (n + 1) (ps.length : Int)) := by rw [← headA_sec]; exact hS.head
  have hpd : S.pend.length + ps.length + 100 < 1000000000 := by rw [hS.calm.pend]; simp only [List.length_nil]; omega
  have hz : (S.finish a s ps (n + 1)).1 = 0 := finish_fuse hS.calm.on hfu (fun p hp => by have := hg.outside p hp; rw [hN]; omega) (by rw [hN]; omega)
  have := open_resumed (ps := ps) h.dat hS.calm.on (by omega) (by omega) ⟨hs, ha, by omega⟩ (headLs_len _ _ _ _) (headLs_bd _ _ _ _) hv (by rw [e1, e2, e3, e4]; simp) (by rw [e1]; simp) (by rw [e2]; simp) e4 (by rw [e4]; exact hlr) (by rw [hN]; exact hok) hS.holds hpb hne (by omega) hpd (by rw [e3]; exact hz)
  rw [e3] at this
  refine this.mono ?_
  rintro e w' ⟨hd, hcase⟩
  rcases finish_out hg hS with ⟨z, lg⟩ | ⟨z, off, lg⟩
  · rcases hcase with ⟨_, wb, he, hwb, hw'⟩ | ⟨hz', _⟩
    · obtain ⟨F', hh⟩ := h.disk hd
      refine ⟨wb, F', _, he, by omega, lg, ?_⟩
      have hlt := hw'.lt
      refine ⟨hh.only, fun r hr => ?_, List.pairwise_cons.2 ⟨fun r hr x hx hxr => ?_, hh.apart⟩⟩
      · rcases List.mem_cons.1 hr with rfl | hr
        · exact ⟨hw', fun x hx => by simp [WRes, BRes] at hx; subst hx; exact ⟨by have := h.only.size; omega, hlt⟩⟩
        · exact hh.each r hr
      · simp [WRes, BRes] at hx
        subst hx
        rcases List.mem_cons.1 hr with rfl | hr
        · exact wal_not_disk hh.dat hw' hxr
        · have := ((h.each r (by simp [hr])).2 x hxr).2
          omega
    · exact absurd z hz'
  · omega

theorem open_done_busy {R : Int → (Int → Array Value) → Prop} (h : Has w0 w (DRes b F S :: Rs)) (hS : LogBusy S a 40 n 100 f ps) (hR : R (n + 1) (updL f ps)) (hfu : S.fuse = -1) (ha : 0 ≤ a) (ha1 : a ≤ 60) (hn : 0 ≤ n) (hn1 : n ≤ 900000) (hok : GroupOk a 40 100 (rawsOf ps)) (hpb : ∀ p ∈ ps, IsB p.2) (hne : 0 < ps.length) (hk : S.steps ≤ 900000000) :
    Calls Try.prog 17 #[.pointer (some ⟨b, 0, none⟩), .int .i64 a, .int .i64 40] w fun e w' => DonePost w0 b a R S.steps Rs e w' := by
  have hlen := group_len hok
  refine (has_openD h hS hfu ha (by omega) (by omega) hn (by omega) hok (fun p hp => (hpb p hp).ok) hne hk).mono ?_
  rintro e w' ⟨wb, F', S', rfl, hst, lg, hh⟩
  exact ⟨wb, F', S', n + 1, updL f ps, rfl, by omega, lg, hR, hh⟩

theorem open_done_out (h : Has w0 w (DRes b F S :: Rs)) (hS : LogOut S a 40 n 100 f ps) (hfu : S.fuse = -1) (ha : 0 ≤ a) (ha1 : a ≤ 60) (hn : 0 ≤ n) (hn1 : n ≤ 900000) (hok : GroupOk a 40 100 (rawsOf ps)) (hpb : ∀ p ∈ ps, IsB p.2) (hk : S.steps ≤ 900000000) :
    Calls Try.prog 17 #[.pointer (some ⟨b, 0, none⟩), .int .i64 a, .int .i64 40] w fun e w' => DonePost w0 b a (fun n' f' => (n' = n ∧ f' = f) ∨ (n' = n + 1 ∧ f' = updL f ps)) S.steps Rs e w' := by
  rcases hS with hq | hq | hq
  · exact open_done_is h hq (.inl ⟨rfl, rfl⟩) ha ha1 hn (by omega)
  · by_cases hne : 0 < ps.length
    · exact open_done_busy h hq (.inr ⟨rfl, rfl⟩) hfu ha ha1 hn hn1 hok hpb hne hk
    · have hp : ps = [] := List.eq_nil_of_length_eq_zero (by omega)
      subst hp
      exact open_done_is h hq.none (.inr ⟨rfl, (updL_nil f).symm⟩) ha ha1 (by omega) (by omega)
  · exact open_done_is h hq (.inr ⟨rfl, rfl⟩) ha ha1 (by omega) (by omega)

theorem open_done_two {m : Int} (h : Has w0 w (DRes b F S :: Rs)) (hS : LogIs S a 40 n 100 f ∨ LogIs S a 40 m 100 f) (ha : 0 ≤ a) (ha1 : a ≤ 60) (hn : 0 ≤ n) (hn1 : n ≤ 900000) (hm : 0 ≤ m) (hm1 : m ≤ 900000) :
    Calls Try.prog 17 #[.pointer (some ⟨b, 0, none⟩), .int .i64 a, .int .i64 40] w fun e w' => DonePost w0 b a (fun n' f' => (n' = n ∨ n' = m) ∧ f' = f) S.steps Rs e w' := by
  rcases hS with hq | hq
  · exact open_done_is h hq ⟨.inl rfl, rfl⟩ ha ha1 hn (by omega)
  · exact open_done_is h hq ⟨.inr rfl, rfl⟩ ha ha1 hm (by omega)
end

/-! What holds between calls. -/
structure CSt where
  n : Int
  f : Int → Array Value
  S : St
  F : List Nat
  wb : Nat
  G : List Nat
  hv : Value

structure CCom (w wr : World) (a : Int) (b i : Nat) (X : CSt) : Prop where
  n0 : 0 ≤ X.n
  n1 : X.n ≤ i
  st : X.S.steps ≤ 2 + 1000 * (i : Int)
  pd : X.S.pend.length ≤ 200
  isB : ∀ x, IsB (X.f x)
  has : Has w wr (DRes b X.F X.S :: WRes X.wb b a 40 X.n :: QRes X.G X.hv (rowsF a X.f) :: [])

/-- On; or off within a commit of ps; or off within a format. -/
def CMode (w : World) (a : Int) (X : CSt) (v12 v13 v14 : Value) : Prop :=
  (LogIs X.S a 40 X.n 100 X.f ∧ v13 = .bool false ∧ v14 = .bool false) ∨
  (X.S.on = false ∧ v13 = .bool true ∧ v14 = .bool false ∧ ∃ ps, PutsAt w [] v12 ps ∧ GroupOk a 40 100 (rawsOf ps) ∧ (∀ p ∈ ps, IsB p.2) ∧ ∀ keep, LogOut (X.S.booted keep) a 40 X.n 100 X.f ps) ∨
  (X.S.on = false ∧ v13 = .bool false ∧ v14 = .bool true ∧ ∀ keep, LogIs (X.S.booted keep) a 40 X.n 100 X.f ∨ LogIs (X.S.booted keep) a 40 0 100 X.f)

def CRel (w : World) (a : Int) (b i : Nat) (v8 v9 v11 v12 v13 v14 : Value) (wr : World) : Prop := ∃ X : CSt, v8 = pv X.wb ∧ v9 = X.hv ∧ v11 = .int .i64 X.n ∧ CCom w wr a b i X ∧ CMode w a X v12 v13 v14
theorem CRel.mk {w : World} {a : Int} {b i : Nat} {v12 v13 v14 : Value} {wr : World} (X : CSt) (h1 : CCom w wr a b i X) (h2 : CMode w a X v12 v13 v14) : CRel w a b i (pv X.wb) X.hv (.int .i64 X.n) v12 v13 v14 wr := ⟨X, rfl, rfl, rfl, h1, h2⟩

theorem CCom.next {w wr : World} {a : Int} {b i : Nat} {X : CSt} (h : CCom w wr a b i X) : CCom w wr a b (i + 1) X := ⟨h.n0, by have := h.n1; omega, by have := h.st; omega, h.pd, h.isB, h.has⟩
theorem CCom.later {w wr wr' : World} {a : Int} {b i : Nat} {X : CSt} (h : CCom w wr a b i X) (ho : Only [] wr wr') : CCom w wr' a b i X := ⟨h.n0, h.n1, h.st, h.pd, h.isB, h.has.later ho⟩

/-! The calls that came in. -/
structure OpsIn (w : World) (ad : Option Addr) (len : Nat) (K N : Nat → Int) (lv kv : Nat → Value) (rs : Nat → List (Int × Nat)) (vs : Nat → Nat → Array Value) (keep : Nat → List Int) : Prop where
  small : len ≤ 9223372036854775807
  each : ∀ i, i < len → ∃ g o, ad = some ⟨g, o, none⟩ ∧ g < w.heap.size ∧ w.cell? ⟨g, o + i * 4, none⟩ = some (.int .i64 (K i)) ∧ w.cell? ⟨g, o + i * 4 + 1, none⟩ = some (.int .i64 (N i)) ∧ w.cell? ⟨g, o + i * 4 + 2, none⟩ = some (lv i) ∧ w.cell? ⟨g, o + i * 4 + 3, none⟩ = some (kv i)
  kb : ∀ i, i < len → -9223372036854775808 ≤ K i ∧ K i ≤ 9223372036854775807
  nb : ∀ i, i < len → -9223372036854775808 ≤ N i ∧ N i ≤ 9223372036854775807
  puts : ∀ i, i < len → PutsIn w (lv i) (rs i) (vs i) ∧ ∀ j r, (rs i)[j]? = some r → r.2 = 64 → IsB (vs i j)
  keeps : ∀ i, i < len → ∀ F : List Nat, (∀ y ∈ F, w.heap.size ≤ y) → KeepAt w F (kv i) (keep i)

def psOf (rs : List (Int × Nat)) (vs : Nat → Array Value) : List (Int × Array Value) := rs.mapIdx (fun i r => (r.1, vs i))
theorem psOf_at {rs : List (Int × Nat)} {vs : Nat → Array Value} {i : Nat} {p : Int × Array Value} (h : (psOf rs vs)[i]? = some p) : ∃ r, rs[i]? = some r ∧ p = (r.1, vs i) := by
  rw [psOf, List.getElem?_mapIdx] at h
  cases hr : rs[i]? with
  | none => rw [hr] at h; cases h
  | some r => rw [hr] at h; exact ⟨r, rfl, by simpa using h.symm⟩
theorem psOf_raws {rs : List (Int × Nat)} {vs : Nat → Array Value} (h : ∀ r ∈ rs, r.2 = 64) : rawsOf (psOf rs vs) = rs := by
  apply List.ext_getElem?
  intro i
  rw [rawsOf, List.getElem?_map, psOf, List.getElem?_mapIdx]
  cases hr : rs[i]? with
  | none => rfl
  | some r =>
    have := h r (List.mem_of_getElem? hr)
    simp only [Option.map_some]
    rw [← this]
theorem psOf_puts {w : World} {lv : Value} {rs : List (Int × Nat)} {vs : Nat → Array Value} (hp : PutsIn w lv rs vs) (h : ∀ r ∈ rs, r.2 = 64) (hl : rs.length ≤ 1000000) {F : List Nat} (hF : ∀ y ∈ F, w.heap.size ≤ y) : PutsAt w F lv (psOf rs vs) := by
  obtain ⟨a, cap, hlv, hall⟩ := hp.raws
  have hlen : (psOf rs vs).length = rs.length := by simp [psOf]
  refine ⟨a, cap, by rw [hlen]; exact hlv, by rw [hlen]; exact hl, fun i p hpi => ?_⟩
  obtain ⟨r, hr, rfl⟩ := psOf_at hpi
  have h64 := h r (List.mem_of_getElem? hr)
  obtain ⟨_, g, o, ad, cap', e1, e2, e3, e4⟩ := hall i r hr
  obtain ⟨ok, g2, o2, g', o', cap2, ⟨n2, c2, e5⟩, e6, e7, e8⟩ := hp.bytes i r hr h64
  rw [hlv] at e5
  simp only [Value.slice.injEq] at e5
  obtain ⟨e5, _, _⟩ := e5
  rw [e1] at e5
  simp only [Option.some.injEq, Addr.mk.injEq, and_true] at e5
  obtain ⟨rfl, rfl⟩ := e5
  exact ⟨g, o, _, e1, e2, fun hx => by have := hF g hx; omega, e3, e6, ok, g', o', cap2, rfl, e7, fun hx => by have := hF g' hx; omega, e8⟩

end Go.Proofs.Ytfkpehefofihmaa
