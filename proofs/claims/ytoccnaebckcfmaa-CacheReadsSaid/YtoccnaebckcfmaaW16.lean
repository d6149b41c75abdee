/- A log on a disk beside other things; what ground does. -/
import Derived.Test.YtoccnaebckcfmaaW15
set_option linter.unusedSimpArgs false
set_option linter.unusedVariables false
set_option maxRecDepth 8000
namespace Go.Proofs.Ytoccnaebckcfmaa
open Go.RowKit

def WRes (wb b : Nat) (a s g : Int) : Res := BRes wb (.cells (wrow b a s g) 104)

theorem Has.walAt {w0 w : World} {wb b : Nat} {a s g : Int} {Rs : List Res} (h : Has w0 w Rs) (hm : WRes wb b a s g ∈ Rs) : WalAt w wb b a s g := (h.each _ hm).1
theorem Has.apart2 {w0 w : World} {r s : Res} {Rs : List Res} (h : Has w0 w (r :: s :: Rs)) : ∀ x ∈ r.G, x ∉ s.G := (List.pairwise_cons.1 h.apart).1 s (by simp)
theorem Has.wal_notin {w0 w : World} {b wb : Nat} {F : List Nat} {S : St} {a s g : Int} {Rs : List Res} (h : Has w0 w (DRes b F S :: WRes wb b a s g :: Rs)) : wb ∉ F := fun hx => h.apart2 wb hx (by simp [WRes, BRes])

theorem Has.wpost {w0 w w' : World} {b wb : Nat} {F : List Nat} {S S' : St} {a s g g' : Int} {Rs : List Res} (h : Has w0 w (DRes b F S :: WRes wb b a s g :: Rs)) (hp : WPost w w' wb b F S' a s g') : ∃ F', Has w0 w' (DRes b F' S' :: WRes wb b a s g' :: Rs) := by
  obtain ⟨F', d, f, o, hw'⟩ := hp
  obtain ⟨h1, h2⟩ := List.pairwise_cons.1 h.apart
  obtain ⟨h3, h4⟩ := List.pairwise_cons.1 h2
  have hD := h.each (DRes b F S) (by simp)
  have hW := h.each (WRes wb b a s g) (by simp)
  have hwb := hW.2 wb (by simp [WRes, BRes])
  have hwF : wb ∉ F := h.wal_notin
  have osz := o.size
  have wsz := h.only.size
  have hwF' : wb ∉ F' := fun hx => by
    rcases f wb hx with h | h
    · exact hwF h
    · omega
  refine ⟨F', h.only.trans o (fun x hx => ?_), fun r hr => ?_, List.pairwise_cons.2 ⟨fun r hr x hx hxr => ?_, List.pairwise_cons.2 ⟨h3, h4⟩⟩⟩
  · rcases List.mem_cons.1 hx with rfl | hx
    · exact .inr hwb.1
    · exact .inr (hD.2 x hx).1
  · rcases List.mem_cons.1 hr with rfl | hr
    · refine ⟨d, fun x hx => ⟨?_, dAt_lt d x hx⟩⟩
      rcases f x hx with h | h
      · exact (hD.2 x h).1
      · omega
    rcases List.mem_cons.1 hr with rfl | hr2
    · exact ⟨hw', fun x hx => by simp [WRes, BRes] at hx; subst hx; exact ⟨hwb.1, by omega⟩⟩
    · have hs' := h.each r (by simp [hr2])
      refine ⟨r.stable w w' (fun x hx => o.block x (hs'.2 x hx).2 (fun hxr => ?_)) hs'.1, fun x hx => ⟨(hs'.2 x hx).1, Nat.lt_of_lt_of_le (hs'.2 x hx).2 osz⟩⟩
      rcases List.mem_cons.1 hxr with rfl | hxr
      · exact h3 r hr2 x (by simp [WRes, BRes]) hx
      · exact h1 r (by simp [hr2]) x hxr hx
  · rcases List.mem_cons.1 hr with rfl | hr
    · simp [WRes, BRes] at hxr
      subst hxr
      exact hwF' hx
    · rcases f x hx with h5 | h5
      · exact h1 r (by simp [hr]) x h5 hxr
      · have := ((h.each r (by simp [hr])).2 x hxr).2
        omega

theorem has_commit {w0 w : World} {b wb : Nat} {F : List Nat} {n k : Int} {f : Int → Option (Array Value)} {a s g : Int} {Rs : List Res} {lv : Value} {ps : List (Int × Array Value)} (h : Has w0 w (DRes b F (quiet n k f) :: WRes wb b a s g :: Rs)) (hl : PutsAt w F lv ps) (ha : 0 ≤ a) (hs : 3 ≤ s) (has : a + s ≤ n) (hg : 0 ≤ g) (hg1 : g ≤ 1000000) (hok : GroupOk a s n (rawsOf ps)) (hk0 : 0 ≤ k) (hk : k ≤ 900000000) :
    Calls Try.prog 46 #[.pointer (some ⟨wb, 0, none⟩), lv] w fun e w' => e = .returned (.int .i64 0) ∧ ∃ k' F', k ≤ k' ∧ k' ≤ k + 3 * ps.length + 10 ∧ Has w0 w' (DRes b F' (quiet n k' (putLog f a s g ps)) :: WRes wb b a s (g + 1) :: Rs) := by
  have n1 : n ≤ 8192 := by obtain ⟨_, _, _, h, _⟩ := h.dat; exact h.ok.n1
  obtain ⟨k', e1, e2, e3⟩ := commit_quiet (k := k) (f := f) (g := g) ha hs has hok
  have hlen : ps.length ≤ 8192 := by
    have h1 := hok.1
    have h2 := roomF_bd hs
    simp only [rawsOf, List.length_map] at h1
    omega
  refine (commit_any h.dat (h.walAt (by simp)) h.wal_notin hl ha (by omega) hs (by omega) hg (by omega) hok (by simp only [quiet]; omega) (by simp only [quiet, List.length_nil]; omega)).mono ?_
  rintro e w' ⟨rfl, hp⟩
  rw [e3] at hp ⊢
  obtain ⟨F', hh⟩ := h.wpost hp
  exact ⟨rfl, k', F', e1, e2, hh⟩

theorem has_commit_no {w0 w : World} {b wb : Nat} {F : List Nat} {S : St} {a s g : Int} {Rs : List Res} {lv : Value} {rs : List (Int × Nat)} (h : Has w0 w (DRes b F S :: WRes wb b a s g :: Rs)) (hl : RawsAt w lv rs) (ha : 0 ≤ a) (ha1 : a ≤ 8192) (hs : 3 ≤ s) (hs1 : s ≤ 8192) (hno : ¬ GroupOk a s S.n rs) :
    Calls Try.prog 46 #[.pointer (some ⟨wb, 0, none⟩), lv] w fun e w' => e = .returned (.int .i64 20) ∧ Has w0 w' (DRes b F S :: WRes wb b a s g :: Rs) := by
  refine (commit_no h.dat (h.walAt (g := g) (by simp)) hl ha ha1 hs hs1 hno).mono ?_
  rintro e w' ⟨rfl, ho⟩
  exact ⟨rfl, h.later ho⟩

/-- A log is opened on a disk that is on, where its head says that no group is in progress. -/
theorem has_open {w0 w : World} {b : Nat} {F : List Nat} {S : St} {a s g : Int} {Rs : List Res} (h : Has w0 w (DRes b F S :: Rs)) (hon : S.on = true) (ha : 0 ≤ a) (hs : 3 ≤ s) (has : a + s ≤ S.n) (hg : 0 ≤ g) (hg1 : g < 4294967296) (hv : (S.now a).getD Z = headA a s g 0) :
    Calls Try.prog 29 #[.pointer (some ⟨b, 0, none⟩), .int .i64 a, .int .i64 s] w fun e w' => ∃ wb, e = .returned (.tuple #[.pointer (some ⟨wb, 0, none⟩), .int .i64 0]) ∧ Has w0 w' (WRes wb b a s g :: DRes b F S :: Rs) := by
  have n1 : S.n ≤ 8192 := by obtain ⟨_, _, _, h, _⟩ := h.dat; exact h.ok.n1
  obtain ⟨e1, e2, e3, e4⟩ := rd_head (a := a) (s := s) (g := g) (p := 0) ⟨ha, by omega⟩ ⟨by omega, by omega⟩ ⟨hg, hg1⟩ (by omega)
  have hrm := roomF_nn s
  have := open_quiet h.dat hon (by omega) (by omega) ⟨hs, ha, by omega⟩ (headLs_len a s g 0) (headLs_bd a s g 0) (by rw [hv, headA_sec]) (by rw [e1, e2, e3, e4]; simp) (by rw [e1]; simp) (by rw [e2]; simp) e4 (by rw [e4]; exact hrm)
  rw [e3] at this
  refine this.mono ?_
  rintro e w' ⟨wb, rfl, hwb, hw', ho⟩
  exact ⟨wb, rfl, h.more ho (WRes wb b a s g) hw' (fun x hx => by simp [WRes, BRes] at hx; subst hx; exact ⟨hwb, hw'.lt⟩)⟩

theorem has_open_size {w0 w : World} {b : Nat} {F : List Nat} {S : St} {a s s' g : Int} {Rs : List Res} (h : Has w0 w (DRes b F S :: Rs)) (hon : S.on = true) (ha : 0 ≤ a) (hs : 3 ≤ s) (has : a + s ≤ S.n) (hs' : 0 ≤ s') (hs1 : s' < 4294967296) (hne : s' ≠ s) (hg : 0 ≤ g) (hg1 : g < 4294967296) (hv : (S.now a).getD Z = headA a s' g 0) :
    Calls Try.prog 29 #[.pointer (some ⟨b, 0, none⟩), .int .i64 a, .int .i64 s] w fun e w' => e = .returned (.tuple #[.pointer none, .int .i64 4]) ∧ Has w0 w' (DRes b F S :: Rs) := by
  have n1 : S.n ≤ 8192 := by obtain ⟨_, _, _, h, _⟩ := h.dat; exact h.ok.n1
  obtain ⟨e1, e2, e3, e4⟩ := rd_head (a := a) (s := s') (g := g) (p := 0) ⟨ha, by omega⟩ ⟨by omega, by omega⟩ ⟨hg, hg1⟩ (by omega)
  refine (open_size h.dat hon (by omega) (by omega) ⟨hs, ha, by omega⟩ (headLs_len a s' g 0) (headLs_bd a s' g 0) (by rw [hv, headA_sec]) (by rw [e1, e2, e3, e4]; simp) (by rw [e1]; simp) (by rw [e2]; simp [hne])).mono ?_
  rintro e w' ⟨rfl, ho⟩
  exact ⟨rfl, h.later ho⟩

theorem has_open_none {w0 w : World} {b : Nat} {F : List Nat} {S : St} {a s : Int} {Rs : List Res} (h : Has w0 w (DRes b F S :: Rs)) (hon : S.on = true) (ha : 0 ≤ a) (hs : 3 ≤ s) (has : a + s ≤ S.n) (hv : (S.now a).getD Z = Z) :
    Calls Try.prog 29 #[.pointer (some ⟨b, 0, none⟩), .int .i64 a, .int .i64 s] w fun e w' => e = .returned (.tuple #[.pointer none, .int .i64 4]) ∧ Has w0 w' (DRes b F S :: Rs) := by
  have n1 : S.n ≤ 8192 := by obtain ⟨_, _, _, h, _⟩ := h.dat; exact h.ok.n1
  refine (open_other (l := List.replicate 64 0) h.dat hon (by omega) (by omega) ⟨hs, ha, by omega⟩ (by simp) (by simp) (by rw [hv, sec_zero]) (decide_eq_false (head_ne_zero _ _ _ _))).mono ?_
  rintro e w' ⟨rfl, ho⟩
  exact ⟨rfl, h.later ho⟩

theorem writeAll_one {n k : Int} {f : Int → Option (Array Value)} {a : Int} {v : Array Value} (ha : 0 ≤ a) (h : a < n) : (quiet n k f).writeAll [(a, v)] = (0, quiet n (k + 1 + 1) (updF f a v)) :=
  writeAll_quiet n k f [(a, v)] (fun p hp => by rw [List.mem_singleton.1 hp]; exact ⟨ha, h⟩)

theorem has_format {w0 w : World} {b : Nat} {F : List Nat} {n k : Int} {f : Int → Option (Array Value)} {a s : Int} {Rs : List Res} (h : Has w0 w (DRes b F (quiet n k f) :: Rs)) (ha : 0 ≤ a) (hs : 3 ≤ s) (has : a + s ≤ n) (hk0 : 0 ≤ k) (hk : k ≤ 900000000) :
    Calls Try.prog 36 #[.pointer (some ⟨b, 0, none⟩), .int .i64 a, .int .i64 s] w fun e w' => e = .returned (.int .i64 0) ∧ ∃ F', Has w0 w' (DRes b F' (quiet n (k + 1 + 1) (updF f a (headA a s 0 0))) :: Rs) := by
  have n1 : n ≤ 8192 := by obtain ⟨_, _, _, h, _⟩ := h.dat; exact h.ok.n1
  have hw := writeAll_one (n := n) (k := k) (f := f) (a := a) (v := headA a s 0 0) ha (by omega)
  refine (format_any h.dat a s (by omega) (by omega) ⟨hs, ha, by simp only [quiet]; omega⟩ (by simp only [quiet]; omega) (by simp [quiet])).mono ?_
  rintro e w' ⟨rfl, hp⟩
  rw [hw] at hp ⊢
  exact ⟨rfl, h.disk hp⟩

end Go.Proofs.Ytoccnaebckcfmaa
