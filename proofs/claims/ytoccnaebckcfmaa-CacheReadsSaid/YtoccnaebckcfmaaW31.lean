/- Commit, Open and Format on a disk with any fuse, beside other things. -/
import Derived.Test.YtoccnaebckcfmaaW30
import Derived.Test.YtoccnaebckcfmaaW23
import Derived.Test.YtoccnaebckcfmaaW16
set_option linter.unusedSimpArgs false
set_option linter.unusedVariables false
set_option maxRecDepth 8000
namespace Go.Proofs.Ytoccnaebckcfmaa
open Go.RowKit

theorem commit_bd (S : St) (a s g : Int) (ps : List (Int × Array Value)) : (S.commit a s g ps).st.steps ≤ S.steps + 3 * ps.length + 20 ∧ (S.commit a s g ps).st.pend.length ≤ S.pend.length + 3 * ps.length + 20 := by
  have h1 := writeAll_bd (copiesL a ps) S
  rw [copiesL_len] at h1
  have hn : numsF ps.length ≤ ps.length := by unfold numsF; omega
  have h2 := writeAll_bd [(a, headA a s (g + 1) (ps.length : Int))] (S.writeAll (copiesL a ps)).2
  simp only [List.length_singleton] at h2
  have h3 := finish_bd ((S.writeAll (copiesL a ps)).2.writeAll [(a, headA a s (g + 1) (ps.length : Int))]).2 a s ps (g + 1)
  unfold St.commit
  split
  · constructor <;> simp only <;> omega
  · split
    · constructor <;> simp only <;> omega
    · split
      · constructor <;> simp only <;> omega
      · constructor <;> simp only <;> omega

theorem wal_not_disk {w : World} {b wb b' : Nat} {F : List Nat} {S : St} {a s g : Int} (hd : DAt w b F S) (hw : WalAt w wb b' a s g) : wb ∉ F := by
  obtain ⟨mn, ms, pv, h, rfl⟩ := hd
  unfold WalAt at hw
  intro hx
  simp only [foot, List.mem_cons, Option.mem_toList] at hx
  rcases hx with rfl | rfl | rfl | hx
  · rw [h.row] at hw; simp at hw
  · obtain ⟨es, c, hb, _⟩ := h.now
    rw [hb] at hw; simp at hw
  · obtain ⟨es, c, hb, _⟩ := h.sure
    rw [hb] at hw; simp at hw
  · obtain ⟨cur, hc⟩ := ownsRow_block h.pend hx
    rw [hc] at hw; simp at hw

/-- Behind a Commit: done; or fallen, and then behind any boot one of the three. -/
def ComPost (w0 : World) (b wb : Nat) (a s n N : Int) (f : Int → Array Value) (ps : List (Int × Array Value)) (k : Int) (Rs : List Res) (e : Ending) (w' : World) : Prop :=
  ∃ F' S', S'.steps ≤ k + 3 * ps.length + 20 ∧ S'.pend.length ≤ 3 * ps.length + 20 ∧
    ((e = .returned (.int .i64 0) ∧ LogIs S' a s (n + 1) N (updL f ps) ∧ Has w0 w' (DRes b F' S' :: WRes wb b a s (n + 1) :: Rs)) ∨
     (e = .returned (.int .i64 2) ∧ S'.on = false ∧ (∀ keep, LogOut (S'.booted keep) a s n N f ps) ∧ Has w0 w' (DRes b F' S' :: WRes wb b a s n :: Rs)))

theorem has_commitL {w0 w : World} {b wb : Nat} {F : List Nat} {S : St} {a s n N : Int} {f : Int → Array Value} {Rs : List Res} {lv : Value} {ps : List (Int × Array Value)} (h : Has w0 w (DRes b F S :: WRes wb b a s n :: Rs)) (hS : LogIs S a s n N f) (hl : PutsAt w F lv ps) (ha : 0 ≤ a) (hs : 3 ≤ s) (has : a + s ≤ N) (hn : 0 ≤ n) (hn1 : n ≤ 1000000) (hok : GroupOk a s N (rawsOf ps)) (hk : S.steps ≤ 900000000) :
    Calls Try.prog 46 #[.pointer (some ⟨wb, 0, none⟩), lv] w fun e w' => ComPost w0 b wb a s n N f ps S.steps Rs e w' := by
  have n1 : S.n ≤ 8192 := by obtain ⟨_, _, _, h, _⟩ := h.dat; exact h.ok.n1
  have hN := hS.dn
  have hlen : ps.length ≤ 8192 := by
    have h1 := hok.1
    have h2 := roomF_bd hs
    simp only [rawsOf, List.length_map] at h1
    omega
  have hbd := commit_bd S a s n ps
  rw [hS.calm.pend] at hbd
  simp only [List.length_nil] at hbd
  refine (commit_any h.dat (h.walAt (by simp)) h.wal_notin hl ha (by omega) hs (by omega) hn (by omega) (by rw [hN]; exact hok) (by omega) (by rw [hS.calm.pend]; simp only [List.length_nil]; omega)).mono ?_
  rintro e w' ⟨rfl, hp⟩
  obtain ⟨F', hh⟩ := h.wpost hp
  rcases commit_out (gfits_of ha hs has hok) hS with ⟨e1, e2, e3⟩ | ⟨e1, e2, e3, e4⟩
  · rw [e2] at hh
    exact ⟨F', _, hbd.1, by omega, .inl ⟨by rw [e1], e3, hh⟩⟩
  · rw [e2] at hh
    exact ⟨F', _, hbd.1, by omega, .inr ⟨by rw [e1], e3, e4, hh⟩⟩

/-- Behind an Open of a log with a group in progress. -/
def BusyPost (w0 : World) (b : Nat) (a s n N : Int) (f : Int → Array Value) (ps : List (Int × Array Value)) (k : Int) (Rs : List Res) (e : Ending) (w' : World) : Prop :=
  ∃ F' S', S'.steps ≤ k + ps.length + 3 ∧ S'.pend.length ≤ ps.length + 1 ∧
    ((∃ wb, e = .returned (.tuple #[.pointer (some ⟨wb, 0, none⟩), .int .i64 0]) ∧ LogIs S' a s (n + 1) N (updL f ps) ∧ Has w0 w' (WRes wb b a s (n + 1) :: DRes b F' S' :: Rs)) ∨
     (e = .returned (.tuple #[.pointer none, .int .i64 2]) ∧ S'.on = false ∧ (∀ keep, LogOut (S'.booted keep) a s n N f ps) ∧ Has w0 w' (DRes b F' S' :: Rs)))

theorem has_openB {w0 w : World} {b : Nat} {F : List Nat} {S : St} {a s n N : Int} {f : Int → Array Value} {Rs : List Res} {ps : List (Int × Array Value)} (h : Has w0 w (DRes b F S :: Rs)) (hS : LogBusy S a s n N f ps) (ha : 0 ≤ a) (hs : 3 ≤ s) (has : a + s ≤ N) (hn : 0 ≤ n) (hn1 : n ≤ 1000000) (hok : GroupOk a s N (rawsOf ps)) (hpb : ∀ p ∈ ps, SecOk p.2) (hne : 0 < ps.length) (hk : S.steps ≤ 900000000) :
    Calls Try.prog 29 #[.pointer (some ⟨b, 0, none⟩), .int .i64 a, .int .i64 s] w fun e w' => BusyPost w0 b a s n N f ps S.steps Rs e w' := by
  have n1 : S.n ≤ 8192 := by obtain ⟨_, _, _, h, _⟩ := h.dat; exact h.ok.n1
  have hN := hS.dn
  have hlr : (ps.length : Int) ≤ roomF s := by have := hok.1; simpa [rawsOf] using this
  have hlen : ps.length ≤ 8192 := by have h2 := roomF_bd hs; omega
  obtain ⟨e1, e2, e3, e4⟩ := rd_head (a := a) (s := s) (g := n + 1) (p := (ps.length : Int)) ⟨ha, by omega⟩ ⟨by omega, by omega⟩ ⟨by omega, by omega⟩ ⟨by omega, by omega⟩
  have hbd := finish_bd S a s ps (n + 1)
  rw [hS.calm.pend] at hbd
  simp only [List.length_nil] at hbd
  have hv : (S.now a).getD Z = sec (headLs a s (n + 1) (ps.length : Int)) := by rw [← headA_sec]; exact hS.head
  have hpd : S.pend.length + ps.length + 100 < 1000000000 := by rw [hS.calm.pend]; simp only [List.length_nil]; omega
  have fin : ∀ e w', OpenRPost b F S a s (n + 1) ps w e w' → BusyPost w0 b a s n N f ps S.steps Rs e w' := by
    rintro e w' ⟨hd, hcase⟩
    rcases finish_out (gfits_of ha hs has hok) hS with ⟨z, lg⟩ | ⟨z, off, lg⟩
    · rcases hcase with ⟨_, wb, he, hwb, hw'⟩ | ⟨hz, _⟩
      · obtain ⟨F', hh⟩ := h.disk hd
        refine ⟨F', _, by omega, by omega, .inl ⟨wb, he, lg, ?_⟩⟩
        -- the new log's block lies beside all
        have hlt := hw'.lt
        refine ⟨hh.only, fun r hr => ?_, List.pairwise_cons.2 ⟨fun r hr x hx hxr => ?_, hh.apart⟩⟩
        · rcases List.mem_cons.1 hr with rfl | hr
          · exact ⟨hw', fun x hx => by simp [WRes, BRes] at hx; subst hx; exact ⟨by have := h.only.size; omega, hlt⟩⟩
          · exact hh.each r hr
        · simp [WRes, BRes] at hx
          subst hx
          rcases List.mem_cons.1 hr with rfl | hr
          · exact wal_not_disk hh.dat hw' hxr
          · have := ((h.each r (by simp [hr])).2 x hxr).2
            omega
      · exact absurd z hz
    · rcases hcase with ⟨hz, _⟩ | ⟨_, he⟩
      · omega
      · obtain ⟨F', hh⟩ := h.disk hd
        exact ⟨F', _, by omega, by omega, .inr ⟨by rw [he, z], off, lg, hh⟩⟩
  by_cases hz : (S.finish a s ps (n + 1)).1 = 0
  · have := open_resumed (ps := ps) h.dat hS.calm.on (by omega) (by omega) ⟨hs, ha, by omega⟩ (headLs_len _ _ _ _) (headLs_bd _ _ _ _) hv (by rw [e1, e2, e3, e4]; simp) (by rw [e1]; simp) (by rw [e2]; simp) e4 (by rw [e4]; exact hlr) (by rw [hN]; exact hok) hS.holds hpb hne (by omega) hpd (by rw [e3]; exact hz)
    rw [e3] at this
    exact this.mono fin
  · have := open_fell (ps := ps) h.dat hS.calm.on (by omega) (by omega) ⟨hs, ha, by omega⟩ (headLs_len _ _ _ _) (headLs_bd _ _ _ _) hv (by rw [e1, e2, e3, e4]; simp) (by rw [e1]; simp) (by rw [e2]; simp) e4 (by rw [e4]; exact hlr) (by rw [hN]; exact hok) hS.holds hpb hne (by omega) hpd (by rw [e3]; exact hz)
    rw [e3] at this
    exact this.mono fin

end Go.Proofs.Ytoccnaebckcfmaa
