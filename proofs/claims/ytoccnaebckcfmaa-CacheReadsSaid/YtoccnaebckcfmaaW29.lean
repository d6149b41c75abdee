/- A group is done wholly or not at all: what a commit leaves behind a crash. -/
import Derived.Test.YtoccnaebckcfmaaW28
import Derived.Test.YtoccnaebckcfmaaW22
set_option linter.unusedSimpArgs false
set_option linter.unusedVariables false
namespace Go.Proofs.Ytoccnaebckcfmaa

/-- The sectors f behind the group ps. -/
def updL (f : Int → Array Value) (ps : List (Int × Array Value)) (x : Int) : Array Value := (putAll (fun _ => none) ps x).getD (f x)
theorem updL_at {f : Int → Array Value} {ps : List (Int × Array Value)} (hn : (ps.map (·.1)).Nodup) {p : Int × Array Value} (hp : p ∈ ps) : updL f ps p.1 = p.2 := by
  rw [updL, putAll_at hn hp]; rfl
theorem updL_other {f : Int → Array Value} {ps : List (Int × Array Value)} {x : Int} (h : ∀ p ∈ ps, p.1 ≠ x) : updL f ps x = f x := by
  rw [updL, putAll_other h]; rfl

/-- A log with n groups, none in progress; the other sectors are f. -/
structure LogIs (S : St) (a s n N : Int) (f : Int → Array Value) : Prop where
  calm : Calm S
  dn : S.n = N
  head : S.look a = headA a s n 0
  rest : ∀ x, (x < a ∨ a + s ≤ x) → S.look x = f x
/-- A log with n groups, and the group ps in progress. -/
structure LogBusy (S : St) (a s n N : Int) (f : Int → Array Value) (ps : List (Int × Array Value)) : Prop where
  calm : Calm S
  dn : S.n = N
  head : S.look a = headA a s (n + 1) ps.length
  holds : Holds S a ps
  rest : ∀ x, (x < a ∨ a + s ≤ x) → S.look x = f x ∨ ∃ p ∈ ps, p.1 = x ∧ S.look x = p.2
/-- One of them. -/
def LogOut (S : St) (a s n N : Int) (f : Int → Array Value) (ps : List (Int × Array Value)) : Prop := LogIs S a s n N f ∨ LogBusy S a s n N f ps ∨ LogIs S a s (n + 1) N (updL f ps)

/-- Where a group lies. -/
structure GFits (a s N : Int) (ps : List (Int × Array Value)) : Prop where
  a0 : 0 ≤ a
  s3 : 3 ≤ s
  aN : a + s ≤ N
  len : 1 + (numsF ps.length : Int) + ps.length ≤ s
  outside : ∀ p ∈ ps, 0 ≤ p.1 ∧ p.1 < N ∧ (p.1 < a ∨ a + s ≤ p.1)
  nodup : (ps.map (·.1)).Nodup
theorem gfits_of {a s N : Int} {ps : List (Int × Array Value)} (a0 : 0 ≤ a) (s3 : 3 ≤ s) (aN : a + s ≤ N) (hok : GroupOk a s N (rawsOf ps)) : GFits a s N ps := by
  refine ⟨a0, s3, aN, room_fits s3 (by have := hok.1; simpa [rawsOf] using this), fun p hp => ?_, by have := hok.2.2; rw [rawsOf, List.map_map] at this; exact this⟩
  have h := hok.2.1 (p.1, 64) (List.mem_map.2 ⟨p, hp, rfl⟩)
  have h1 := h.1
  have h2 := h.2.1
  have h3 := h.2.2.1
  simp only at h1 h2 h3
  exact ⟨h1, h2, by omega⟩

theorem look_now {S T : St} {f : Int → Option (Array Value)} {x : Int} (h : T.now = f) (e : f x = S.now x) : T.look x = S.look x := by unfold St.look; rw [h, e]

theorem copies_nodup (a : Int) (ps : List (Int × Array Value)) : ((copiesL a ps).map (·.1)).Nodup := by
  rw [copiesL, List.map_append, List.map_map, List.map_map, List.nodup_append]
  refine ⟨?_, ?_, ?_⟩
  · rw [List.nodup_iff_pairwise_ne, List.pairwise_map]
    exact (List.nodup_iff_pairwise_ne.1 List.nodup_range).imp (fun hne e => hne (by simp [numPut] at e; omega))
  · rw [List.nodup_iff_pairwise_ne, List.pairwise_map]
    exact (List.nodup_iff_pairwise_ne.1 List.nodup_range).imp (fun hne e => hne (by simp [bytPut] at e; omega))
  · intro x hx y hy e
    obtain ⟨i, hi, rfl⟩ := List.mem_map.1 hx
    obtain ⟨j, hj, rfl⟩ := List.mem_map.1 hy
    have := List.mem_range.1 hi
    simp [numPut, bytPut] at e
    omega

/-- Behind copies the log holds the group. -/
theorem holds_copies {S T : St} {a : Int} {ps : List (Int × Array Value)} (h : T.now = putAll S.now (copiesL a ps)) : Holds T a ps := by
  refine ⟨fun i hi => ?_, fun i hi => ?_⟩
  · have hm : numPut a ps i ∈ copiesL a ps := List.mem_append.2 (.inl (List.mem_map.2 ⟨i, List.mem_range.2 hi, rfl⟩))
    have := putAll_at (f := S.now) (copies_nodup a ps) hm
    rw [h]
    show (putAll S.now (copiesL a ps) (numPut a ps i).1).getD Z = _
    rw [this]
    rfl
  · have hm : bytPut a ps i ∈ copiesL a ps := List.mem_append.2 (.inr (List.mem_map.2 ⟨i, List.mem_range.2 hi, rfl⟩))
    have := putAll_at (f := S.now) (copies_nodup a ps) hm
    rw [h]
    show (putAll S.now (copiesL a ps) (bytPut a ps i).1).getD Z = _
    rw [this]
    rfl
theorem Holds.of_look {S T : St} {a : Int} {ps : List (Int × Array Value)} (h : Holds S a ps) (e : ∀ x, a < x → x < a + 1 + numsF ps.length + ps.length → T.look x = S.look x) : Holds T a ps :=
  ⟨fun i hi => (e _ (by omega) (by omega)).trans (h.nums i hi), fun i hi => (e _ (by omega) (by omega)).trans (h.byts i hi)⟩

/-- The group's sectors, and the head that forgets it. -/
theorem finish_out {S : St} {a s n N : Int} {f : Int → Array Value} {ps : List (Int × Array Value)} (hf : GFits a s N ps) (h : LogBusy S a s n N f ps) :
    ((S.finish a s ps (n + 1)).1 = 0 ∧ LogIs (S.finish a s ps (n + 1)).2 a s (n + 1) N (updL f ps)) ∨ ((S.finish a s ps (n + 1)).1 = 2 ∧ (S.finish a s ps (n + 1)).2.on = false ∧ ∀ keep, LogOut ((S.finish a s ps (n + 1)).2.booted keep) a s n N f ps) := by
  have hin : ∀ p ∈ ps, 0 ≤ p.1 ∧ p.1 < S.n := fun p hp => by have := hf.outside p hp; rw [h.dn]; exact ⟨this.1, this.2.1⟩
  have hps : ∀ p ∈ ps, p.1 ≠ a := fun p hp => by have := hf.outside p hp; have := hf.s3; omega
  unfold St.finish
  generalize hH0 : headA a s (n + 1) 0 = H0
  rcases writeAll_out h.calm ps hin with ⟨e1, c1, n1, w1⟩ | ⟨e1, fe⟩
  · rw [if_pos e1]
    generalize (S.writeAll ps).2 = T at *
    have hin2 : ∀ p ∈ [(a, H0)], 0 ≤ (p : Int × Array Value).1 ∧ p.1 < T.n := fun p hp => by
      rw [List.mem_singleton.1 hp, n1, h.dn]
      have := hf.a0
      have := hf.s3
      have := hf.aN
      exact ⟨by simp only; omega, by simp only; omega⟩
    have lT : ∀ x, (∀ p ∈ ps, p.1 ≠ x) → T.look x = S.look x := fun x hx => look_now w1 (putAll_other hx)
    have lP : ∀ p ∈ ps, T.look p.1 = p.2 := fun p hp => by unfold St.look; rw [w1, putAll_at hf.nodup hp, Option.getD_some]
    have lR : ∀ x, (x < a ∨ a + s ≤ x) → T.look x = updL f ps x := fun x hx => by
      by_cases hm : ∃ p ∈ ps, p.1 = x
      · obtain ⟨p, hp, rfl⟩ := hm
        rw [lP p hp, updL_at hf.nodup hp]
      · have hno : ∀ p ∈ ps, p.1 ≠ x := fun p hp e => hm ⟨p, hp, e⟩
        rw [lT x hno, updL_other hno]
        rcases h.rest x hx with e | ⟨p, hp, e, _⟩
        · exact e
        · exact absurd e (hno p hp)
    have s3 := hf.s3
    have len := hf.len
    rcases writeAll_out c1 _ hin2 with ⟨e2, c2, n2, w2⟩ | ⟨e2, fe2⟩
    · refine .inl ⟨e2, c2, by rw [n2, n1, h.dn], ?_, fun x hx => ?_⟩
      · unfold St.look; rw [w2, putAll_one, updF, if_pos rfl, Option.getD_some, hH0]
      · rw [look_now (S := T) w2 (by rw [putAll_one, updF, if_neg (by omega)])]
        exact lR x hx
    · refine .inr ⟨e2, fe2.off, fun keep => ?_⟩
      have hlk := fe2.boot keep
      have hother : ∀ x, x ≠ a → ((T.writeAll [(a, H0)]).2.booted keep).look x = T.look x := fun x hx => by
        rcases hlk x with e | ⟨p, hp, e, _⟩
        · exact e
        · rw [List.mem_singleton.1 hp] at e; exact absurd e.symm hx
      have hrest : ∀ x, (x < a ∨ a + s ≤ x) → ((T.writeAll [(a, H0)]).2.booted keep).look x = updL f ps x := fun x hx => (hother x (by omega)).trans (lR x hx)
      have hdn : ((T.writeAll [(a, H0)]).2.booted keep).n = N := (fe2.n.trans n1).trans h.dn
      rcases hlk a with e | ⟨p, hp, _, e⟩
      · refine .inr (.inl ⟨calm_booted _ _, hdn, e.trans ((lT a hps).trans h.head), h.holds.of_look (fun x h1 h2 => (hother x (by omega)).trans (lT x (fun p hp e => by have := hf.outside p hp; omega))), fun x hx => ?_⟩)
        rw [hrest x hx]
        by_cases hm : ∃ p ∈ ps, p.1 = x
        · obtain ⟨p, hp, rfl⟩ := hm
          exact .inr ⟨p, hp, rfl, updL_at hf.nodup hp⟩
        · exact .inl (updL_other (fun p hp e => hm ⟨p, hp, e⟩))
      · rw [List.mem_singleton.1 hp] at e
        exact .inr (.inr ⟨calm_booted _ _, hdn, e.trans hH0.symm, hrest⟩)
  · rw [if_neg (by omega)]
    refine .inr ⟨e1, fe.off, fun keep => .inr (.inl ?_)⟩
    have hlk := fe.boot keep
    have s3 := hf.s3
    have len := hf.len
    have hother : ∀ x, (∀ p ∈ ps, p.1 ≠ x) → ((S.writeAll ps).2.booted keep).look x = S.look x := fun x hx => by
      rcases hlk x with e | ⟨p, hp, e, _⟩
      · exact e
      · exact absurd e (hx p hp)
    refine ⟨calm_booted _ _, fe.n.trans h.dn, (hother a hps).trans h.head, h.holds.of_look (fun x h1 h2 => hother x (fun p hp e => by have := hf.outside p hp; omega)), fun x hx => ?_⟩
    rcases hlk x with e | ⟨p, hp, e1, e2⟩
    · rw [e]; exact h.rest x hx
    · exact .inr ⟨p, hp, e1, e2⟩

end Go.Proofs.Ytoccnaebckcfmaa
