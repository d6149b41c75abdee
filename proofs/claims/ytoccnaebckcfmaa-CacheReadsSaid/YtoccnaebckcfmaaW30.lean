/- A group is done wholly or not at all: what Commit and Format leave behind a crash. -/
import Derived.Test.YtoccnaebckcfmaaW29
set_option linter.unusedSimpArgs false
set_option linter.unusedVariables false
namespace Go.Proofs.Ytoccnaebckcfmaa

theorem commit_out {S : St} {a s n N : Int} {f : Int → Array Value} {ps : List (Int × Array Value)} (hf : GFits a s N ps) (h : LogIs S a s n N f) :
    ((S.commit a s n ps).e = 0 ∧ (S.commit a s n ps).g = n + 1 ∧ LogIs (S.commit a s n ps).st a s (n + 1) N (updL f ps)) ∨ ((S.commit a s n ps).e = 2 ∧ (S.commit a s n ps).g = n ∧ (S.commit a s n ps).st.on = false ∧ ∀ keep, LogOut ((S.commit a s n ps).st.booted keep) a s n N f ps) := by
  have a0 := hf.a0
  have s3 := hf.s3
  have aN := hf.aN
  have len := hf.len
  have hcp : ∀ p ∈ copiesL a ps, a < p.1 ∧ p.1 < a + s := fun p hp => by have := copies_in hp; omega
  have hin : ∀ p ∈ copiesL a ps, 0 ≤ p.1 ∧ p.1 < S.n := fun p hp => by have := hcp p hp; rw [h.dn]; omega
  unfold St.commit
  generalize hH1 : headA a s (n + 1) (ps.length : Int) = H1
  rcases writeAll_out h.calm _ hin with ⟨e1, c1, n1, w1⟩ | ⟨e1, fe⟩
  · rw [if_neg (by simp [e1])]
    have ho1 := holds_copies w1
    generalize (S.writeAll (copiesL a ps)).2 = T at *
    have lT : ∀ x, (x ≤ a ∨ a + s ≤ x) → T.look x = S.look x := fun x hx => look_now w1 (putAll_other (fun p hp e => by have := hcp p hp; omega))
    have hin2 : ∀ p ∈ [(a, H1)], 0 ≤ (p : Int × Array Value).1 ∧ p.1 < T.n := fun p hp => by
      rw [List.mem_singleton.1 hp, n1, h.dn]
      exact ⟨by simp only; omega, by simp only; omega⟩
    rcases writeAll_out c1 _ hin2 with ⟨e2, c2, n2, w2⟩ | ⟨e2, fe2⟩
    · rw [if_neg (by simp [e2])]
      generalize (T.writeAll [(a, H1)]).2 = U at *
      have lU : ∀ x, x ≠ a → U.look x = T.look x := fun x hx => look_now w2 (by rw [putAll_one, updF, if_neg hx])
      have busy : LogBusy U a s n N f ps := by
        refine ⟨c2, by rw [n2, n1, h.dn], ?_, ho1.of_look (fun x h1 h2 => lU x (by omega)), fun x hx => .inl ?_⟩
        · unfold St.look; rw [w2, putAll_one, updF, if_pos rfl, Option.getD_some, hH1]
        · rw [lU x (by omega), lT x (by omega)]; exact h.rest x hx
      rcases finish_out hf busy with ⟨e3, l3⟩ | ⟨e3, o3, l3⟩
      · rw [if_neg (by simp [e3])]
        exact .inl ⟨rfl, rfl, l3⟩
      · rw [if_pos (by rw [e3]; omega)]
        exact .inr ⟨e3, rfl, o3, l3⟩
    · rw [if_pos (by rw [e2]; omega)]
      refine .inr ⟨e2, rfl, fe2.off, fun keep => ?_⟩
      have hlk := fe2.boot keep
      have hother : ∀ x, x ≠ a → ((T.writeAll [(a, H1)]).2.booted keep).look x = T.look x := fun x hx => by
        rcases hlk x with e | ⟨p, hp, e, _⟩
        · exact e
        · rw [List.mem_singleton.1 hp] at e; exact absurd e.symm hx
      have hrest : ∀ x, (x < a ∨ a + s ≤ x) → ((T.writeAll [(a, H1)]).2.booted keep).look x = f x := fun x hx => by rw [hother x (by omega), lT x (by omega)]; exact h.rest x hx
      have hdn : ((T.writeAll [(a, H1)]).2.booted keep).n = N := (fe2.n.trans n1).trans h.dn
      rcases hlk a with e | ⟨p, hp, _, e⟩
      · exact .inl ⟨calm_booted _ _, hdn, e.trans ((lT a (by omega)).trans h.head), hrest⟩
      · rw [List.mem_singleton.1 hp] at e
        exact .inr (.inl ⟨calm_booted _ _, hdn, e.trans hH1.symm, ho1.of_look (fun x h1 h2 => hother x (by omega)), fun x hx => .inl (hrest x hx)⟩)
  · rw [if_pos (by rw [e1]; omega)]
    refine .inr ⟨e1, rfl, fe.off, fun keep => .inl ?_⟩
    have hlk := fe.boot keep
    have hother : ∀ x, (x ≤ a ∨ a + s ≤ x) → ((S.writeAll (copiesL a ps)).2.booted keep).look x = S.look x := fun x hx => by
      rcases hlk x with e | ⟨p, hp, e, _⟩
      · exact e
      · have := hcp p hp; omega
    exact ⟨calm_booted _ _, fe.n.trans h.dn, (hother a (by omega)).trans h.head, fun x hx => (hother x (by omega)).trans (h.rest x hx)⟩

/-- A log formatted anew: the new one; or, behind a crash, the old one or the new one. -/
theorem format_out {S : St} {a s n N : Int} {f : Int → Array Value} (a0 : 0 ≤ a) (s3 : 3 ≤ s) (aN : a + s ≤ N) (h : LogIs S a s n N f) :
    ((S.writeAll [(a, headA a s 0 0)]).1 = 0 ∧ LogIs (S.writeAll [(a, headA a s 0 0)]).2 a s 0 N f) ∨ ((S.writeAll [(a, headA a s 0 0)]).1 = 2 ∧ (S.writeAll [(a, headA a s 0 0)]).2.on = false ∧ ∀ keep, LogIs ((S.writeAll [(a, headA a s 0 0)]).2.booted keep) a s n N f ∨ LogIs ((S.writeAll [(a, headA a s 0 0)]).2.booted keep) a s 0 N f) := by
  generalize hH : headA a s 0 0 = H
  have hin : ∀ p ∈ [(a, H)], 0 ≤ (p : Int × Array Value).1 ∧ p.1 < S.n := fun p hp => by
    rw [List.mem_singleton.1 hp, h.dn]
    exact ⟨by simp only; omega, by simp only; omega⟩
  rcases writeAll_out h.calm _ hin with ⟨e2, c2, n2, w2⟩ | ⟨e2, fe2⟩
  · refine .inl ⟨e2, c2, n2.trans h.dn, ?_, fun x hx => ?_⟩
    · unfold St.look; rw [w2, putAll_one, updF, if_pos rfl, Option.getD_some, hH]
    · rw [look_now (S := S) w2 (by rw [putAll_one, updF, if_neg (by omega)])]
      exact h.rest x hx
  · refine .inr ⟨e2, fe2.off, fun keep => ?_⟩
    have hlk := fe2.boot keep
    have hrest : ∀ x, (x < a ∨ a + s ≤ x) → ((S.writeAll [(a, H)]).2.booted keep).look x = f x := fun x hx => by
      rcases hlk x with e | ⟨p, hp, e, _⟩
      · exact e.trans (h.rest x hx)
      · rw [List.mem_singleton.1 hp] at e; simp only at e; omega
    rcases hlk a with e | ⟨p, hp, _, e⟩
    · exact .inl ⟨calm_booted _ _, fe2.n.trans h.dn, e.trans h.head, hrest⟩
    · rw [List.mem_singleton.1 hp] at e
      exact .inr ⟨calm_booted _ _, fe2.n.trans h.dn, e.trans hH.symm, hrest⟩

/-- A boot of a disk that is calm leaves the log as it is. -/
theorem LogIs.boot {S : St} {a s n N : Int} {f : Int → Array Value} (h : LogIs S a s n N f) (keep : List Int) : LogIs (S.booted keep) a s n N f := by
  have hl : ∀ x, (S.booted keep).look x = S.look x := fun x => by
    rcases booted_look S keep x with e | ⟨p, hp, _⟩
    · exact e.trans (h.calm.sureLook x)
    · rw [h.calm.pend] at hp; cases hp
  exact ⟨calm_booted _ _, h.dn, (hl a).trans h.head, fun x hx => (hl x).trans (h.rest x hx)⟩
theorem LogIs.fuse {S : St} {a s n N : Int} {f : Int → Array Value} (h : LogIs S a s n N f) (m : Int) : LogIs (S.fused m) a s n N f := by
  have e : S.fused m = { S with fuse := m } := by unfold St.fused; rw [if_pos h.calm.on]
  rw [e]
  exact ⟨⟨h.calm.on, h.calm.pend, h.calm.sure⟩, h.dn, h.head, h.rest⟩
theorem LogBusy.fuse {S : St} {a s n N : Int} {f : Int → Array Value} {ps : List (Int × Array Value)} (h : LogBusy S a s n N f ps) (m : Int) : LogBusy (S.fused m) a s n N f ps := by
  have e : S.fused m = { S with fuse := m } := by unfold St.fused; rw [if_pos h.calm.on]
  rw [e]
  exact ⟨⟨h.calm.on, h.calm.pend, h.calm.sure⟩, h.dn, h.head, ⟨h.holds.nums, h.holds.byts⟩, h.rest⟩

end Go.Proofs.Ytoccnaebckcfmaa
