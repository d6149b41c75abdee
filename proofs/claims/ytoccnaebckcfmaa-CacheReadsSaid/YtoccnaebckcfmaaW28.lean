/- What is there behind a crash: each sector has its durable bytes, or those of a write that was pending. -/
import Derived.Test.YtoccnaebckcfmaaW15
set_option linter.unusedSimpArgs false
set_option linter.unusedVariables false
namespace Go.Proofs.Ytoccnaebckcfmaa

/-- What a sector reads as; what it reads as behind a boot that keeps nothing. -/
def St.look (S : St) (x : Int) : Array Value := (S.now x).getD Z
def St.sureLook (S : St) (x : Int) : Array Value := (S.base x).getD Z

theorem sureLook_write (S : St) (i : Int) (v : Array Value) (x : Int) : (S.write i v).sureLook x = S.sureLook x := by
  unfold St.sureLook St.base
  change (((if (S.sure i).isSome = true then S.sure else updF S.sure i ((S.now i).getD Z)) x).or (updF S.now i v x)).getD Z = ((S.sure x).or (S.now x)).getD Z
  by_cases hs : (S.sure i).isSome = true
  · rw [if_pos hs]
    by_cases hx : x = i
    · subst hx
      obtain ⟨s, hs'⟩ := Option.isSome_iff_exists.1 hs
      rw [hs']
      rfl
    · rw [updF, if_neg hx]
  · rw [if_neg hs]
    by_cases hx : x = i
    · subst hx
      have hn : S.sure x = none := by simpa using hs
      rw [hn]
      simp [updF]
    · simp only [updF, if_neg hx]

theorem bootF_look (base : Int → Option (Array Value)) (keep : List Int) (pend : List (Int × Array Value)) (x : Int) : ∀ j, (bootF base keep pend j x).getD Z = (base x).getD Z ∨ ∃ p ∈ pend, p.1 = x ∧ (bootF base keep pend j x).getD Z = p.2
  | 0 => .inl rfl
  | j + 1 => by
    have ih := bootF_look base keep pend x j
    cases hp : pend[j]? with
    | none => rw [bootF_none hp]; exact ih
    | some p =>
      rw [bootF_some hp]
      split
      · unfold updF
        split
        · rename_i hx
          exact .inr ⟨p, List.mem_of_getElem? hp, hx.symm, rfl⟩
        · exact ih
      · exact ih

theorem booted_look (S : St) (keep : List Int) (x : Int) : (S.booted keep).look x = S.sureLook x ∨ ∃ p ∈ S.pend, p.1 = x ∧ (S.booted keep).look x = p.2 := bootF_look S.base keep S.pend x S.pend.length

/-- On, nothing pending. -/
structure Calm (S : St) : Prop where
  on : S.on = true
  pend : S.pend = []
  sure : S.sure = fun _ => none
theorem Calm.sureLook {S : St} (h : Calm S) (x : Int) : S.sureLook x = S.look x := by
  unfold St.sureLook St.base St.look
  rw [h.sure]
  rfl
theorem calm_booted (S : St) (keep : List Int) : Calm (S.booted keep) := ⟨rfl, rfl, rfl⟩
theorem calm_quiet (n k : Int) (f : Int → Option (Array Value)) : Calm (quiet n k f) := ⟨rfl, rfl, rfl⟩

/-- Fallen: behind any boot each sector is as in S0, or has the bytes of one of the writes P. -/
structure Fell (S0 S : St) (P : List (Int × Array Value)) : Prop where
  off : S.on = false
  n : S.n = S0.n
  look : ∀ x, S.sureLook x = S0.look x
  pend : ∀ p ∈ S.pend, p ∈ P
theorem Fell.boot {S0 S : St} {P : List (Int × Array Value)} (h : Fell S0 S P) (keep : List Int) (x : Int) : (S.booted keep).look x = S0.look x ∨ ∃ p ∈ P, p.1 = x ∧ (S.booted keep).look x = p.2 := by
  rcases booted_look S keep x with e | ⟨p, hp, e1, e2⟩
  · exact .inl (e.trans (h.look x))
  · exact .inr ⟨p, h.pend p hp, e1, e2⟩

theorem writes_out (S0 : St) (P : List (Int × Array Value)) : ∀ (ps : List (Int × Array Value)) (S : St), S.on = true → S.n = S0.n → (∀ x, S.sureLook x = S0.look x) → (∀ p ∈ S.pend, p ∈ P) → (∀ p ∈ ps, p ∈ P) → (∀ p ∈ ps, 0 ≤ p.1 ∧ p.1 < S0.n) →
    ((S.writes ps).1 = 0 ∧ (S.writes ps).2.on = true ∧ (S.writes ps).2.n = S0.n ∧ (∀ x, (S.writes ps).2.sureLook x = S0.look x) ∧ (∀ p ∈ (S.writes ps).2.pend, p ∈ P) ∧ (S.writes ps).2.now = putAll S.now ps) ∨
    ((S.writes ps).1 = 2 ∧ Fell S0 (S.writes ps).2 P)
  | [], S, h1, h2, h3, h4, _, _ => .inl ⟨rfl, h1, h2, h3, h4, rfl⟩
  | p :: ps, S, h1, h2, h3, h4, h5, h6 => by
    have hp := h6 p (by simp)
    have hr : S.reach p.1 = 0 := by rw [St.reach, if_neg (by simp [h1]), if_neg (by omega)]
    by_cases hf : S.fuse = 0
    · have hw : S.doWrite p.1 p.2 = (2, S.fallen) := by rw [St.doWrite, if_neg (by simp [hr]), if_pos hf]
      rw [St.writes, hw, if_neg (by simp)]
      exact .inr ⟨rfl, rfl, h2, h3, h4⟩
    · have hw : S.doWrite p.1 p.2 = (0, S.write p.1 p.2) := by rw [St.doWrite, if_neg (by simp [hr]), if_neg hf]
      rw [St.writes, hw, if_pos rfl]
      have ih := writes_out S0 P ps (S.write p.1 p.2) (by simp [St.write, St.written, St.kept, St.stepped, h1]) (by simp [St.write, St.written, St.kept, St.stepped, h2]) (fun x => (sureLook_write S p.1 p.2 x).trans (h3 x)) (fun q hq => by
        simp only [St.write, St.written, St.kept, St.stepped, List.mem_append, List.mem_singleton] at hq
        rcases hq with hq | hq
        · exact h4 q hq
        · rw [hq]; exact h5 p (by simp)) (fun q hq => h5 q (by simp [hq])) (fun q hq => h6 q (by simp [hq]))
      rcases ih with ⟨e1, e2, e3, e4, e5, e6⟩ | ih
      · exact .inl ⟨e1, e2, e3, e4, e5, by rw [e6]; rfl⟩
      · exact .inr ih

/-- What comes of writes and a barrier behind them. -/
theorem writeAll_out {S : St} (h : Calm S) (ps : List (Int × Array Value)) (hps : ∀ p ∈ ps, 0 ≤ p.1 ∧ p.1 < S.n) :
    ((S.writeAll ps).1 = 0 ∧ Calm (S.writeAll ps).2 ∧ (S.writeAll ps).2.n = S.n ∧ (S.writeAll ps).2.now = putAll S.now ps) ∨ ((S.writeAll ps).1 = 2 ∧ Fell S (S.writeAll ps).2 ps) := by
  have key := writes_out S ps ps S h.on rfl h.sureLook (by rw [h.pend]; simp) (fun _ hp => hp) hps
  unfold St.writeAll
  rcases key with ⟨e1, e2, e3, e4, e5, e6⟩ | ⟨e1, e2⟩
  · rw [if_pos e1]
    generalize (S.writes ps).2 = T at *
    unfold St.doBarrier
    rw [if_neg (by simp [e2])]
    by_cases hf : T.fuse = 0
    · rw [if_pos hf]
      exact .inr ⟨rfl, rfl, e3, e4, e5⟩
    · rw [if_neg hf]
      exact .inl ⟨rfl, ⟨e2, rfl, rfl⟩, e3, e6⟩
  · rw [if_neg (by omega)]
    exact .inr ⟨e1, e2⟩

end Go.Proofs.Ytoccnaebckcfmaa
