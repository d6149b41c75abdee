/- Proved: CachePlays returns true for every input, and each argument reads afterwards as it read before. No condition beyond the row's own. -/
import Derived.Test.YtoccnaebckcfmaaGPlaysA
import Derived.Deep.DeepCutAuto
import Derived.Test.YtoccnaebckcfmaaG6
section
set_option linter.unusedSimpArgs false
set_option linter.unusedVariables false
set_option maxRecDepth 8000
namespace Go.Proofs.Ytoccnaebckcfmaa.Ref
open Go.RowKit Go.Proofs.Ytoccnaebckcfmaa

/-- Without the first n that are not pinned. -/
def dropL : Nat → List Ln → List Ln
  | _, [] => []
  | 0, L => L
  | n + 1, p :: l => if p.pin then p :: dropL (n + 1) l else dropL n l
theorem dropL_zero (L : List Ln) : dropL 0 L = L := by cases L <;> rfl
theorem dropL_nil (n : Nat) : dropL n [] = [] := by cases n <;> rfl
theorem dropL_pin (n : Nat) {p : Ln} (l : List Ln) (h : p.pin = true) : dropL n (p :: l) = p :: dropL n l := by
  cases n with
  | zero => rw [dropL_zero, dropL_zero]
  | succ n => simp [dropL, h]
def unp (L : List Ln) : Nat := L.countP (fun q => !q.pin)
theorem dropFirst_none' : ∀ {L : List Ln}, dropFirst L = none → ∀ n, dropL n L = L
  | [], _, n => dropL_nil n
  | p :: l, h, n => by
    cases hp : p.pin with
    | false => simp [dropFirst, hp] at h
    | true =>
      have : dropFirst l = none := by simpa [dropFirst, hp] using h
      rw [dropL_pin n l hp, dropFirst_none' this n]
theorem dropFirst_some' : ∀ {L L' : List Ln}, dropFirst L = some L' → (∀ n, dropL (n + 1) L = dropL n L') ∧ L'.length + 1 = L.length ∧ unp L' + 1 = unp L
  | [], _, h => by simp [dropFirst] at h
  | p :: l, L', h => by
    cases hp : p.pin with
    | false =>
      have : l = L' := by simpa [dropFirst, hp] using h
      subst this
      exact ⟨fun n => by simp [dropL, hp], by simp, by simp [unp, hp]⟩
    | true =>
      obtain ⟨l', h1, rfl⟩ : ∃ l', dropFirst l = some l' ∧ p :: l' = L' := by simpa [dropFirst, hp] using h
      obtain ⟨i1, i2, i3⟩ := dropFirst_some' h1
      refine ⟨fun n => ?_, by simp; omega, ?_⟩
      · rw [dropL_pin _ l hp, dropL_pin _ l' hp, i1]
      · simp only [unp, List.countP_cons, hp] at i3 ⊢
        simpa using i3
theorem trimN_drop (most : Int) (h0 : 0 ≤ most) : ∀ (n : Nat) (L : List Ln), L.length ≤ n → trimN most n L = dropL (L.length - most.toNat) L
  | 0, L, h => by
    have : L = [] := List.eq_nil_of_length_eq_zero (by omega)
    subst this
    rw [trimN, dropL_nil]
  | n + 1, L, h => by
    rw [trimN]
    by_cases hm : most < (L.length : Int)
    · rw [if_pos hm]
      cases hd : dropFirst L with
      | none => exact (dropFirst_none' hd _).symm
      | some L' =>
        obtain ⟨i1, i2, _⟩ := dropFirst_some' hd
        simp only
        rw [trimN_drop most h0 n L' (by omega), show L.length - most.toNat = (L'.length - most.toNat) + 1 by omega, i1]
    · rw [if_neg hm, show L.length - most.toNat = 0 by omega, dropL_zero]
theorem dropL_min : ∀ (n : Nat) (L : List Ln), dropL n L = dropL (min n (unp L)) L
  | n, [] => by rw [dropL_nil, dropL_nil]
  | n, p :: l => by
    cases hp : p.pin with
    | true =>
      have : unp (p :: l) = unp l := by simp [unp, hp]
      rw [this, dropL_pin _ l hp, dropL_pin _ l hp, ← dropL_min n l]
    | false =>
      have : unp (p :: l) = unp l + 1 := by simp [unp, hp]
      rw [this]
      cases n with
      | zero => rw [Nat.zero_min]
      | succ n =>
        rw [show min (n + 1) (unp l + 1) = min n (unp l) + 1 by omega]
        simp only [dropL, hp]
        exact dropL_min n l
theorem dropL_sub : ∀ (n : Nat) (L : List Ln), (dropL n L).Sublist L
  | n, [] => by rw [dropL_nil]; exact List.Sublist.refl _
  | 0, p :: l => by rw [dropL_zero]; exact List.Sublist.refl _
  | n + 1, p :: l => by
    cases hp : p.pin with
    | true => rw [dropL_pin _ l hp]; exact (dropL_sub (n + 1) l).cons_cons p
    | false =>
      simp only [dropL, hp]
      exact (dropL_sub n l).cons p
theorem trimR_sub (most : Int) (h0 : 0 ≤ most) (L : List Ln) : (trimR most L).Sublist L := by
  unfold trimR
  rw [trimN_drop most h0 _ L (Nat.le_refl _)]
  exact dropL_sub _ _

/-- The program's choice, from the front. -/
def dropU (pin : List Int) : Int → List Int → List Int
  | _, [] => []
  | ex, x :: l => if evPick ex pin x then dropU pin (ex - 1) l else x :: dropU pin ex l
theorem runD_from (pin : List Int) : ∀ (l acc : List Int) (ex : Int), (l.foldl (stepD true pin) (acc, ex)).1 = acc ++ dropU pin ex l
  | [], acc, ex => by simp [dropU]
  | x :: l, acc, ex => by
    rw [List.foldl_cons]
    have : stepD true pin (acc, ex) x = if evPick ex pin x then (acc, ex - 1) else (acc ++ [x], ex) := rfl
    rw [this]
    by_cases h : evPick ex pin x = true
    · rw [if_pos h, runD_from pin l acc (ex - 1)]
      simp [dropU, h]
    · rw [if_neg h, runD_from pin l (acc ++ [x]) ex]
      simp [dropU, h]
theorem dropU_drop (pin : List Int) : ∀ (L : List Ln) (n : Nat), (∀ p ∈ L, p.pin = decide (p.at' ∈ pin)) → dropU pin n (L.map (·.at')) = (dropL n L).map (·.at')
  | [], n, _ => by rw [dropL_nil]; rfl
  | p :: l, n, h => by
    have hp := h p (by simp)
    have hl : ∀ q ∈ l, q.pin = decide (q.at' ∈ pin) := fun q hq => h q (by simp [hq])
    rw [List.map_cons, dropU]
    cases hpp : p.pin with
    | true =>
      have : p.at' ∈ pin := by rw [hpp] at hp; simpa using hp.symm
      have he : evPick n pin p.at' = false := by simp [evPick, this]
      rw [he, dropL_pin n l hpp]
      simp [dropU_drop pin l n hl]
    | false =>
      have : p.at' ∉ pin := by rw [hpp] at hp; simpa using hp.symm
      cases n with
      | zero =>
        have he : evPick ((0 : Nat) : Int) pin p.at' = false := by simp [evPick]
        rw [he, dropL_zero]
        have := dropU_drop pin l 0 hl
        rw [dropL_zero] at this
        simp only [Bool.false_eq_true, if_false, List.map_cons]
        rw [this]
      | succ n =>
        have he : evPick ((n + 1 : Nat) : Int) pin p.at' = true := by simp [evPick, this]; omega
        rw [he, if_pos rfl, show ((n + 1 : Nat) : Int) - 1 = (n : Int) by omega, dropU_drop pin l n hl]
        simp [dropL, hpp]

/-- What the two have in common. -/
structure Sim (C : CaS) (f : Int → Option (Array Value)) (X : RCS) : Prop where
  most : X.most = C.most
  miss : X.missed = C.miss
  opn : X.opn = C.opn
  ord : C.ord = X.L.map (·.at')
  held : ∀ p ∈ X.L, C.held p.at' = some (fullA p.c)
  pin : ∀ p ∈ X.L, p.pin = decide (p.at' ∈ C.pin)
  n : X.R.n = 100
  off : X.R.off = false
  burns : X.R.burns = false
  disk : ∀ i, 40 ≤ i → i < 100 → (f i).getD Z = (replay X.R.B X.R.L i).getD Z

theorem nodup_at {L : List Ln} (h : (L.map (·.at')).Nodup) : ∀ p ∈ L, ∀ q ∈ L, p.at' = q.at' → p = q := by
  intro p hp q hq e
  obtain ⟨i, hi⟩ := List.getElem?_of_mem hp
  obtain ⟨j, hj⟩ := List.getElem?_of_mem hq
  have hil := (List.getElem?_eq_some_iff.1 hi).1
  have : i = j := (List.getElem?_inj (by simpa using hil) h).1 (by rw [List.getElem?_map, List.getElem?_map, hi, hj]; simp [e])
  subst this
  exact Option.some.inj (hi.symm.trans hj)

/-- As many are pinned. -/
theorem Sim.pinned {C : CaS} {f : Int → Option (Array Value)} {X : RCS} (ok : CaOk C) (h : Sim C f X) : X.L.countP (fun q => q.pin) = C.pin.length := by
  have hnd := ok.nd
  rw [h.ord] at hnd
  have e1 : X.L.countP (fun q => q.pin) = ((X.L.filter (fun q => q.pin)).map (·.at')).length := by rw [List.length_map, List.countP_eq_length_filter]
  rw [e1]
  have hn2 : ((X.L.filter (fun q => q.pin)).map (·.at')).Nodup := hnd.sublist (List.filter_sublist.map _)
  apply Nat.le_antisymm
  · exact length_le_of_nodup hn2 (fun x hx => by
      obtain ⟨q, hq, rfl⟩ := List.mem_map.1 hx
      obtain ⟨h1, h2⟩ := List.mem_filter.1 hq
      rw [h.pin q h1] at h2
      simpa using h2)
  · exact length_le_of_nodup ok.pn (fun x hx => by
      have := ok.ps x hx
      rw [h.ord] at this
      obtain ⟨q, hq, rfl⟩ := List.mem_map.1 this
      exact List.mem_map.2 ⟨q, List.mem_filter.2 ⟨hq, by rw [h.pin q hq]; simpa using hx⟩, rfl⟩)
theorem unp_pin (L : List Ln) : unp L + L.countP (fun q => q.pin) = L.length := by
  induction L with
  | nil => rfl
  | cons p l ih =>
    simp only [unp, List.countP_cons, List.length_cons] at ih ⊢
    cases p.pin <;> simp <;> omega

theorem Sim.evict {C : CaS} {f : Int → Option (Array Value)} {X : RCS} (ok : CaOk C) (h : Sim C f X) : Sim C.evict f { X with L := trimR X.most X.L } := by
  have hp := h.pinned ok
  have hu := unp_pin X.L
  have hol : C.ord.length = X.L.length := by rw [h.ord, List.length_map]
  have h0 := ok.m0
  have hm := h.most
  have key : trimR X.most X.L = dropL ((excess C).toNat) X.L := by
    unfold trimR
    rw [trimN_drop _ (by omega) _ _ (Nat.le_refl _), dropL_min]
    congr 1
    unfold excess
    omega
  have hsub : (trimR X.most X.L).Sublist X.L := trimR_sub _ (by omega) _
  unfold CaS.evict
  split
  · rename_i he
    have : trimR X.most X.L = X.L := by rw [key, show (excess C).toNat = 0 by omega, dropL_zero]
    rw [this]
    exact h
  · rename_i he
    have hord : (runD true C.pin C.ord (excess C)).1 = (trimR X.most X.L).map (·.at') := by
      have := runD_from C.pin C.ord [] (excess C)
      rw [List.nil_append] at this
      unfold runD
      rw [this, key, h.ord, ← dropU_drop C.pin X.L _ h.pin]
      congr 1
      omega
    refine ⟨h.most, h.miss, h.opn, hord, fun p hpm => ?_, fun p hpm => h.pin p (hsub.subset hpm), h.n, h.off, h.burns, h.disk⟩
    have hpL := hsub.subset hpm
    simp only [cutF]
    rw [if_neg, h.held p hpL]
    rintro ⟨_, hn⟩
    rw [hord] at hn
    exact hn (List.mem_map.2 ⟨p, hpm, rfl⟩)

theorem useR_map (L : List Ln) (p : Ln) : (useR L p).map (·.at') = useL (L.map (·.at')) p.at' := by
  simp [useR, useL, List.filter_map, Function.comp_def]
theorem Sim.use {C : CaS} {f : Int → Option (Array Value)} {X : RCS} (h : Sim C f X) {p : Ln} (hp : p.pin = decide (p.at' ∈ C.pin)) : Sim (C.use p.at' (fullA p.c)) f { X with L := useR X.L p } := by
  refine ⟨h.most, h.miss, h.opn, by rw [useR_map, ← h.ord]; rfl, fun q hq => ?_, fun q hq => ?_, h.n, h.off, h.burns, h.disk⟩
  · rcases List.mem_append.1 hq with hq | hq
    · obtain ⟨h1, h2⟩ := List.mem_filter.1 hq
      have : q.at' ≠ p.at' := by simpa using h2
      simp only [CaS.use, updF]
      rw [if_neg this, h.held q h1]
    · simp at hq
      subst hq
      simp [CaS.use, updF]
  · rcases List.mem_append.1 hq with hq | hq
    · exact h.pin q (List.mem_filter.1 hq).1
    · simp at hq
      subst hq
      exact hp
theorem Sim.write {C : CaS} {f : Int → Option (Array Value)} {X : RCS} (h : Sim C f X) (i c : Int) : Sim (C.write i (fullA c)) f { X with L := useR X.L ⟨i, c, true⟩ } := by
  refine ⟨h.most, h.miss, h.opn, by rw [useR_map, ← h.ord]; rfl, fun q hq => ?_, fun q hq => ?_, h.n, h.off, h.burns, h.disk⟩
  · rcases List.mem_append.1 hq with hq | hq
    · obtain ⟨h1, h2⟩ := List.mem_filter.1 hq
      have : q.at' ≠ i := by simpa using h2
      simp only [CaS.write, CaS.use, updF]
      rw [if_neg this, h.held q h1]
    · simp at hq
      subst hq
      simp [CaS.write, CaS.use, updF]
  · rcases List.mem_append.1 hq with hq | hq
    · obtain ⟨h1, h2⟩ := List.mem_filter.1 hq
      have : q.at' ≠ i := by simpa using h2
      rw [h.pin q h1]
      simp only [CaS.write, pinL_mem, this, or_false]
    · simp at hq
      subst hq
      simp [CaS.write, pinL_mem]
theorem Sim.begin {C : CaS} {f : Int → Option (Array Value)} {X : RCS} (h : Sim C f X) : Sim { C with opn := true } f { X with opn := true } :=
  ⟨h.most, h.miss, rfl, h.ord, h.held, h.pin, h.n, h.off, h.burns, h.disk⟩
theorem Sim.missed {C : CaS} {f : Int → Option (Array Value)} {X : RCS} (h : Sim C f X) : Sim { C with miss := C.miss + 1 } f { X with missed := X.missed + 1 } :=
  ⟨h.most, by simp only; rw [h.miss], h.opn, h.ord, h.held, h.pin, h.n, h.off, h.burns, h.disk⟩
theorem Sim.abort {C : CaS} {f : Int → Option (Array Value)} {X : RCS} (h : Sim C f X) : Sim C.abort f { X with L := X.L.filter (fun q => !q.pin), opn := false } := by
  have hord : C.ord.filter (fun x => !decide (x ∈ C.pin)) = (X.L.filter (fun q => !q.pin)).map (·.at') := by
    rw [h.ord, List.filter_map]
    congr 1
    exact List.filter_congr (fun q hq => by simp [Function.comp, h.pin q hq])
  refine ⟨h.most, h.miss, rfl, hord, fun p hp => ?_, fun p hp => ?_, h.n, h.off, h.burns, h.disk⟩
  · have hpL := (List.mem_filter.1 hp).1
    simp only [CaS.abort, cutF]
    rw [if_neg, h.held p hpL]
    rintro ⟨_, hn⟩
    rw [hord] at hn
    exact hn (List.mem_map.2 ⟨p, hp, rfl⟩)
  · have := (List.mem_filter.1 hp).2
    simp only [CaS.abort, List.not_mem_nil, decide_false]
    simpa using this

/-! What find finds. -/
theorem findL_neg {i : Int} : ∀ {L : List Ln} {k : Nat}, (∀ p ∈ L, p.at' ≠ i) → findL i L k = -1
  | [], _, _ => rfl
  | p :: l, k, h => by
    rw [findL, if_neg (h p (by simp))]
    exact findL_neg (fun q hq => h q (by simp [hq]))
theorem findL_pos {i : Int} : ∀ {L : List Ln} {k : Nat}, (∃ p ∈ L, p.at' = i) → ∃ j p, findL i L k = (k + j : Nat) ∧ L[j]? = some p ∧ p.at' = i
  | [], _, h => by obtain ⟨p, hp, _⟩ := h; simp at hp
  | p :: l, k, h => by
    rw [findL]
    by_cases he : p.at' = i
    · rw [if_pos he]
      exact ⟨0, p, rfl, rfl, he⟩
    · rw [if_neg he]
      obtain ⟨q, hq, hqe⟩ := h
      rcases List.mem_cons.1 hq with rfl | hq
      · exact absurd hqe he
      · obtain ⟨j, p', h1, h2, h3⟩ := findL_pos (k := k + 1) ⟨q, hq, hqe⟩
        exact ⟨j + 1, p', by rw [h1]; congr 1; omega, by simpa using h2, h3⟩

/-! Commit. -/
def pinsR (L : List Ln) : List Ln := L.filter (fun q => q.pin)
def Grp (L : List Ln) : Prop := (∀ p ∈ L, p.pin = true → ¬ (0 ≤ p.at' ∧ p.at' < 40)) ∧ L.countP (fun q => q.pin) ≤ 37
theorem Sim.group {C : CaS} {f : Int → Option (Array Value)} {X : RCS} (ok : CaOk C) (hr : ∀ k ∈ C.ord, k < 100) (h : Sim C f X) : GroupOk 0 40 100 (rawsOf (putsC C)) ↔ Grp X.L := by
  have hp := h.pinned ok
  constructor
  · rintro ⟨h1, h2, _⟩
    rw [room40] at h1
    simp only [rawsOf, List.length_map, putsC_len] at h1
    refine ⟨fun p hpm hpp hat => ?_, by omega⟩
    rw [h.pin p hpm] at hpp
    have hin : p.at' ∈ C.pin := by simpa using hpp
    have := h2 (p.at', 64) (List.mem_map.2 ⟨(p.at', (C.held p.at').getD Z), List.mem_map.2 ⟨p.at', sorted_mem.2 hin, rfl⟩, rfl⟩)
    unfold PutOk at this
    simp only at this
    omega
  · rintro ⟨h1, h2⟩
    refine ⟨?_, ?_, ?_⟩
    · rw [room40]
      simp only [rawsOf, List.length_map, putsC_len]
      omega
    · intro r hr'
      obtain ⟨p, hp', rfl⟩ := List.mem_map.1 hr'
      obtain ⟨x, hx, rfl⟩ := List.mem_map.1 hp'
      have hx' := sorted_mem.1 hx
      have hxo := ok.ps x hx'
      have hb := ok.rg x hxo
      have hb2 := hr x hxo
      rw [h.ord] at hxo
      obtain ⟨q, hq, rfl⟩ := List.mem_map.1 hxo
      have := h1 q hq (by rw [h.pin q hq]; simpa using hx')
      exact ⟨by simp only; omega, by simp only; omega, by simp only; omega, rfl⟩
    · have : (rawsOf (putsC C)).map (·.1) = sorted C.pin := by
        simp only [rawsOf, putsC, List.map_map]
        exact (List.map_congr_left (fun _ _ => rfl)).trans (List.map_id _)
      rw [this]
      exact (sorted_perm C.pin).nodup_iff.2 ok.pn
/-- The pinned lines as writes. -/
def wrsR (L : List Ln) : List (Int × Array Value) := (pinsR L).map (fun q => (q.at', fullA q.c))
def unpin (q : Ln) : Ln := { q with pin := false }
theorem replay_app (B : Int → Option (Array Value)) (l l' : List (Int × Array Value)) : replay B (l ++ l') = replay (replay B l) l' := by simp [replay, List.foldl_append]
theorem replay_put (B : Int → Option (Array Value)) (l : List (Int × Array Value)) : replay B l = putAll B l := rfl
theorem Sim.commit {C : CaS} {f : Int → Option (Array Value)} {X : RCS} (ok : CaOk C) (h : Sim C f X) (hok : GroupOk 0 40 100 (rawsOf (putsC C))) (g : Int) {R' : RS} (hn : R'.n = 100) (hoff : R'.off = false) (hb : R'.burns = false) (hnow : replay R'.B R'.L = replay (replay X.R.B X.R.L) (wrsR X.L)) (gr : Int) :
    Sim C.committed (putLog f 0 40 g (putsC C)) { X with L := trimR X.most (X.L.map unpin), opn := false, groups := gr, R := R' } := by
  have hnd := ok.nd
  rw [h.ord] at hnd
  have s1 : Sim { C with opn := false, pin := [] } (putLog f 0 40 g (putsC C)) { X with L := X.L.map unpin, opn := false, groups := gr, R := R' } := by
    refine ⟨h.most, h.miss, rfl, ?_, fun p hp => ?_, fun p hp => ?_, hn, hoff, hb, fun i h0 h1 => ?_⟩
    · simp only [List.map_map]
      exact h.ord
    · obtain ⟨q, hq, rfl⟩ := List.mem_map.1 hp
      exact h.held q hq
    · obtain ⟨q, hq, rfl⟩ := List.mem_map.1 hp
      simp [unpin]
    · simp only
      rw [hnow, replay_put _ (wrsR X.L)]
      by_cases hx : i ∈ C.pin
      · have hp : (i, (C.held i).getD Z) ∈ putsC C := List.mem_map.2 ⟨i, sorted_mem.2 hx, rfl⟩
        have e1 := putLog_at (f := f) (g := g) (by omega) hok hp
        simp only at e1
        have hxo := ok.ps i hx
        rw [h.ord] at hxo
        obtain ⟨q, hq, rfl⟩ := List.mem_map.1 hxo
        have hmem : (q.at', fullA q.c) ∈ wrsR X.L := List.mem_map.2 ⟨q, List.mem_filter.2 ⟨hq, by rw [h.pin q hq]; simpa using hx⟩, rfl⟩
        have hnd2 : ((wrsR X.L).map (·.1)).Nodup := by
          have : (wrsR X.L).map (·.1) = (pinsR X.L).map (·.at') := by simp [wrsR, List.map_map, Function.comp_def]
          rw [this]
          exact hnd.sublist (List.filter_sublist.map _)
        have e2 := putAll_at (f := replay X.R.B X.R.L) hnd2 hmem
        simp only at e2
        rw [e1, e2, h.held q hq]
        rfl
      · rw [putLog_other (by omega) hok (.inr (by omega)) (fun p hp => ?_), putAll_other (fun p hp => ?_), h.disk i h0 h1]
        · obtain ⟨q, hq, rfl⟩ := List.mem_map.1 hp
          obtain ⟨h3, h4⟩ := List.mem_filter.1 hq
          intro e
          rw [h.pin q h3] at h4
          simp only at e
          rw [e] at h4
          exact hx (by simpa using h4)
        · obtain ⟨y, hy, rfl⟩ := List.mem_map.1 hp
          exact fun e => hx (e ▸ sorted_mem.1 hy)
  exact s1.evict ok.ended
end Go.Proofs.Ytoccnaebckcfmaa.Ref
end

section
set_option linter.unusedSimpArgs false
set_option linter.unusedVariables false
set_option maxRecDepth 8000
namespace Go.Proofs.Ytoccnaebckcfmaa.Ref
open Go.RowKit Go.Proofs.Ytoccnaebckcfmaa
open Go.ChangeMaps (setBlock)

theorem fullA_inj {a b : Int} (h : fullA a = fullA b) : b = a := by
  have := congrArg (fun v : Array Value => v[0]?) h
  simp [fullA] at this
  exact this.symm
section
variable {w w1 w2 : World} {y r : Nat} {G : List Nat} {X : RCS}
theorem RCPost.pre (o : Only [] w w1) (h : RCPost w1 w2 y r G X) : RCPost w w2 y r G X := RCPost.trans (fun _ h => h) (fun _ h => .inl h) ((Only.refl [y, r] w).trans o (by simp)) h
theorem RCPost.after (h : RCPost w w1 y r G X) (o : Only [] w1 w2) : RCPost w w2 y r G X := by
  obtain ⟨G', a, b, c, o'⟩ := h
  exact ⟨G', a.congr (fun x hx => o.block x (a.lt x hx) (by simp)), b, c, o'.trans o (by simp)⟩
theorem RCAt.only (h : RCAt w y r G X) (o : Only [] w w1) : RCAt w1 y r G X := h.congr (fun x hx => o.block x (h.lt x hx) (by simp))
theorem RCAt.notin (h : RCAt w y r G X) : y ∉ G ∧ r ∉ G ∧ y ≠ r := by
  obtain ⟨lv, h⟩ := h
  obtain ⟨_, _, hd⟩ := h.disk
  exact ⟨h.out, hd.out, h.ne⟩
end

set_option maxHeartbeats 2000000 in
theorem rcread_no {w : World} {y r : Nat} {G : List Nat} {X : RCS} (h : RCAt w y r G X) (i : Int) (hf : findL i X.L 0 = -1) (hr : X.R.reach i ≠ 0) :
    Calls Try.prog 13 #[pp y, .int .i64 i] w fun e w' => e = .returned (.tuple #[.slice none 0 0, .int .i64 (X.R.reach i)]) ∧ Only [] w w' := by
  have FI := find_any h i
  rw [hf] at FI
  have FI := Lib.hid FI
  have H := Lib.hid h
  have HR := Lib.hid hr
  obtain ⟨rz, hrz⟩ : ∃ rz, X.R.reach i = rz := ⟨_, rfl⟩
  rw [hrz]
  have hrb : (rz != 0) = true := by rw [← hrz]; simp [hr]
  have HRZ := Lib.hid hrz
  clear h hf hr hrz
  show Calls Try.prog 13 #[.pointer (some ⟨y, 0, none⟩), .int .i64 i] w _
  go_enter Try.func13, Try.ntmps13
  go_wp2_with fail
  refine FI.out.mono ?_
  rintro e w1 ⟨rfl, o1⟩
  have h1 := (H.out.only o1).only ((Only.refl [] w1).alloc (.cells #[.int .i64 i, .slice none 0 0, .bool false] 46))
  have O1 := Lib.hid (o1.alloc (.cells #[.int .i64 i, .slice none 0 0, .bool false] 46))
  obtain ⟨lv, h2⟩ := h1
  have c0 := h2.cells.1
  have RD := rread_no h2.disk i HR.out
  rw [HRZ.out] at RD
  have RD := Lib.hid RD
  clear o1 h2 FI H HR HRZ
  go_wp2_with fail
  refine RD.out.mono ?_
  rintro e w3 ⟨rfl, rfl⟩
  clear RD c0
  go_wp2
  go_ret2
  exact ⟨rfl, O1.out⟩

def RCRead (c : Int) (X' : RCS) (w : World) (y r : Nat) (G : List Nat) (e : Ending) (w' : World) : Prop :=
  ∃ g cap, e = .returned (.tuple #[.slice (some ⟨g, 0, none⟩) 64 cap, .int .i64 0]) ∧ (∀ j, j < 64 → w'.cell? ⟨g, j, none⟩ = some (.int .u8 c)) ∧ RCPost w w' y r G X'

set_option maxHeartbeats 4000000 in
theorem rcread_hit {w : World} {y r : Nat} {G : List Nat} {X : RCS} (h : RCAt w y r G X) (i : Int) {j : Nat} {p : Ln} (hf : findL i X.L 0 = j) (hp : X.L[j]? = some p) (hm : 0 ≤ X.most) (hlen : X.L.length < 1000000) :
    Calls Try.prog 13 #[pp y, .int .i64 i] w fun e w' => RCRead p.c { X with L := trimR X.most (useR X.L p) } w y r G e w' := by
  have FI := find_any h i
  rw [hf] at FI
  have FI := Lib.hid FI
  have H := Lib.hid h
  have hj : j < X.L.length := (List.getElem?_eq_some_iff.1 hp).1
  have HP := Lib.hid hp
  clear h hf hp
  show Calls Try.prog 13 #[.pointer (some ⟨y, 0, none⟩), .int .i64 i] w _
  go_enter Try.func13, Try.ntmps13
  go_wp2_with fail
  refine FI.out.mono ?_
  rintro e w1 ⟨rfl, o1⟩
  obtain ⟨lv, h2⟩ := H.out.only o1
  have hlt1 := RCAt.lt ⟨_, h2⟩
  obtain ⟨a, cap, rfl, hcap, hcap2, hall⟩ := h2.lines.slice
  obtain ⟨g, rfl, hg, q1, ⟨sq, q2, q3⟩, q4⟩ := hall j p HP.out
  have hgl := hlt1 g (by simp [hg])
  have hyl := hlt1 y (by simp)
  have hnot := RCAt.notin ⟨_, h2⟩
  have at0 := h2.ok.at0 p (List.mem_of_getElem? HP.out)
  have c7 := h2.cells.2.2.2.2.2.2.2.1
  have bl : ∀ B x, x < w1.heap.size → (w1.alloc B).heap[x]? = w1.heap[x]? := fun B x hx => Below.heap_alloc _ _ _ hx
  have Q3 := Lib.hid q3
  obtain ⟨gq, capq, cq, rfl, hgq, hcq, hcells⟩ := q3
  have hcq' := hcq
  have d7 : (w1.alloc (.cells #[.int .i64 i, .slice none 0 0, .bool false] 46)).cell? ⟨y, 7, none⟩ = some (.slice (some ⟨g, 0, none⟩) X.L.length cap) := (World.cell?_of_block (w := w1) (bl _ y hyl)).trans c7
  have t1 : (w1.alloc (.cells #[.int .i64 i, .slice none 0 0, .bool false] 46)).cell? ⟨g, j * 3, none⟩ = some (.int .i64 p.at') := (World.cell?_of_block (w := w1) (bl _ g hgl)).trans q1
  have t2 : (w1.alloc (.cells #[.int .i64 i, .slice none 0 0, .bool false] 46)).cell? ⟨g, j * 3 + 1, none⟩ = some (.slice (some ⟨gq, 0, none⟩) 64 capq) := (World.cell?_of_block (w := w1) (bl _ g hgl)).trans q2
  have t3 : (w1.alloc (.cells #[.int .i64 i, .slice none 0 0, .bool false] 46)).cell? ⟨g, j * 3 + 2, none⟩ = some (.bool p.pin) := (World.cell?_of_block (w := w1) (bl _ g hgl)).trans q4
  have BX : Hid (w1.alloc (.cells #[.int .i64 p.at', .slice (some ⟨gq, 0, none⟩) 64 capq, .bool p.pin] 46) = w1.alloc (.cells #[.int .i64 p.at', .slice (some ⟨gq, 0, none⟩) 64 capq, .bool p.pin] 46)) := rfl
  have oB : Only [] w1 (w1.alloc (.cells #[.int .i64 p.at', .slice (some ⟨gq, 0, none⟩) 64 capq, .bool p.pin] 46)) := (Only.refl [] w1).alloc _
  have h3 := RCAt.only ⟨_, h2⟩ oB
  have hs3 : BytesIs (w1.alloc (.cells #[.int .i64 p.at', .slice (some ⟨gq, 0, none⟩) 64 capq, .bool p.pin] 46)) G (.slice (some ⟨gq, 0, none⟩) 64 capq) (fullA p.c) := Q3.out.to (fun x hx => oB.block x (hlt1 x (by simp [hx])) (by simp)) (fun _ h => h)
  have hbox := heap_alloc_last w1 (.cells #[.int .i64 p.at', .slice (some ⟨gq, 0, none⟩) 64 capq, .bool p.pin] 46)
  have hxy : w1.heap.size ≠ y := by omega
  have hxr : w1.heap.size ≠ r := by have := hlt1 r (by simp); omega
  have O2 := Lib.hid (o1.trans oB (by simp))
  have H3 := Lib.hid h3
  have HS3 := Lib.hid hs3
  have HB := Lib.hid hbox
  clear o1 h2 FI H HP hall q1 q2 q4 hgl hyl c7 bl Q3 hcq hcells h3 hs3 hbox BX oB hlt1 hcq'
  obtain ⟨xb, hxb⟩ : ∃ xb, w1.heap.size = xb := ⟨_, rfl⟩
  go_wp2_with (first | (refine wpL_value rfl (run_load46 rfl rfl t1 t2 t3) ?_) | (refine wpL_store0 info46s rfl rfl rfl rfl rfl rfl rfl ?_))
  rw [hxb] at HB hxy hxr
  clear d7 t1 t2 t3
  generalize w1.alloc (.cells #[.int .i64 p.at', .slice (some ⟨gq, 0, none⟩) 64 capq, .bool p.pin] 46) = w2 at *
  have hxl : xb < w2.heap.size := (Array.getElem?_eq_some_iff.1 HB.out).1
  have b1 : w2.cell? ⟨xb, 0, none⟩ = some (.int .i64 p.at') := (cell_of_row _ _ _ _ _ _ HB.out).trans rfl
  have b2 : w2.cell? ⟨xb, 1, none⟩ = some (.slice (some ⟨gq, 0, none⟩) 64 capq) := (cell_of_row _ _ _ _ _ _ HB.out).trans rfl
  have b3 : w2.cell? ⟨xb, 2, none⟩ = some (.bool p.pin) := (cell_of_row _ _ _ _ _ _ HB.out).trans rfl
  have GQ : Hid (gq ∈ G) := hgq
  have S2 : Hid (∀ x ∈ G, x ∈ G) := fun _ h => h
  have O2' : Hid (Only [y, r] w w2) := (Only.refl [y, r] w).trans O2.out (by simp)
  clear O2
  have US := Lib.hid (ruse_any H3.out p HS3.out at0.1 at0.2 hlen)
  refine US.out.mono ?_
  rintro e w3 ⟨rfl, hp3⟩
  have P3 := Lib.hid hp3
  obtain ⟨G3, h3, s3, n3, o3⟩ := hp3
  have TR := Lib.hid (rtrim_any h3 hm)
  have OO3 := Lib.hid o3
  have SN3 := Lib.hid (And.intro s3 n3)
  clear US b1 b3 h3 s3 n3 o3
  go_wp2_with fail
  refine TR.out.mono ?_
  rintro e w4 ⟨rfl, hp4⟩
  obtain ⟨G4, h4, s4, n4, o4⟩ := hp4
  have b2' : w4.cell? ⟨xb, 1, none⟩ = some (.slice (some ⟨gq, 0, none⟩) 64 capq) := by
    rw [World.cell?_of_block (w := w3) (o4.block xb (Nat.lt_of_lt_of_le hxl OO3.out.size) (by simp [hxy, hxr])), World.cell?_of_block (w := w2) (OO3.out.block xb hxl (by simp [hxy, hxr]))]
    exact b2
  have b2 : (w4.alloc (.cells #[] 5)).cell? ⟨xb, 1, none⟩ = some (.slice (some ⟨gq, 0, none⟩) 64 capq) := by
    rw [World.cell?_alloc_lt _ _ _ (Nat.lt_of_lt_of_le (Nat.lt_of_lt_of_le hxl OO3.out.size) o4.size)]
    exact b2'
  clear b2'
  have hnn := RCAt.notin h4
  have hg4 : gq ∈ G4 := s4 _ (SN3.out.1 _ GQ.out)
  have hgq2 : gq < w2.heap.size := H3.out.lt _ (by simp [GQ.out])
  have hgy : gq ≠ y := fun e => hnn.1 (e ▸ hg4)
  have hgr : gq ≠ r := fun e => hnn.2.1 (e ▸ hg4)
  have hcl : ∀ k, k < 64 → w4.cell? ⟨gq, k, none⟩ = some (.int .u8 p.c) := fun k hk => by
    rw [World.cell?_of_block (w := w3) (o4.block gq (Nat.lt_of_lt_of_le hgq2 OO3.out.size) (by simp [hgy, hgr])), World.cell?_of_block (w := w2) (OO3.out.block gq hgq2 (by simp [hgy, hgr]))]
    obtain ⟨g', cap', c', e1, _, e2, e3⟩ := HS3.out
    simp only [Value.slice.injEq, Option.some.injEq, Addr.mk.injEq, true_and, and_true] at e1
    obtain ⟨rfl, rfl⟩ := e1
    rw [e3 k hk, fullA_inj e2]
  obtain ⟨g5, cap5, w5, run5, _, _, hc5, o5⟩ := append37 (w := w4) (gb := gq) (cap := capq) (c := p.c) (h4.lt _ (by simp [hg4])) hcl 34
  have fin : RCRead p.c { X with L := trimR X.most (useR X.L p) } w y r G (.returned (.tuple #[.slice (some ⟨g5, 0, none⟩) 64 cap5, .int .i64 0])) w5 := by
    refine ⟨g5, cap5, rfl, hc5, ?_⟩
    exact RCPost.after (RCPost.trans S2.out (fun _ h => .inl h) O2'.out (RCPost.trans SN3.out.1 SN3.out.2 OO3.out ⟨G4, h4, s4, n4, o4⟩)) o5
  have FIN := Lib.hid fin
  have RUN5 := Lib.hid run5
  have hb3 := build370
  clear fin run5 hcl hc5 o5 hg4 hgq2 hgy hgr hnn s4 n4 o4 h4 OO3 SN3 P3 TR S2 H3 HS3
  go_wp2_with (refine wpL_value rfl (run_builtin_append rfl rfl rfl RUN5.out) ?_)
  go_ret2
  exact FIN.out

set_option maxHeartbeats 4000000 in
theorem rcread_miss {w : World} {y r : Nat} {G : List Nat} {X : RCS} (h : RCAt w y r G X) (i : Nat) (hf : findL i X.L 0 = -1) (hoff : X.R.off = false) (hi : i < X.R.n) (hL : X.R.L.length < 1000000000) (hm : 0 ≤ X.most) (hlen : X.L.length < 1000000) (hms : X.missed < 1000000000) :
    Calls Try.prog 13 #[pp y, .int .i64 i] w fun e w' => ∃ c, (replay X.R.B X.R.L i).getD Z = fullA c ∧ RCRead c { X with L := trimR X.most (useR X.L ⟨i, c, false⟩), missed := X.missed + 1 } w y r G e w' := by
  have FI := find_any h i
  rw [hf] at FI
  have FI := Lib.hid FI
  have H := Lib.hid h
  have HI := Lib.hid hi
  have hi2 : i < 8192 := by obtain ⟨lv, h⟩ := h; obtain ⟨_, _, hd⟩ := h.disk; have := hd.ok.n2; omega
  have hm0 : 0 ≤ X.missed := by obtain ⟨lv, h⟩ := h; exact h.ok.m0
  clear h hf hi
  show Calls Try.prog 13 #[.pointer (some ⟨y, 0, none⟩), .int .i64 i] w _
  go_enter Try.func13, Try.ntmps13
  go_wp2_with fail
  refine FI.out.mono ?_
  rintro e w1 ⟨rfl, o1⟩
  have hlt1 := (H.out.only o1).lt
  have hbox := heap_alloc_last w1 (.cells #[.int .i64 (i : Int), .slice none 0 0, .bool false] 46)
  have hxy : w1.heap.size ≠ y := by have := hlt1 y (by simp); omega
  have hxr : w1.heap.size ≠ r := by have := hlt1 r (by simp); omega
  have hxG : w1.heap.size ∉ G := fun hx => by have := hlt1 _ (List.mem_cons_of_mem y (List.mem_cons_of_mem r hx)); omega
  have h1 := (H.out.only o1).only ((Only.refl [] w1).alloc (.cells #[.int .i64 (i : Int), .slice none 0 0, .bool false] 46))
  have O1 := Lib.hid (o1.alloc (.cells #[.int .i64 (i : Int), .slice none 0 0, .bool false] 46))
  have OW1 := Lib.hid o1.size
  obtain ⟨lv, h2⟩ := h1
  have c0 := h2.cells.1
  have RD := Lib.hid (rread_ok h2.disk i hoff HI.out hL)
  have H2 := Lib.hid h2
  have HB := Lib.hid hbox
  clear o1 h2 FI H HI hlt1 hbox
  go_wp2_with fail
  refine RD.out.mono ?_
  rintro e w3 ⟨rfl, c, hc, hw3⟩
  clear RD c0
  obtain ⟨xb, hxb⟩ : ∃ xb, w1.heap.size = xb := ⟨_, rfl⟩
  rw [hxb] at HB hxy hxr hxG
  generalize w1.alloc (.cells #[.int .i64 (i : Int), .slice none 0 0, .bool false] 46) = w2 at *
  have hxl2 : xb < w2.heap.size := (Array.getElem?_eq_some_iff.1 HB.out).1
  have hlt2 := RCAt.lt ⟨_, H2.out⟩
  have hyl := hlt2 y (by simp)
  have hxb3 : w3.heap[xb]? = some (.cells #[.int .i64 (i : Int), .slice none 0 0, .bool false] 46 (0, 0)) := by rw [hw3]; exact (Below.heap_alloc _ _ _ hxl2).trans HB.out
  have hy3 : w3.heap[y]? = w2.heap[y]? := by rw [hw3]; exact Below.heap_alloc _ _ _ hyl
  have o3 : Only [] w2 w3 := by rw [hw3]; exact (Only.refl [] w2).alloc _
  have hg3 : w3.heap[w2.heap.size]? = some (.cells (fullA c) 5 (0, 0)) := by rw [hw3]; exact heap_alloc_last w2 _
  obtain ⟨gq, hgqe⟩ : ∃ gq, w2.heap.size = gq := ⟨_, rfl⟩
  rw [hgqe] at hg3 ⊢
  have x1 : w3.cell? ⟨xb, 1, none⟩ = some (.slice none 0 0) := (cell_of_row _ _ _ _ _ _ hxb3).trans rfl
  have fx : w3.frozen? ⟨xb, 1, none⟩ = false := by simp [World.frozen?, hxb3]
  have hxb4 := heap_setCell_row hxb3 1 (.slice (some ⟨gq, 0, none⟩) 64 64)
  have hy4 : (w3.setCell ⟨xb, 1, none⟩ (.slice (some ⟨gq, 0, none⟩) 64 64)).heap[y]? = w2.heap[y]? := (Below.heap_setCell _ _ _ _ (Ne.symm hxy)).trans hy3
  have y5 : (w3.setCell ⟨xb, 1, none⟩ (.slice (some ⟨gq, 0, none⟩) 64 64)).cell? ⟨y, 5, none⟩ = some (.int .i64 X.missed) := (World.cell?_of_block (w := w2) hy4).trans H2.out.cells.2.2.2.2.2.1
  have fy : (w3.setCell ⟨xb, 1, none⟩ (.slice (some ⟨gq, 0, none⟩) 64 64)).frozen? ⟨y, 5, none⟩ = false := (World.frozen?_of_block (w := w2) hy4).trans (H2.out.cells.2.2.2.2.2.2.2.2.2 5)
  have hgq3 : gq < w3.heap.size := (Array.getElem?_eq_some_iff.1 hg3).1
  have o4 : Only [xb] w2 (w3.setCell ⟨xb, 1, none⟩ (.slice (some ⟨gq, 0, none⟩) 64 64)) := ((Only.refl [xb] w2).trans o3 (by simp)).setCell (.inl (by simp)) _
  have h4 : RCAt (w3.setCell ⟨xb, 1, none⟩ (.slice (some ⟨gq, 0, none⟩) 64 64)) y r (gq :: G) X := by
    refine RCAt.more (RCAt.congr ⟨_, H2.out⟩ (fun x hx => o4.block x (by have := hlt2 x hx; omega) ?_)) (by simpa using hgq3) (by omega) (by have := hlt2 r (by simp); omega)
    simp only [List.mem_singleton]
    rintro rfl
    rcases List.mem_cons.1 hx with e | hx
    · exact hxy e
    · rcases List.mem_cons.1 hx with e | hx
      · exact hxr e
      · exact hxG hx
  obtain ⟨lv4, h4⟩ := h4
  have p5 := h4.scalar (j := 5) (v := .int .i64 (X.missed + 1)) (X' := { X with missed := X.missed + 1 }) (by simp [rcrow]) rfl rfl ⟨h4.ok.len, by simp only; omega, by simp only; omega, h4.ok.g0, h4.ok.g1, h4.ok.at0⟩
  have hbx5 : ((w3.setCell ⟨xb, 1, none⟩ (.slice (some ⟨gq, 0, none⟩) 64 64)).setCell ⟨y, 5, none⟩ (.int .i64 (X.missed + 1))).heap[xb]? = some (.cells #[.int .i64 (i : Int), .slice (some ⟨gq, 0, none⟩) 64 64, .bool false] 46 (0, 0)) := (Below.heap_setCell _ _ _ _ hxy).trans hxb4
  have hgb5 : ((w3.setCell ⟨xb, 1, none⟩ (.slice (some ⟨gq, 0, none⟩) 64 64)).setCell ⟨y, 5, none⟩ (.int .i64 (X.missed + 1))).heap[gq]? = some (.cells (fullA c) 5 (0, 0)) := (Below.heap_setCell _ _ _ _ (by show gq ≠ y; omega)).trans ((Below.heap_setCell _ _ _ _ (by show gq ≠ xb; omega)).trans hg3)
  obtain ⟨G5, h5, s5, n5, o5⟩ := p5
  have hgqw : w.heap.size ≤ gq := by have := O1.out.size; omega
  have hbase : ∀ x ∈ G5, x ∈ G ∨ w.heap.size ≤ x := fun x hx => by
    rcases n5 x hx with h | h
    · rcases List.mem_cons.1 h with rfl | h
      · exact .inr hgqw
      · exact .inl h
    · exact .inr (by have := O1.out.size; have := o3.size; simp at h; omega)
  have oo5 : Only [y, r] w ((w3.setCell ⟨xb, 1, none⟩ (.slice (some ⟨gq, 0, none⟩) 64 64)).setCell ⟨y, 5, none⟩ (.int .i64 (X.missed + 1))) := by
    refine (((Only.refl [y, r] w).trans O1.out (by simp)).trans o4 (fun x hx => .inr ?_)).trans o5 (fun x hx => .inl hx)
    simp at hx
    have := OW1.out
    omega
  have hsub5 : ∀ x ∈ G, x ∈ G5 := fun x hx => s5 x (by simp [hx])
  have hgq5 : gq ∈ G5 := s5 gq (by simp)
  have hm' : 0 ≤ X.missed := hm0
  have b1 : ((w3.setCell ⟨xb, 1, none⟩ (.slice (some ⟨gq, 0, none⟩) 64 64)).setCell ⟨y, 5, none⟩ (.int .i64 (X.missed + 1))).cell? ⟨xb, 0, none⟩ = some (.int .i64 (i : Int)) := (cell_of_row _ _ _ _ _ _ hbx5).trans rfl
  have b2 : ((w3.setCell ⟨xb, 1, none⟩ (.slice (some ⟨gq, 0, none⟩) 64 64)).setCell ⟨y, 5, none⟩ (.int .i64 (X.missed + 1))).cell? ⟨xb, 1, none⟩ = some (.slice (some ⟨gq, 0, none⟩) 64 64) := (cell_of_row _ _ _ _ _ _ hbx5).trans rfl
  have b3 : ((w3.setCell ⟨xb, 1, none⟩ (.slice (some ⟨gq, 0, none⟩) 64 64)).setCell ⟨y, 5, none⟩ (.int .i64 (X.missed + 1))).cell? ⟨xb, 2, none⟩ = some (.bool false) := (cell_of_row _ _ _ _ _ _ hbx5).trans rfl
  have hs5 : BytesIs ((w3.setCell ⟨xb, 1, none⟩ (.slice (some ⟨gq, 0, none⟩) 64 64)).setCell ⟨y, 5, none⟩ (.int .i64 (X.missed + 1))) G5 (.slice (some ⟨gq, 0, none⟩) 64 64) (fullA c) := ⟨gq, 64, c, rfl, hgq5, rfl, fun j hj => by
    rw [cell_of_row _ _ _ _ _ _ hgb5]
    simp [fullA, hj]⟩
  have hxl : xb < ((w3.setCell ⟨xb, 1, none⟩ (.slice (some ⟨gq, 0, none⟩) 64 64)).setCell ⟨y, 5, none⟩ (.int .i64 (X.missed + 1))).heap.size := (Array.getElem?_eq_some_iff.1 hbx5).1
  have HC := Lib.hid hc
  have H3 := Lib.hid h5
  have HS3 := Lib.hid hs5
  have S2 := Lib.hid hsub5
  have S2N := Lib.hid hbase
  have OO2 := Lib.hid oo5
  have GQ := Lib.hid hgq5
  clear hc hxb3 hxb4 hy3 hy4 o3 o4 h4 h5 s5 n5 o5 H2 HB hlt2 hw3 hg3 hbase oo5 hsub5 hgq5 hs5 hbx5 hgb5 O1 OW1 hgqe hxG hgqw
  go_wp2_with (refine wpL_value rfl (run_load46 rfl rfl b1 b2 b3) ?_)
  clear x1 fx y5 fy
  generalize (w3.setCell ⟨xb, 1, none⟩ (.slice (some ⟨gq, 0, none⟩) 64 64)).setCell ⟨y, 5, none⟩ (.int .i64 (X.missed + 1)) = w2 at *
  have at0 : -9223372036854775808 ≤ (i : Int) ∧ (i : Int) ≤ 9223372036854775807 := ⟨by omega, by omega⟩
  have US := Lib.hid (ruse_any H3.out ⟨i, c, false⟩ HS3.out at0.1 at0.2 hlen)
  refine US.out.mono ?_
  rintro e w3 ⟨rfl, hp3⟩
  have P3 := Lib.hid hp3
  obtain ⟨G3, h3, s3, n3, o3⟩ := hp3
  have TR := Lib.hid (rtrim_any h3 hm)
  have OO3 := Lib.hid o3
  have SN3 := Lib.hid (And.intro s3 n3)
  clear US b1 b3 h3 s3 n3 o3
  go_wp2_with fail
  refine TR.out.mono ?_
  rintro e w4 ⟨rfl, hp4⟩
  obtain ⟨G4, h4, s4, n4, o4⟩ := hp4
  have b2' : w4.cell? ⟨xb, 1, none⟩ = some (.slice (some ⟨gq, 0, none⟩) 64 64) := by
    rw [World.cell?_of_block (w := w3) (o4.block xb (Nat.lt_of_lt_of_le hxl OO3.out.size) (by simp [hxy, hxr])), World.cell?_of_block (w := w2) (OO3.out.block xb hxl (by simp [hxy, hxr]))]
    exact b2
  have b2 : (w4.alloc (.cells #[] 5)).cell? ⟨xb, 1, none⟩ = some (.slice (some ⟨gq, 0, none⟩) 64 64) := by
    rw [World.cell?_alloc_lt _ _ _ (Nat.lt_of_lt_of_le (Nat.lt_of_lt_of_le hxl OO3.out.size) o4.size)]
    exact b2'
  clear b2'
  have hnn := RCAt.notin h4
  have hg4 : gq ∈ G4 := s4 _ (SN3.out.1 _ GQ.out)
  have hgq2 : gq < w2.heap.size := H3.out.lt _ (by simp [GQ.out])
  have hgy : gq ≠ y := fun e => hnn.1 (e ▸ hg4)
  have hgr : gq ≠ r := fun e => hnn.2.1 (e ▸ hg4)
  have hcl : ∀ k, k < 64 → w4.cell? ⟨gq, k, none⟩ = some (.int .u8 c) := fun k hk => by
    rw [World.cell?_of_block (w := w3) (o4.block gq (Nat.lt_of_lt_of_le hgq2 OO3.out.size) (by simp [hgy, hgr])), World.cell?_of_block (w := w2) (OO3.out.block gq hgq2 (by simp [hgy, hgr]))]
    obtain ⟨g', cap', c', e1, _, e2, e3⟩ := HS3.out
    simp only [Value.slice.injEq, Option.some.injEq, Addr.mk.injEq, true_and, and_true] at e1
    obtain ⟨rfl, rfl⟩ := e1
    rw [e3 k hk, fullA_inj e2]
  obtain ⟨g5, cap5, w5, run5, _, _, hc5, o5⟩ := append37 (w := w4) (gb := gq) (cap := 64) (c := c) (h4.lt _ (by simp [hg4])) hcl 34
  have fin : ∃ c, (replay X.R.B X.R.L i).getD Z = fullA c ∧ RCRead c { X with L := trimR X.most (useR X.L ⟨i, c, false⟩), missed := X.missed + 1 } w y r G (.returned (.tuple #[.slice (some ⟨g5, 0, none⟩) 64 cap5, .int .i64 0])) w5 := by
    refine ⟨c, HC.out, g5, cap5, rfl, hc5, ?_⟩
    exact RCPost.after (RCPost.trans S2.out S2N.out OO2.out (RCPost.trans SN3.out.1 SN3.out.2 OO3.out ⟨G4, h4, s4, n4, o4⟩)) o5
  have FIN := Lib.hid fin
  have RUN5 := Lib.hid run5
  have hb3 := build370
  clear S2N OO2 HC fin run5 hcl hc5 o5 hg4 hgq2 hgy hgr hnn s4 n4 o4 h4 OO3 SN3 P3 TR S2 H3 HS3
  go_wp2_with (refine wpL_value rfl (run_builtin_append rfl rfl rfl RUN5.out) ?_)
  go_ret2
  exact FIN.out
end Go.Proofs.Ytoccnaebckcfmaa.Ref
end

section
set_option linter.unusedSimpArgs false
set_option linter.unusedVariables false
set_option maxRecDepth 8000
namespace Go.Proofs.Ytoccnaebckcfmaa.Ref
open Go.RowKit Go.Proofs.Ytoccnaebckcfmaa
open Go.ChangeMaps (setBlock)

section
variable {w : World} {y r : Nat} {G : List Nat} {X : RCS}
set_option maxHeartbeats 1000000 in
theorem rcwrite_closed (h : RCAt w y r G X) (ho : X.opn = false) (i : Int) (bv : Value) :
    Calls Try.prog 15 #[pp y, .int .i64 i, bv] w fun e w' => e = .returned (.int .i64 30) ∧ w' = w := by
  obtain ⟨lv, h⟩ := h
  obtain ⟨c0, c1, c2, c3, c4, c5, c6, c7, c8, fz⟩ := h.cells
  rw [ho] at c6
  clear h c0 c1 c2 c3 c4 c5 c7 c8 fz
  show Calls Try.prog 15 #[.pointer (some ⟨y, 0, none⟩), .int .i64 i, bv] w _
  go_enter Try.func15, Try.ntmps15
  go_wp2
  go_ret
  exact ⟨rfl, rfl⟩

theorem RCIs.dcell {lv : Value} (h : RCIs w y r lv G X) : ∃ g cap, w.cell? ⟨r, 0, none⟩ = some (.slice (some ⟨g, 0, none⟩) X.R.n cap) ∧ X.R.n ≤ 8192 := by
  obtain ⟨bv, dv, hd⟩ := h.disk
  obtain ⟨d0, _⟩ := hd.cells
  obtain ⟨g, cap, rfl, _⟩ := hd.b
  exact ⟨g, cap, d0, hd.ok.n2⟩

set_option maxHeartbeats 1000000 in
theorem rcwrite_place (h : RCAt w y r G X) (ho : X.opn = true) {i : Int} (hi : i < 0 ∨ (X.R.n : Int) ≤ i) (bv : Value) :
    Calls Try.prog 15 #[pp y, .int .i64 i, bv] w fun e w' => e = .returned (.int .i64 10) ∧ w' = w := by
  obtain ⟨lv, h⟩ := h
  obtain ⟨c0, c1, c2, c3, c4, c5, c6, c7, c8, fz⟩ := h.cells
  obtain ⟨g, cap, d0, hn⟩ := h.dcell
  rw [ho] at c6
  clear h c1 c2 c3 c4 c5 c7 c8 fz
  show Calls Try.prog 15 #[.pointer (some ⟨y, 0, none⟩), .int .i64 i, bv] w _
  by_cases h0 : i < 0
  · clear hi
    go_enter Try.func15, Try.ntmps15
    go_wp2
    go_ret
    exact ⟨rfl, rfl⟩
  · have h1 : (X.R.n : Int) ≤ i := by omega
    clear hi
    go_enter Try.func15, Try.ntmps15
    go_wp2
    go_ret
    exact ⟨rfl, rfl⟩

set_option maxHeartbeats 1000000 in
theorem rcwrite_bytes (h : RCAt w y r G X) (ho : X.opn = true) {i : Int} (h0 : 0 ≤ i) (h1 : i < X.R.n) (ad : Option Addr) (len cap : Nat) (hl : len ≠ 64) :
    Calls Try.prog 15 #[pp y, .int .i64 i, .slice ad len cap] w fun e w' => e = .returned (.int .i64 11) ∧ w' = w := by
  obtain ⟨lv, h⟩ := h
  obtain ⟨c0, c1, c2, c3, c4, c5, c6, c7, c8, fz⟩ := h.cells
  obtain ⟨g, cap', d0, hn⟩ := h.dcell
  rw [ho] at c6
  have hlb : ((len : Int) != 64) = true := by
    rw [bne_iff_ne]
    omega
  clear h c1 c2 c3 c4 c5 c7 c8 fz
  show Calls Try.prog 15 #[.pointer (some ⟨y, 0, none⟩), .int .i64 i, .slice ad len cap] w _
  go_enter Try.func15, Try.ntmps15
  go_wp2
  go_ret
  exact ⟨rfl, rfl⟩

theorem build46 (x : Int) (a : Option Addr) (n c : Nat) (b : Bool) (w : World) : (Instr.build 46 #[(0, .int .i64 x), (1, .slice a n c), (2, .bool b)]).run Try.prog w = .ok (.agg #[.int .i64 x, .slice a n c, .bool b]) w := by kernel_rfl

set_option maxHeartbeats 2000000 in
theorem rcwrite_ok (h : RCAt w y r G X) (ho : X.opn = true) {i : Int} (h0 : 0 ≤ i) (h1 : i < X.R.n) {gb cap : Nat} {c : Int} (hgb : gb < w.heap.size) (hc : ∀ j, j < 64 → w.cell? ⟨gb, j, none⟩ = some (.int .u8 c)) (hlen : X.L.length < 1000000) :
    Calls Try.prog 15 #[pp y, .int .i64 i, .slice (some ⟨gb, 0, none⟩) 64 cap] w fun e w' => e = .returned (.int .i64 0) ∧ RCPost w w' y r G { X with L := useR X.L ⟨i, c, true⟩ } := by
  have H := Lib.hid h
  have hlt := h.lt
  obtain ⟨lv, h⟩ := h
  obtain ⟨c0, c1, c2, c3, c4, c5, c6, c7, c8, fz⟩ := h.cells
  obtain ⟨g, cap', d0, hn⟩ := h.dcell
  rw [ho] at c6
  obtain ⟨g3, cap3, w3, run3, hg3, hg3', hc3, o3⟩ := append37 (w := w) (gb := gb) (cap := cap) (c := c) hgb hc 34
  have h3 : RCAt w3 y r (g3 :: G) X := (H.out.only o3).more hg3' (by have := hlt y (by simp); omega) (by have := hlt r (by simp); omega)
  have US := Lib.hid (ruse_any h3 ⟨i, c, true⟩ (sv := .slice (some ⟨g3, 0, none⟩) 64 cap3) ⟨g3, cap3, c, rfl, by simp, rfl, hc3⟩ (by simp only; omega) (by simp only; omega) hlen)
  have RUN := Lib.hid run3
  have hb3 := build370
  have hb46 := build46
  have O3 := Lib.hid o3
  clear h c1 c2 c3 c4 c5 c7 c8 fz run3 hc3 o3 h3 hc hlt
  show Calls Try.prog 15 #[.pointer (some ⟨y, 0, none⟩), .int .i64 i, .slice (some ⟨gb, 0, none⟩) 64 cap] w _
  go_enter Try.func15, Try.ntmps15
  go_wp2_with (refine wpL_value rfl (run_builtin_append rfl rfl rfl RUN.out) ?_)
  refine US.out.mono ?_
  rintro e w4 ⟨rfl, hp⟩
  have FIN := Lib.hid (RCPost.trans (y := y) (r := r) (G := G) (w := w) (fun x hx => List.mem_cons_of_mem g3 hx) (fun x hx => by
    rcases List.mem_cons.1 hx with rfl | hx
    · exact .inr hg3
    · exact .inl hx) ((Only.refl [y, r] w).trans O3.out (by simp)) hp)
  clear US hp RUN O3 H c0 c6 d0
  go_wp2
  go_ret
  exact ⟨rfl, FIN.out⟩
end

def RCS.new (most : Int) : RCS := ⟨most, 0, 0, false, [], RS.new 100⟩
theorem build44 (r : Nat) (m : Int) (w : World) : (Instr.build 44 #[(0, .pointer (some ⟨r, 0, none⟩)), (2, .int .i64 40), (3, .int .i64 37), (4, .int .i64 m)]).run Try.prog w = .ok (.agg (rcrow r (RCS.new m) (.slice none 0 0))) w := by kernel_rfl

set_option maxHeartbeats 1000000 in
theorem rcplain_any (w : World) (most : Int) : Calls Try.prog 11 #[.int .i64 most] w fun e w' => ∃ y r G, e = .returned (pp y) ∧ RCAt w' y r G (RCS.new most) ∧ (∀ x ∈ y :: r :: G, w.heap.size ≤ x) ∧ Only [] w w' := by
  have NW := Lib.hid (rnew_ok w 100 (by omega) (by omega))
  have hb44 := build44
  go_enter Try.func11, Try.ntmps11
  go_wp2_with fail
  refine NW.out.mono ?_
  rintro e w1 ⟨rfl, hr, o1⟩
  have hsz := o1.size
  have hlt := hr.lt
  have o2 : Only [] w (w1.alloc (.cells (rcrow (w.heap.size + 1) (RCS.new most) (.slice none 0 0)) 44)) := o1.alloc _
  have hat : RCAt (w1.alloc (.cells (rcrow (w.heap.size + 1) (RCS.new most) (.slice none 0 0)) 44)) w1.heap.size (w.heap.size + 1) [w.heap.size] (RCS.new most) := by
    refine ⟨.slice none 0 0, heap_alloc_last w1 _, .inl ⟨rfl, rfl⟩, hr.congr (fun x hx => Below.heap_alloc _ _ _ (hlt x hx)), ?_, ?_, ⟨by simp [RCS.new], by simp [RCS.new], by simp [RCS.new], by simp [RCS.new], by simp [RCS.new], by simp [RCS.new]⟩⟩
    · have := hlt (w.heap.size + 1) (by simp); omega
    · have := hlt w.heap.size (by simp); simp; omega
  have FIN := Lib.hid (show ∃ y r G, Ending.returned (pp w1.heap.size) = .returned (pp y) ∧ RCAt (w1.alloc (.cells (rcrow (w.heap.size + 1) (RCS.new most) (.slice none 0 0)) 44)) y r G (RCS.new most) ∧ (∀ x ∈ y :: r :: G, w.heap.size ≤ x) ∧ Only [] w (w1.alloc (.cells (rcrow (w.heap.size + 1) (RCS.new most) (.slice none 0 0)) 44)) from ⟨_, _, _, rfl, hat, fun x hx => by simp at hx; omega, o2⟩)
  clear NW hr hat o2 hlt
  go_wp2
  go_ret
  exact FIN.out
end Go.Proofs.Ytoccnaebckcfmaa.Ref
end

section
set_option linter.unusedSimpArgs false
set_option linter.unusedVariables false
set_option maxRecDepth 8000
namespace Go.Proofs.Ytoccnaebckcfmaa.Ref
open Go.RowKit Go.Proofs.Ytoccnaebckcfmaa
open Go.ChangeMaps (setBlock)

theorem isAgg41 (w : World) : (isAgg 41).run Try.prog w = .ok false w := by kernel_rfl

/-- All lines behind nothing. -/
theorem append42all {w : World} {G : List Nat} {lv : Value} {L : List Ln} (hl : LnsAt w G lv L) (hG : ∀ x ∈ G, x < w.heap.size) (hlen : L.length ≤ 1000000) (t : TypeId) :
    ∃ gl cap cur w' xs, (Builtin.append_ #[42, 42] t #[.slice (some ⟨w.heap.size, 0, none⟩) 0 0, lv]).run Try.prog (w.alloc (.cells #[] 46)) = .ok (.slice (some ⟨gl, 0, none⟩) L.length cap) w' ∧ w'.heap[gl]? = some (.cells cur 46 (0, 0)) ∧ w.heap.size ≤ gl ∧ L.length ≤ cap ∧ cap ≤ 9223372036854775807 ∧
      (∀ j, j < L.length * 3 → cur[j]? = xs[j]?) ∧ Lns w G L xs ∧ Only [] w w' := by
  rcases hl with ⟨rfl, rfl⟩ | ⟨g, cp, rfl, h2, h3, h4, h5⟩
  · exact ⟨w.heap.size, 0, #[], _, [], append42nil _ _ _, heap_alloc_last w _, Nat.le_refl _, by simp, by omega, by simp, Lns.nil _ _, (Only.refl [] w).alloc _⟩
  · obtain ⟨xs, hx, hc⟩ := Lns.of (w := w) (G := G) (g := g) (o := 0) (l := L) (fun j q hq => by rw [Nat.zero_add]; exact h5 j q hq)
    have hown0 : (w.alloc (.cells #[] 46)).ownsRow w.heap.size 46 3 (.slice (some ⟨w.heap.size, 0, none⟩) 0 0) 0 [] := ⟨rfl, .inr ⟨w.heap.size, 0, #[], rfl, Nat.le_refl _, heap_alloc_last w _, Nat.le_refl _, Nat.zero_le _, rfl, rfl⟩⟩
    obtain ⟨v', w', run, own, o, hloc⟩ := append42 hown0 (by simp) (g := g) (o := 0) (m := L.length) (cap := cp) (ys := xs) hx.len (fun j u hu => by
      rw [Nat.zero_add, World.cell?_alloc_lt _ _ _ (hG g h4)]
      have := hc j u hu
      simpa using this) hx.one_cells (by omega) t
    have oo : Only [] w w' := ((Only.refl [] w).alloc _).trans o (fun x hx => .inr (by simp [Value.ownBlock] at hx; omega))
    rw [Nat.zero_add, List.nil_append] at own
    rcases own.2 with ⟨e1, _⟩ | ⟨gl, cap, cur, rfl, hb, hcur, hc1, hc2, _, htake⟩
    · rw [e1] at hloc
      simp [Value.ownBlock] at hloc
    · refine ⟨gl, cap, cur, w', xs, run, hcur, hb, hc1, by unfold maxLen at hc2; omega, fun j hj => ?_, hx, oo⟩
      rw [← htake, List.getElem?_take_of_lt hj, Array.getElem?_toList]

section
variable {w w' : World} {y r : Nat} {lv : Value} {G : List Nat} {X : RCS} {R' : RS}
theorem RCIs.rpost (h : RCIs w y r lv G X) (hp : RPost w w' r G R') : RCPost w w' y r G { X with R := R' } := by
  obtain ⟨G', a, b, c, o⟩ := hp
  have hlt := RCAt.lt ⟨_, h⟩
  have hn := RCAt.notin ⟨_, h⟩
  refine ⟨G', ⟨lv, (o.block y (hlt y (by simp)) (by simpa using h.ne)).trans h.row, h.lines.to (fun x hx => o.block x (hlt x (by simp [hx])) (fun e => ?_)) b, a, h.ne, fun hy => ?_, ⟨h.ok.len, h.ok.m0, h.ok.m1, h.ok.g0, h.ok.g1, h.ok.at0⟩⟩, b, c, (Only.refl [y, r] w).trans o (fun x hx => .inl (by simp at hx; simp [hx]))⟩
  · simp at e
    subst e
    exact hn.2.1 hx
  · rcases c y hy with h1 | h1
    · exact h.out h1
    · have := hlt y (by simp); omega
end

/-- Behind the writes of some lines. -/
def RS.wrote (R : RS) (l : List (Int × Array Value)) : RS := l.foldl (fun R q => R.written q.1 q.2) R
theorem wrote_snoc (R : RS) (l : List (Int × Array Value)) (p : Int × Array Value) : R.wrote (l ++ [p]) = (R.wrote l).written p.1 p.2 := by simp [RS.wrote]
theorem wrote_facts : ∀ (l : List (Int × Array Value)) (R : RS), R.burns = false → (R.wrote l).n = R.n ∧ (R.wrote l).off = R.off ∧ (R.wrote l).burns = false ∧ (R.wrote l).B = R.B ∧ (R.wrote l).L = R.L ++ l ∧ (R.wrote l).N = R.N + l.length
  | [], R, h => by simp [RS.wrote, h]
  | p :: l, R, h => by
    have := wrote_facts l (R.written p.1 p.2) (by simp [RS.written, RS.stepped, h])
    obtain ⟨a, b, c, d, e, f⟩ := this
    have e0 : R.wrote (p :: l) = (R.written p.1 p.2).wrote l := rfl
    rw [e0]
    refine ⟨a, b, c, d, ?_, ?_⟩
    · rw [e]; simp [RS.written]
    · rw [f]; simp [RS.written, RS.stepped]; omega
theorem wrsR_take {L : List Ln} {k : Nat} {q : Ln} (hq : L[k]? = some q) : wrsR (L.take (k + 1)) = if q.pin then wrsR (L.take k) ++ [(q.at', fullA q.c)] else wrsR (L.take k) := by
  unfold wrsR pinsR
  rw [List.take_add_one, hq, Option.toList_some, List.filter_append, List.map_append]
  cases hp : q.pin <;> simp [hp]
theorem wrsR_len (L : List Ln) : (wrsR L).length ≤ L.length := by
  simp only [wrsR, pinsR, List.length_map]
  exact List.length_filter_le _ _
/-- The row in which flags are taken off. -/
def turned (L : List Ln) (k : Nat) : List Ln := (L.take k).map unpin ++ L.drop k
theorem turned_len (L : List Ln) (k : Nat) : (turned L k).length = L.length := by simp [turned, List.length_take]; omega
theorem turned_zero (L : List Ln) : turned L 0 = L := by simp [turned]
theorem turned_all (L : List Ln) : turned L L.length = L.map unpin := by simp [turned]
theorem turned_at (L : List Ln) (k j : Nat) : (turned L k)[j]? = if j < k then (L[j]?).map unpin else L[j]? := by
  unfold turned
  by_cases hj : j < ((L.take k).map unpin).length
  · rw [List.getElem?_append_left hj, List.getElem?_map]
    rw [List.length_map, List.length_take] at hj
    have hj1 : j < k := by omega
    rw [List.getElem?_take_of_lt hj1, if_pos hj1]
  · rw [List.getElem?_append_right (by omega)]
    rw [List.length_map, List.length_take] at hj
    rw [List.getElem?_drop, List.length_map, List.length_take]
    by_cases hk : j < k
    · rw [if_pos hk, List.getElem?_eq_none (by omega), List.getElem?_eq_none (by omega)]; rfl
    · rw [if_neg hk]
      by_cases hl : k ≤ L.length
      · rw [Nat.min_eq_left hl]; congr 1; omega
      · rw [List.getElem?_eq_none (by omega), List.getElem?_eq_none (by omega)]
structure CellsOf (w : World) (G : List Nat) (cur : Array Value) (l : List Ln) : Prop where
  cell : ∀ j p, l[j]? = some p → cur[j * 3]? = some (.int .i64 p.at') ∧ (∃ sv, cur[j * 3 + 1]? = some sv ∧ BytesIs w G sv (fullA p.c)) ∧ cur[j * 3 + 2]? = some (.bool p.pin)
theorem CellsOf.to {w w' : World} {G G' : List Nat} {cur : Array Value} {l : List Ln} (h : CellsOf w G cur l) (he : ∀ x ∈ G, w'.heap[x]? = w.heap[x]?) (hG : ∀ x ∈ G, x ∈ G') : CellsOf w' G' cur l :=
  ⟨fun j p hp => by obtain ⟨h1, ⟨sv, h2, h3⟩, h4⟩ := h.cell j p hp; exact ⟨h1, ⟨sv, h2, h3.to he hG⟩, h4⟩⟩
theorem CellsOf.skip {w : World} {G : List Nat} {cur : Array Value} {L : List Ln} {k : Nat} {q : Ln} (h : CellsOf w G cur (turned L k)) (hq : L[k]? = some q) (hp : q.pin = false) : CellsOf w G cur (turned L (k + 1)) :=
  ⟨fun j p hj => by
    refine h.cell j p ?_
    rw [turned_at] at hj ⊢
    by_cases e : j = k
    · subst e
      rw [if_pos (by omega), hq] at hj
      rw [if_neg (by omega), hq]
      simp [unpin] at hj
      rw [← hj]
      cases q
      simp_all
    · by_cases hk : j < k
      · rw [if_pos hk]; rw [if_pos (by omega)] at hj; exact hj
      · rw [if_neg hk]; rw [if_neg (by omega)] at hj; exact hj⟩
theorem CellsOf.off {w : World} {G : List Nat} {cur : Array Value} {L : List Ln} {k : Nat} {q : Ln} (h : CellsOf w G cur (turned L k)) (hq : L[k]? = some q) : CellsOf w G (cur.setIfInBounds (k * 3 + 2) (.bool false)) (turned L (k + 1)) := by
  have hk : (turned L k)[k]? = some q := by rw [turned_at, if_neg (by omega), hq]
  have hsz : k * 3 + 2 < cur.size := by
    have := (h.cell k q hk).2.2
    exact (Array.getElem?_eq_some_iff.1 this).1
  refine ⟨fun j p hj => ?_⟩
  rw [turned_at] at hj
  rw [Array.getElem?_setIfInBounds, Array.getElem?_setIfInBounds, Array.getElem?_setIfInBounds]
  by_cases e : j = k
  · subst e
    rw [if_pos (by omega), hq] at hj
    simp at hj
    subst hj
    obtain ⟨h1, ⟨sv, h2, h3⟩, h4⟩ := h.cell j q hk
    rw [if_neg (by omega), if_neg (by omega), if_pos rfl, if_pos hsz]
    exact ⟨h1, ⟨sv, h2, h3⟩, rfl⟩
  · rw [if_neg (by omega), if_neg (by omega), if_neg (by omega)]
    refine h.cell j p ?_
    rw [turned_at]
    by_cases hk' : j < k
    · rw [if_pos hk']; rw [if_pos (by omega)] at hj; exact hj
    · rw [if_neg hk']; rw [if_neg (by omega)] at hj; exact hj

structure CmI (w : World) (y r : Nat) (G : List Nat) (X : RCS) (gl k : Nat) (Gk : List Nat) (cur : Array Value) (wr : World) : Prop where
  at' : RCAt wr y r Gk { X with R := X.R.wrote (wrsR (X.L.take k)) }
  sub : ∀ x ∈ G, x ∈ Gk
  new : ∀ x ∈ Gk, x ∈ G ∨ w.heap.size ≤ x
  only : Only [y, r] w wr
  blk : wr.heap[gl]? = some (.cells cur 46 (0, 0))
  cells : CellsOf wr Gk cur (turned X.L k)
  ny : gl ≠ y
  nr : gl ≠ r
  nG : gl ∉ Gk
  base : w.heap.size ≤ gl
theorem CmI.drew {w : World} {y r : Nat} {G : List Nat} {X : RCS} {gl k : Nat} {Gk : List Nat} {cur : Array Value} {wr : World} (h : CmI w y r G X gl k Gk cur wr) : CmI w y r G X gl k Gk cur wr.drew :=
  ⟨h.at'.congr (fun _ _ => rfl), h.sub, h.new, h.only.drew, h.blk, h.cells.to (fun _ _ => rfl) (fun _ h => h), h.ny, h.nr, h.nG, h.base⟩
theorem CmI.skip {w : World} {y r : Nat} {G : List Nat} {X : RCS} {gl k : Nat} {Gk : List Nat} {cur : Array Value} {wr : World} {q : Ln} (h : CmI w y r G X gl k Gk cur wr) (hq : X.L[k]? = some q) (hp : q.pin = false) : CmI w y r G X gl (k + 1) Gk cur wr := by
  refine ⟨?_, h.sub, h.new, h.only, h.blk, h.cells.skip hq hp, h.ny, h.nr, h.nG, h.base⟩
  rw [wrsR_take hq, hp]
  exact h.at'
/-- A pinned line is written, and its flag taken off. -/
theorem CmI.step {w : World} {y r : Nat} {G : List Nat} {X : RCS} {gl k : Nat} {Gk : List Nat} {cur : Array Value} {wr w2 : World} {q : Ln} (h : CmI w y r G X gl k Gk cur wr) (hq : X.L[k]? = some q) (hp : q.pin = true) (hR : RPost wr w2 r Gk ((X.R.wrote (wrsR (X.L.take k))).written q.at' (fullA q.c))) :
    (∃ v, w2.cell? ⟨gl, k * 3 + 2, none⟩ = some v) ∧ w2.frozen? ⟨gl, k * 3 + 2, none⟩ = false ∧ ∃ G2, CmI w y r G X gl (k + 1) G2 (cur.setIfInBounds (k * 3 + 2) (.bool false)) (w2.setCell ⟨gl, k * 3 + 2, none⟩ (.bool false)) := by
  obtain ⟨lv, h1⟩ := h.at'
  have hltk := h.at'.lt
  have hgl := (Array.getElem?_eq_some_iff.1 h.blk).1
  obtain ⟨G2, a2, b2, c2, o2⟩ := h1.rpost hR
  obtain ⟨_, _, _, _, oR⟩ := hR
  have hb2 : w2.heap[gl]? = some (.cells cur 46 (0, 0)) := (oR.block gl hgl (by simpa using h.nr)).trans h.blk
  have hk : (turned X.L k)[k]? = some q := by rw [turned_at, if_neg (by omega), hq]
  obtain ⟨_, _, h4⟩ := h.cells.cell k q hk
  have hnG2 : gl ∉ G2 := fun hx => by
    rcases c2 gl hx with h' | h'
    · exact h.nG h'
    · omega
  have hn := RCAt.notin h.at'
  refine ⟨⟨_, (cell_of_row _ _ _ _ _ _ hb2).trans h4⟩, by simp [World.frozen?, hb2], G2, ?_⟩
  refine ⟨?_, fun x hx => b2 x (h.sub x hx), fun x hx => ?_, ((h.only.trans o2 (fun x hx => .inl hx))).setCell (.inr h.base) _, heap_setCell_row hb2 _ _, ?_, h.ny, h.nr, hnG2, h.base⟩
  · rw [wrsR_take hq, hp, if_pos rfl, wrote_snoc]
    refine a2.congr (fun x hx => Below.heap_setCell _ _ _ _ ?_)
    rintro rfl
    rcases List.mem_cons.1 hx with e | hx
    · exact h.ny e
    · rcases List.mem_cons.1 hx with e | hx
      · exact h.nr e
      · exact hnG2 hx
  · rcases c2 x hx with h' | h'
    · exact h.new x h'
    · exact .inr (Nat.le_trans h.only.size h')
  · refine ((h.cells.to (fun x hx => ?_) b2).to (fun x hx => Below.heap_setCell _ _ _ _ (fun e => hnG2 (by simp only at e; rw [← e]; exact hx))) (fun _ hx => hx)).off hq
    exact oR.block x (hltk x (by simp [hx])) (fun e => by simp at e; exact hn.2.1 (e ▸ hx))

def CmOk (w : World) (y r : Nat) (G : List Nat) (X : RCS) (w' : World) : Prop :=
  ∃ R', R'.n = X.R.n ∧ R'.off = false ∧ R'.burns = false ∧ replay R'.B R'.L = replay (replay X.R.B X.R.L) (wrsR X.L) ∧ R'.L = [] ∧ R'.N ≤ X.R.N + X.L.length + 1 ∧ RCPost w w' y r G { X with L := trimR X.most (X.L.map unpin), opn := false, groups := X.groups + 1, R := R' }
def CmPost (w : World) (y r : Nat) (G : List Nat) (X : RCS) (e : Ending) (w' : World) : Prop :=
  (Grp X.L ∧ e = .returned (.int .i64 0) ∧ CmOk w y r G X w') ∨ (¬ Grp X.L ∧ e = .returned (.int .i64 20) ∧ Only [] w w')

set_option maxHeartbeats 1000000 in
theorem rccommit_closed {w : World} {y r : Nat} {G : List Nat} {X : RCS} (h : RCAt w y r G X) (ho : X.opn = false) :
    Calls Try.prog 20 #[pp y] w fun e w' => e = .returned (.int .i64 30) ∧ w' = w := by
  obtain ⟨lv, h⟩ := h
  obtain ⟨c0, c1, c2, c3, c4, c5, c6, c7, c8, fz⟩ := h.cells
  rw [ho] at c6
  clear h c0 c1 c2 c3 c4 c5 c7 c8 fz
  show Calls Try.prog 20 #[.pointer (some ⟨y, 0, none⟩)] w _
  go_enter Try.func20, Try.ntmps20
  go_wp2
  go_ret
  exact ⟨rfl, rfl⟩

/-- Behind the loop over the lines. -/
structure CntI (X : RCS) (w : World) (k : Nat) (wr : World) : Prop where
  le : k ≤ X.L.length
  not : ∀ p ∈ X.L.take k, p.pin = true → ¬ (0 ≤ p.at' ∧ p.at' < 40)
  only : Only [] w wr
def cnt (X : RCS) (k : Nat) : Nat := (X.L.take k).countP (fun q => q.pin)
theorem cnt_step {X : RCS} {k : Nat} {q : Ln} (hq : X.L[k]? = some q) : cnt X (k + 1) = cnt X k + if q.pin then 1 else 0 := by
  unfold cnt
  rw [List.take_add_one, hq, Option.toList_some, List.countP_append]
  cases hp : q.pin <;> simp [hp]
theorem cnt_le (X : RCS) (k : Nat) : cnt X k ≤ X.L.length := Nat.le_trans (List.countP_le_length) (by rw [List.length_take]; omega)
theorem CntI.next {X : RCS} {w : World} {k : Nat} {wr wr' : World} {q : Ln} (h : CntI X w k wr) (hq : X.L[k]? = some q) (hn : q.pin = true → ¬ (0 ≤ q.at' ∧ q.at' < 40)) (o : Only [] w wr') : CntI X w (k + 1) wr' := by
  refine ⟨(List.getElem?_eq_some_iff.1 hq).1, fun p hp => ?_, o⟩
  rw [List.take_add_one, hq, Option.toList_some] at hp
  rcases List.mem_append.1 hp with hp | hp
  · exact h.not p hp
  · simp at hp
    subst hp
    exact hn

set_option maxHeartbeats 8000000 in
theorem rccommit_any {w : World} {y r : Nat} {G : List Nat} {X : RCS} (h : RCAt w y r G X) (ho : X.opn = true) (hat : ∀ p ∈ X.L, 0 ≤ p.at' ∧ p.at' < X.R.n) (hoff : X.R.off = false) (hbr : X.R.burns = false) (hm : 0 ≤ X.most) (hN : X.R.N + X.L.length < 900000000) (hRL : X.R.L.length + X.L.length < 900000000) (hgr : X.groups < 900000000) :
    Calls Try.prog 20 #[pp y] w fun e w' => CmPost w y r G X e w' := by
  have HH := Lib.hid h
  have HAT := Lib.hid hat
  obtain ⟨lv, h⟩ := h
  obtain ⟨c0, c1, c2, c3, c4, c5, c6, c7, c8, fz⟩ := h.cells
  rw [ho] at c6
  have hlen := h.ok.len
  have hlt := RCAt.lt ⟨_, h⟩
  have hyl : y < w.heap.size := hlt y (by simp)
  have H := Lib.hid h
  have HLT := Lib.hid hlt
  obtain ⟨a, cap, rfl, hcap, hcap2, hall⟩ := h.lines.slice
  have HL := Lib.hid hall
  have HY := Lib.hid (fun (x : World) (o : Only [] w x) => (show x.cell? ⟨y, 7, none⟩ = some (.slice a X.L.length cap) ∧ x.cell? ⟨y, 1, none⟩ = some (.int .i64 0) ∧ x.cell? ⟨y, 2, none⟩ = some (.int .i64 40) ∧ x.cell? ⟨y, 3, none⟩ = some (.int .i64 37) from
    have bl := o.block y hyl (by simp)
    ⟨(World.cell?_of_block (w := w) bl).trans c7, (World.cell?_of_block (w := w) bl).trans c1, (World.cell?_of_block (w := w) bl).trans c2, (World.cell?_of_block (w := w) bl).trans c3⟩))
  clear h c0 c1 c2 c3 c4 c5 c7 c8 fz hall hlt hat
  show Calls Try.prog 20 #[.pointer (some ⟨y, 0, none⟩)] w _
  go_enter Try.func20, Try.ntmps20
  go_wp2
  clear c6
  go_loopw [4, 3] (fun x n wr => ∃ k : Nat, x = .int .i64 k ∧ n = .int .i64 (cnt X k) ∧ CntI X w k wr) (fun x _ _ => X.L.length - (RowKit.intOf x).toNat)
  case atStart => exact ⟨0, rfl, rfl, by omega, by simp, Only.refl _ _⟩
  case round =>
    obtain ⟨k, rfl, rfl, hI⟩ := hrel
    have hk := hI.le
    obtain ⟨c7, c1, c2, c3⟩ := HY.out wr hI.only
    have hcl := cnt_le X k
    by_cases hkl : k < X.L.length
    · as_aux_lemma =>
      obtain ⟨q, hq⟩ : ∃ q, X.L[k]? = some q := ⟨_, List.getElem?_eq_getElem hkl⟩
      have hst := cnt_step hq
      obtain ⟨g, rfl, hg, q1, ⟨sq, q2, q3⟩, q4⟩ := HL.out k q hq
      have hq0 := (HAT.out q (List.mem_of_getElem? hq)).1
      have bl := hI.only.block g (HLT.out g (by simp [hg])) (by simp)
      have t3 : wr.cell? ⟨g, k * 3 + 2, none⟩ = some (.bool q.pin) := (World.cell?_of_block (w := w) bl).trans q4
      have t1d : wr.drew.cell? ⟨g, k * 3 + 0, none⟩ = some (.int .i64 q.at') := (World.cell?_of_block (w := w) bl).trans q1
      have HI := Lib.hid hI
      have HQ := Lib.hid hq
      clear hI bl q1 q2 q3 q4 hq
      cases hpp : q.pin
      · rw [hpp] at t3 hst
        have hst : cnt X (k + 1) = cnt X k := by simpa using hst
        have FIN : Hid (∃ k' : Nat, (.int .i64 ((k : Int) + 1) : Value) = .int .i64 k' ∧ (.int .i64 (cnt X k : Int) : Value) = .int .i64 (cnt X k') ∧ CntI X w k' wr) := (⟨k + 1, by simp, by rw [hst], HI.out.next HQ.out (by rw [hpp]; simp) HI.out.only⟩ : ∃ k' : Nat, (.int .i64 ((k : Int) + 1) : Value) = .int .i64 k' ∧ (.int .i64 (cnt X k : Int) : Value) = .int .i64 (cnt X k') ∧ CntI X w k' wr)
        clear hst HI
        generalize cnt X k = ck at *
        go_wp2
        go_roundw
        case rel => exact FIN.out
        case measure => simp [RowKit.intOf]; omega
      · rw [hpp] at t3 hst
        have hst : cnt X (k + 1) = cnt X k + 1 := by simpa using hst
        have HST := Lib.hid hst
        have HPP := Lib.hid hpp
        obtain ⟨c7d, c1d, c2d, c3d⟩ := HY.out wr.drew HI.out.only.drew
        clear hst hpp c1 c2 c3
        generalize hck : cnt X k = ck at *
        go_wp2_with fail
        refine wp_region_flowR Lat [0, 0, 0, 1, 0, 0, 0, 1, 0, 0, 0, 1, 0, 0, 0, 0, 0, 1, 0, 0, 0, 1, 0, 0, 0, 1, 0, 0, 0, 1, 0, 0, 0] (by kernel_rfl) (by kernel_rfl) Lat.refl Lat.trans ?_
        refine fr0 (u := .pointer (some ⟨y, 0, none⟩)) rfl (fun _ => rfl) ?_
        simp only [Act.put, List.setIfInBounds_toArray, List.set_cons_succ, List.set_cons_zero]
        refine fr0 (u := .pointer (some ⟨y, 0, none⟩)) rfl (fun _ => rfl) ?_
        simp only [Act.put, List.setIfInBounds_toArray, List.set_cons_succ, List.set_cons_zero]
        refine fr0 (u := .pointer (some ⟨y, 7, none⟩)) rfl (run_field44 (k := 7) (by omega) rfl rfl) ?_
        simp only [Act.put, List.setIfInBounds_toArray, List.set_cons_succ, List.set_cons_zero]
        refine fr1 (u := .slice (some ⟨g, 0, none⟩) X.L.length cap) rfl (fun x hx => run_load1 rfl rfl (hx.cell c7d) isAgg42) ?_
        simp only [Act.put, List.setIfInBounds_toArray, List.set_cons_succ, List.set_cons_zero]
        refine fr0 (u := .int .i64 (k : Nat)) rfl (fun _ => rfl) ?_
        simp only [Act.put, List.setIfInBounds_toArray, List.set_cons_succ, List.set_cons_zero]
        refine fr0 (u := .pointer (some ⟨g, k * 3, none⟩)) rfl (run_index42 hkl rfl rfl rfl) ?_
        simp only [Act.put, List.setIfInBounds_toArray, List.set_cons_succ, List.set_cons_zero]
        refine fr0 (u := .pointer (some ⟨g, k * 3 + 0, none⟩)) rfl (run_field46 (k := 0) (by omega) rfl rfl) ?_
        simp only [Act.put, List.setIfInBounds_toArray, List.set_cons_succ, List.set_cons_zero]
        refine fr1 (u := .int .i64 q.at') rfl (fun x hx => run_load1 rfl rfl (hx.cell t1d) isAgg3) ?_
        simp only [Act.put, List.setIfInBounds_toArray, List.set_cons_succ, List.set_cons_zero]
        refine fr0 (u := .pointer (some ⟨y, 0, none⟩)) rfl (fun _ => rfl) ?_
        simp only [Act.put, List.setIfInBounds_toArray, List.set_cons_succ, List.set_cons_zero]
        refine fr0 (u := .pointer (some ⟨y, 0, none⟩)) rfl (fun _ => rfl) ?_
        simp only [Act.put, List.setIfInBounds_toArray, List.set_cons_succ, List.set_cons_zero]
        refine fr0 (u := .pointer (some ⟨y, 1, none⟩)) rfl (run_field44 (k := 1) (by omega) rfl rfl) ?_
        simp only [Act.put, List.setIfInBounds_toArray, List.set_cons_succ, List.set_cons_zero]
        refine fr1 (u := .int .i64 0) rfl (fun x hx => run_load1 rfl rfl (hx.cell c1d) isAgg3) ?_
        simp only [Act.put, List.setIfInBounds_toArray, List.set_cons_succ, List.set_cons_zero]
        refine fr0 (u := .bool true) rfl (fun x => (run_geq rfl rfl rfl x).trans (by rw [decide_eq_true hq0])) ?_
        simp only [Act.put, List.setIfInBounds_toArray, List.set_cons_succ, List.set_cons_zero]
        refine fr0 (u := .bool true) rfl (fun _ => rfl) ?_
        simp only [Act.put, List.setIfInBounds_toArray, List.set_cons_succ, List.set_cons_zero]
        refine fr0 (u := .pointer (some ⟨y, 0, none⟩)) (by kernel_rfl) (fun _ => rfl) ?_
        simp only [Act.put, List.setIfInBounds_toArray, List.set_cons_succ, List.set_cons_zero]
        refine fr0 (u := .pointer (some ⟨y, 0, none⟩)) (by kernel_rfl) (fun _ => rfl) ?_
        simp only [Act.put, List.setIfInBounds_toArray, List.set_cons_succ, List.set_cons_zero]
        refine fr0 (u := .pointer (some ⟨y, 7, none⟩)) (by kernel_rfl) (run_field44 (k := 7) (by omega) rfl rfl) ?_
        simp only [Act.put, List.setIfInBounds_toArray, List.set_cons_succ, List.set_cons_zero]
        refine fr1 (u := .slice (some ⟨g, 0, none⟩) X.L.length cap) (by kernel_rfl) (fun x hx => run_load1 rfl rfl (hx.cell c7d) isAgg42) ?_
        simp only [Act.put, List.setIfInBounds_toArray, List.set_cons_succ, List.set_cons_zero]
        refine fr0 (u := .int .i64 (k : Nat)) (by kernel_rfl) (fun _ => rfl) ?_
        simp only [Act.put, List.setIfInBounds_toArray, List.set_cons_succ, List.set_cons_zero]
        refine fr0 (u := .pointer (some ⟨g, k * 3, none⟩)) (by kernel_rfl) (run_index42 hkl rfl rfl rfl) ?_
        simp only [Act.put, List.setIfInBounds_toArray, List.set_cons_succ, List.set_cons_zero]
        refine fr0 (u := .pointer (some ⟨g, k * 3 + 0, none⟩)) (by kernel_rfl) (run_field46 (k := 0) (by omega) rfl rfl) ?_
        simp only [Act.put, List.setIfInBounds_toArray, List.set_cons_succ, List.set_cons_zero]
        refine fr1 (u := .int .i64 q.at') (by kernel_rfl) (fun x hx => run_load1 rfl rfl (hx.cell t1d) isAgg3) ?_
        simp only [Act.put, List.setIfInBounds_toArray, List.set_cons_succ, List.set_cons_zero]
        refine fr0 (u := .pointer (some ⟨y, 0, none⟩)) (by kernel_rfl) (fun _ => rfl) ?_
        simp only [Act.put, List.setIfInBounds_toArray, List.set_cons_succ, List.set_cons_zero]
        refine fr0 (u := .pointer (some ⟨y, 0, none⟩)) (by kernel_rfl) (fun _ => rfl) ?_
        simp only [Act.put, List.setIfInBounds_toArray, List.set_cons_succ, List.set_cons_zero]
        refine fr0 (u := .pointer (some ⟨y, 1, none⟩)) (by kernel_rfl) (run_field44 (k := 1) (by omega) rfl rfl) ?_
        simp only [Act.put, List.setIfInBounds_toArray, List.set_cons_succ, List.set_cons_zero]
        refine fr1 (u := .int .i64 0) (by kernel_rfl) (fun x hx => run_load1 rfl rfl (hx.cell c1d) isAgg3) ?_
        simp only [Act.put, List.setIfInBounds_toArray, List.set_cons_succ, List.set_cons_zero]
        refine fr0 (u := .pointer (some ⟨y, 0, none⟩)) (by kernel_rfl) (fun _ => rfl) ?_
        simp only [Act.put, List.setIfInBounds_toArray, List.set_cons_succ, List.set_cons_zero]
        refine fr0 (u := .pointer (some ⟨y, 0, none⟩)) (by kernel_rfl) (fun _ => rfl) ?_
        simp only [Act.put, List.setIfInBounds_toArray, List.set_cons_succ, List.set_cons_zero]
        refine fr0 (u := .pointer (some ⟨y, 2, none⟩)) (by kernel_rfl) (run_field44 (k := 2) (by omega) rfl rfl) ?_
        simp only [Act.put, List.setIfInBounds_toArray, List.set_cons_succ, List.set_cons_zero]
        refine fr1 (u := .int .i64 40) (by kernel_rfl) (fun x hx => run_load1 rfl rfl (hx.cell c2d) isAgg3) ?_
        simp only [Act.put, List.setIfInBounds_toArray, List.set_cons_succ, List.set_cons_zero]
        refine fr0 (u := .int .i64 (0 + 40)) (by kernel_rfl) (run_add (by omega) (by omega) rfl rfl rfl) ?_
        simp only [Act.put, List.setIfInBounds_toArray, List.set_cons_succ, List.set_cons_zero]
        refine fr0 (u := .bool (decide (q.at' < 0 + 40))) (by kernel_rfl) (run_lss rfl rfl rfl) ?_
        simp only [Act.put, List.setIfInBounds_toArray, List.set_cons_succ, List.set_cons_zero]
        refine fr0 (u := .bool (decide (q.at' < 0 + 40))) rfl (fun _ => rfl) ?_
        simp only [Act.put, List.setIfInBounds_toArray, List.set_cons_succ, List.set_cons_zero]
        refine frnil ?_
        show Exit.then _ _ _ _ _
        clear c7 c7d c1d c2d c3d t3 t1d
        by_cases hin : q.at' < 0 + 40
        · rw [decide_eq_true hin]
          have fin : CmPost w y r G X (.returned (.int .i64 20)) wr.drew := .inr ⟨fun hG => hG.1 q (List.mem_of_getElem? HQ.out) HPP.out ⟨hq0, by omega⟩, rfl, HI.out.only.drew⟩
          have FIN := Lib.hid fin
          clear fin HI HST hin
          generalize wr.drew = w5 at *
          go_wp2
          go_ret
          exact FIN.out
        · rw [decide_eq_false hin]
          have FIN : Hid (∃ k' : Nat, (.int .i64 ((k : Int) + 1) : Value) = .int .i64 k' ∧ (.int .i64 ((ck : Int) + 1) : Value) = .int .i64 (cnt X k') ∧ CntI X w k' wr.drew) := (⟨k + 1, by simp, by rw [HST.out]; simp, HI.out.next HQ.out (fun _ => by omega) HI.out.only.drew⟩ : ∃ k' : Nat, (.int .i64 ((k : Int) + 1) : Value) = .int .i64 k' ∧ (.int .i64 ((ck : Int) + 1) : Value) = .int .i64 (cnt X k') ∧ CntI X w k' wr.drew)
          clear HI HST hin
          generalize wr.drew = w5 at *
          go_wp2
          go_roundw
          case rel => exact FIN.out
          case measure => simp [RowKit.intOf]; omega
    · have hkk : k = X.L.length := by omega
      subst hkk
      have hcnt : cnt X X.L.length = X.L.countP (fun q => q.pin) := by unfold cnt; rw [List.take_length]
      by_cases hbig : 37 < (cnt X X.L.length : Int)
      · as_aux_lemma =>
        have fin : CmPost w y r G X (.returned (.int .i64 20)) wr := .inr ⟨fun hG => by have := hG.2; omega, rfl, hI.only⟩
        have FIN := Lib.hid fin
        clear fin hI hcnt c1 c2
        generalize cnt X X.L.length = ck at *
        go_wp2
        go_ret
        exact FIN.out
      · as_aux_lemma =>
        have hG : Grp X.L := ⟨fun p hp hpp => hI.not p (by rw [List.take_length]; exact hp) hpp, by omega⟩
        have HG := Lib.hid hG
        have hle : (cnt X X.L.length : Int) ≤ 37 := by omega
        have h1 := HH.out.only hI.only
        have hlt1 := h1.lt
        have hn1 := h1.notin
        obtain ⟨gl, cpl, cur, w2, xs, run2, hb2, hgl, hcp1, hcp2, hcx, hlns, o2⟩ := append42all (w := wr) (lv := .slice a X.L.length cap) (H.out.lines.to (fun x hx => hI.only.block x (HLT.out x (by simp [hx])) (by simp)) (fun _ h => h)) (fun x hx => hlt1 x (by simp [hx])) hlen 42
        have oo := hI.only.trans o2 (by simp)
        have hci : CmI w y r G X gl 0 G cur w2 := by
          refine ⟨by simpa [RS.wrote, wrsR, pinsR] using HH.out.only oo, fun _ h => h, fun _ h => .inl h, (Only.refl [y, r] w).trans oo (by simp), hb2, ⟨fun j p hj => ?_⟩, by have := hlt1 y (by simp); omega, by have := hlt1 r (by simp); omega, fun hx => by have := hlt1 gl (by simp [hx]); omega, Nat.le_trans hI.only.size hgl⟩
          rw [turned_zero] at hj
          have hjl := (List.getElem?_eq_some_iff.1 hj).1
          obtain ⟨e1, ⟨sv, e2, e3⟩, e4⟩ := hlns.cell j p hj
          exact ⟨(hcx _ (by omega)).trans e1, ⟨sv, (hcx _ (by omega)).trans e2, e3.to (fun x hx => o2.block x (hlt1 x (by simp [hx])) (by simp)) (fun _ h => h)⟩, (hcx _ (by omega)).trans e4⟩
        have CI := Lib.hid hci
        have RUN := Lib.hid run2
        have hb42 := build420
        have c7a : (wr.alloc (.cells #[] 46)).cell? ⟨y, 7, none⟩ = some (.slice a X.L.length cap) := (World.cell?_of_block (w := wr) (Below.heap_alloc _ _ _ (hlt1 y (by simp)))).trans c7
        clear hci run2 hb2 hgl hcx hlns o2 oo h1 hlt1 hI c1 c2 hcnt hG HL HY
        generalize cnt X X.L.length = ck at *
        go_wp2_with (refine wpL_value rfl (run_builtin_append rfl rfl rfl RUN.out) ?_)
        clear RUN c7 c7a c3 hb42
        go_loopw [6] (fun x wr => ∃ (k : Nat) (Gk : List Nat) (cur : Array Value), k ≤ X.L.length ∧ x = .int .i64 k ∧ CmI w y r G X gl k Gk cur wr) (fun x _ => X.L.length - (RowKit.intOf x).toNat)
        case atStart => exact ⟨0, G, cur, by omega, rfl, CI.out⟩
        case round =>
          clear CI
          obtain ⟨k, Gk, cur, hk, rfl, hC⟩ := hrel
          rename World => wB
          by_cases hkl : k < X.L.length
          · as_aux_lemma =>
            obtain ⟨q, hq⟩ : ∃ q, X.L[k]? = some q := ⟨_, List.getElem?_eq_getElem hkl⟩
            obtain ⟨e1, ⟨sq, e2, e3⟩, e4⟩ := hC.cells.cell k q (by rw [turned_at, if_neg (by omega), hq])
            have t3 : wB.cell? ⟨gl, k * 3 + 2, none⟩ = some (.bool q.pin) := (cell_of_row _ _ _ _ _ _ hC.blk).trans e4
            cases hpp : q.pin
            · rw [hpp] at t3
              have FIN := Lib.hid (hC.skip hq hpp)
              clear hC e1 e2 e3 e4
              go_wp2
              go_roundw
              case rel => exact ⟨k + 1, Gk, cur, by omega, by go_num, FIN.out⟩
              case measure => simp [RowKit.intOf]; omega
            · rw [hpp] at t3
              have hCd := hC.drew
              have hqa := HAT.out q (List.mem_of_getElem? hq)
              obtain ⟨wn, wo, wb, wB', wL, wN⟩ := wrote_facts (wrsR (X.L.take k)) X.R hbr
              have wl := wrsR_len (X.L.take k)
              have wl2 : (X.L.take k).length ≤ X.L.length := by rw [List.length_take]; omega
              obtain ⟨lvd, h1d⟩ := hCd.at'
              have c0d := h1d.cells.1
              have hnd := RCAt.notin ⟨_, h1d⟩
              have hltd := RCAt.lt ⟨_, h1d⟩
              obtain ⟨gq, capq, cq, rfl, hgq, ecq, hcells⟩ := e3
              have t1d : wB.drew.cell? ⟨gl, k * 3 + 0, none⟩ = some (.int .i64 q.at') := (cell_of_row _ _ _ _ _ _ hCd.blk).trans e1
              have t2d : wB.drew.cell? ⟨gl, k * 3 + 1, none⟩ = some (.slice (some ⟨gq, 0, none⟩) 64 capq) := (cell_of_row _ _ _ _ _ _ hCd.blk).trans e2
              have WR := rwrite_ok h1d.disk q.at' q.c gq capq (hltd gq (by simp [hgq])) (fun e => hnd.2.1 (e ▸ hgq)) (fun j hj => by rw [← fullA_inj ecq]; exact hcells j hj) (by
                simp only [RS.reach]
                rw [if_neg (by simp [wo, hoff]), if_neg (by rw [wn]; omega)]) (by simp only [RS.falls, wb]; simp) (by simp only [wN]; omega) (by simp only [wL, List.length_append]; omega)
              have WR := Lib.hid WR
              have HCD := Lib.hid hCd
              have HQ := Lib.hid hq
              have HPP := Lib.hid hpp
              clear hC hCd e1 e2 e4 wn wo wb wB' wL wN wl wl2 h1d hnd hltd hgq ecq hcells hq hpp hqa
              go_wp2_with fail
              clear t3
              refine wp_region_flowR Lat [0, 0, 0, 1, 0, 0, 0, 0, 1, 0, 0, 0, 0, 1, 3] (by kernel_rfl) (by kernel_rfl) Lat.refl Lat.trans ?_
              generalize wB.drew = w5 at *
              refine fr0 (u := .pointer (some ⟨y, 0, none⟩)) rfl (fun _ => rfl) ?_
              simp only [Act.put, List.setIfInBounds_toArray, List.set_cons_succ, List.set_cons_zero]
              refine fr0 (u := .pointer (some ⟨y, 0, none⟩)) rfl (fun _ => rfl) ?_
              simp only [Act.put, List.setIfInBounds_toArray, List.set_cons_succ, List.set_cons_zero]
              refine fr0 (u := .pointer (some ⟨y, 0, none⟩)) rfl (run_field44 (k := 0) (by omega) rfl rfl) ?_
              simp only [Act.put, List.setIfInBounds_toArray, List.set_cons_succ, List.set_cons_zero]
              refine fr1 (u := .pointer (some ⟨r, 0, none⟩)) rfl (fun x hx => run_load1 rfl rfl (hx.cell c0d) isAgg41) ?_
              simp only [Act.put, List.setIfInBounds_toArray, List.set_cons_succ, List.set_cons_zero]
              refine fr0 (u := .slice (some ⟨gl, 0, none⟩) X.L.length cpl) rfl (fun _ => rfl) ?_
              simp only [Act.put, List.setIfInBounds_toArray, List.set_cons_succ, List.set_cons_zero]
              refine fr0 (u := .int .i64 (k : Nat)) rfl (fun _ => rfl) ?_
              simp only [Act.put, List.setIfInBounds_toArray, List.set_cons_succ, List.set_cons_zero]
              refine fr0 (u := .pointer (some ⟨gl, k * 3, none⟩)) rfl (run_index42 hkl rfl rfl rfl) ?_
              simp only [Act.put, List.setIfInBounds_toArray, List.set_cons_succ, List.set_cons_zero]
              refine fr0 (u := .pointer (some ⟨gl, k * 3 + 0, none⟩)) rfl (run_field46 (k := 0) (by omega) rfl rfl) ?_
              simp only [Act.put, List.setIfInBounds_toArray, List.set_cons_succ, List.set_cons_zero]
              refine fr1 (u := .int .i64 q.at') rfl (fun x hx => run_load1 rfl rfl (hx.cell t1d) isAgg3) ?_
              simp only [Act.put, List.setIfInBounds_toArray, List.set_cons_succ, List.set_cons_zero]
              refine fr0 (u := .slice (some ⟨gl, 0, none⟩) X.L.length cpl) rfl (fun _ => rfl) ?_
              simp only [Act.put, List.setIfInBounds_toArray, List.set_cons_succ, List.set_cons_zero]
              refine fr0 (u := .int .i64 (k : Nat)) rfl (fun _ => rfl) ?_
              simp only [Act.put, List.setIfInBounds_toArray, List.set_cons_succ, List.set_cons_zero]
              refine fr0 (u := .pointer (some ⟨gl, k * 3, none⟩)) rfl (run_index42 hkl rfl rfl rfl) ?_
              simp only [Act.put, List.setIfInBounds_toArray, List.set_cons_succ, List.set_cons_zero]
              refine fr0 (u := .pointer (some ⟨gl, k * 3 + 1, none⟩)) rfl (run_field46 (k := 1) (by omega) rfl rfl) ?_
              simp only [Act.put, List.setIfInBounds_toArray, List.set_cons_succ, List.set_cons_zero]
              refine fr1 (u := .slice (some ⟨gq, 0, none⟩) 64 capq) rfl (fun x hx => run_load1 rfl rfl (hx.cell t2d) isAgg37) ?_
              simp only [Act.put, List.setIfInBounds_toArray, List.set_cons_succ, List.set_cons_zero]
              refine fr3c rfl (run_enter3 Try.call49 rfl rfl rfl rfl) WR.out ?_
              rintro e w2 ⟨rfl, hp2⟩
              refine ⟨_, rfl, ?_⟩
              simp only [Act.put, List.setIfInBounds_toArray, List.set_cons_succ, List.set_cons_zero]
              refine frnil ?_
              show Exit.then _ _ _ _ _
              obtain ⟨⟨v4, c4⟩, f4, G2, hC2⟩ := HCD.out.step HQ.out HPP.out hp2
              have FIN := Lib.hid hC2
              clear WR HCD hp2 hC2 c0d t1d t2d HQ
              go_wp2
              go_roundw
              case rel => exact ⟨k + 1, G2, _, by omega, by go_num, FIN.out⟩
              case measure => simp [RowKit.intOf]; omega
          · have hkk : k = X.L.length := by omega
            subst hkk
            as_aux_lemma =>
            obtain ⟨b1, b2, b3, b4, b5, b6, b7, b8, b9, b10⟩ := hC
            rw [turned_all] at b6
            rw [List.take_length] at b1
            obtain ⟨wn, wo, wb, wB', wL, wN⟩ := wrote_facts (wrsR X.L) X.R hbr
            have wl := wrsR_len X.L
            generalize hRW : X.R.wrote (wrsR X.L) = RW at *
            obtain ⟨lv1, h1⟩ := b1
            have c0 := h1.cells.1
            have hbar : RW.doBarrier = (0, RW.stepped.settled RW.L) := by
              unfold RS.doBarrier
              rw [if_neg (by simp [wo, hoff]), if_neg (by simp [RS.falls, wb])]
            have BR := rbarrier_any h1.disk (by simp only [wL, List.length_append]; omega) (by simp only [wN]; omega)
            simp only at BR
            rw [hbar] at BR
            have BR := Lib.hid BR
            have H1 := Lib.hid h1
            have B := Lib.hid (And.intro b2 (And.intro b3 (And.intro b4 (And.intro b5 b6))))
            have WF := Lib.hid (And.intro wn (And.intro wo (And.intro wb (And.intro wB' (And.intro wL wN)))))
            clear h1 b2 b3 b4 b5 b6 wn wo wb wB' wL wN hbar
            go_wp2_with fail
            clear c0
            refine BR.out.mono ?_
            rintro e w5 ⟨rfl, hp5⟩
            obtain ⟨wn, wo, wb, wB', wL, wN⟩ := WF.out
            obtain ⟨b2, b3, b4, b5, b6⟩ := B.out
            have hltB := RCAt.lt ⟨_, H1.out⟩
            have hnB := RCAt.notin ⟨_, H1.out⟩
            have hglB := (Array.getElem?_eq_some_iff.1 b5).1
            have oR : Only [r] wB w5 := by obtain ⟨_, _, _, _, o⟩ := hp5; exact o
            obtain ⟨G5, ⟨lv5, h5⟩, s5, n5, o5⟩ := H1.out.rpost hp5
            have hbl5 : w5.heap[gl]? = some (.cells cur 46 (0, 0)) := (oR.block gl hglB (by simpa using b8)).trans b5
            have hgl5 : gl < w5.heap.size := (Array.getElem?_eq_some_iff.1 hbl5).1
            have cs5 : CellsOf w5 G5 cur (X.L.map unpin) := b6.to (fun x hx => oR.block x (hltB x (by simp [hx])) (fun e => by simp at e; exact hnB.2.1 (e ▸ hx))) s5
            obtain ⟨c0, c1, c2, c3, c4, c5, c6, c7, c8, fz⟩ := h5.cells
            have f8 := fz 8
            have f7 := fz 7
            have f6 := fz 6
            have hg0 := H.out.ok.g0
            have p6 := h5.scalar (j := 8) (v := .int .i64 (X.groups + 1)) (X' := { X with R := RW.stepped.settled RW.L, groups := X.groups + 1 }) (by simp [rcrow]) rfl rfl ⟨h5.ok.len, h5.ok.m0, h5.ok.m1, by simp only; omega, by simp only; omega, h5.ok.at0⟩
            obtain ⟨G6, h6, s6, n6, o6⟩ := p6
            have hnG6 : gl ∉ G6 := fun hx => by
              rcases n6 gl hx with h' | h'
              · rcases n5 gl h' with h'' | h''
                · exact b9 h''
                · omega
              · omega
            obtain ⟨lv7, h7⟩ := h6.more (x := gl) (by simpa using hgl5) b7 b8
            have hln7 : LnsAt (w5.setCell ⟨y, 8, none⟩ (.int .i64 (X.groups + 1))) ([] ++ gl :: G6) (.slice (some ⟨gl, 0, none⟩) X.L.length cpl) (X.L.map unpin) := by
              refine .inr ⟨gl, cpl, by rw [List.length_map], by rw [List.length_map]; omega, hcp2, by simp, fun j p hj => ?_⟩
              obtain ⟨e1, ⟨sv, e2, e3⟩, e4⟩ := cs5.cell j p hj
              have hbl6 : (w5.setCell ⟨y, 8, none⟩ (.int .i64 (X.groups + 1))).heap[gl]? = some (.cells cur 46 (0, 0)) := (Below.heap_setCell _ _ _ _ b7).trans hbl5
              exact ⟨(cell_of_row _ _ _ _ _ _ hbl6).trans e1, ⟨sv, (cell_of_row _ _ _ _ _ _ hbl6).trans e2, e3.to (fun x hx => Below.heap_setCell _ _ _ _ (fun e => h5.out (by simp only at e; rw [← e]; exact hx))) (fun x hx => by simp [s6 x hx])⟩, (cell_of_row _ _ _ _ _ _ hbl6).trans e4⟩
            obtain ⟨G8, ⟨lv8, h8⟩, s8, n8, o8⟩ := h7.setL (Only.refl [] _) hln7 (by simp) (by rw [List.length_map]; omega) (fun z hz => by
              obtain ⟨q, hq, rfl⟩ := List.mem_map.1 hz
              exact H.out.ok.at0 q hq)
            obtain ⟨G9, h9, s9, n9, o9⟩ := h8.scalar (j := 6) (v := .bool false) (X' := { X with R := RW.stepped.settled RW.L, groups := X.groups + 1, L := X.L.map unpin, opn := false }) (by simp [rcrow]) rfl rfl ⟨h8.ok.len, h8.ok.m0, h8.ok.m1, h8.ok.g0, h8.ok.g1, h8.ok.at0⟩
            have TR := Lib.hid (rtrim_any h9 hm)
            have CH : Hid ((∀ x ∈ G, x ∈ G9) ∧ (∀ x ∈ G9, x ∈ G ∨ w.heap.size ≤ x) ∧ Only [y, r] w (((w5.setCell ⟨y, 8, none⟩ (.int .i64 (X.groups + 1))).setCell ⟨y, 7, none⟩ (.slice (some ⟨gl, 0, none⟩) X.L.length cpl)).setCell ⟨y, 6, none⟩ (.bool false))) := by
              have ow5 : Only [y, r] w w5 := b4.trans o5 (fun x hx => .inl hx)
              have ow6 := ow5.trans o6 (fun x hx => .inl hx)
              have ow8 := ow6.trans o8 (fun x hx => .inl hx)
              refine ⟨fun x hx => s9 x (s8 x (by simp [s6 x (s5 x (b2 x hx))])), fun x hx => ?_, ow8.trans o9 (fun x hx => .inl hx)⟩
              rcases n9 x hx with h' | h'
              · rcases n8 x h' with h' | h'
                · rcases List.mem_cons.1 h' with rfl | h'
                  · exact .inr b10
                  · rcases n6 x h' with h' | h'
                    · rcases n5 x h' with h' | h'
                      · exact b3 x h'
                      · exact .inr (Nat.le_trans b4.size h')
                    · exact .inr (Nat.le_trans ow5.size h')
                · exact .inr (Nat.le_trans ow6.size h')
              · exact .inr (Nat.le_trans ow8.size h')
            have CR : Hid (∀ w9, RCPost w w9 y r G { X with L := trimR X.most (X.L.map unpin), opn := false, groups := X.groups + 1, R := RW.stepped.settled RW.L } → CmPost w y r G X (.returned (.int .i64 0)) w9) := by
              intro w9 hw9
              refine .inl ⟨HG.out, rfl, RW.stepped.settled RW.L, ?_, ?_, ?_, ?_, rfl, ?_, hw9⟩
              · show RW.n = _; exact wn
              · show RW.off = _; rw [wo, hoff]
              · show RW.burns = _; exact wb
              · show replay (replay RW.B RW.L) [] = _
                rw [wB', wL, replay_app]; rfl
              · show RW.N + 1 ≤ _
                rw [wN]; omega
            clear h5 h7 h8 h9 o5 o6 o8 o9 s5 s6 s8 s9 n5 n6 n8 n9 hln7 cs5 hbl5 hgl5 hnG6 oR hp5 BR B WF wn wo wb wB' wL wN b2 b3 b4 b5 b6 hltB hnB hglB H1 fz c0 c1 c2 c3 c4 c5 h6 HG HLT HAT HH H
            go_wp2_with fail
            refine TR.out.mono ?_
            rintro e w9 ⟨rfl, hp9⟩
            have FIN := Lib.hid (CR.out w9 (RCPost.trans CH.out.1 CH.out.2.1 CH.out.2.2 hp9))
            clear TR CR CH hp9 c6 c7 c8 f6 f7 f8
            go_wp2
            go_ret
            exact FIN.out
end Go.Proofs.Ytoccnaebckcfmaa.Ref
end

section
set_option linter.unusedSimpArgs false
set_option linter.unusedVariables false
set_option maxRecDepth 8000
namespace Go.Proofs.Ytoccnaebckcfmaa
open Go.RowKit
theorem Has.perm {w0 w : World} {L L' : List Res} (h : Has w0 w L) (p : L.Perm L') : Has w0 w L' :=
  ⟨h.only, fun q hq => h.each q (p.mem_iff.2 hq), p.pairwise h.apart (fun hab x hx hy => hab x hy hx)⟩
theorem Has.last {w0 w : World} {L : List Res} {x : Res} (h : Has w0 w (x :: L)) : Has w0 w (L ++ [x]) := h.perm (List.perm_append_comm (l₁ := [x]) (l₂ := L))
theorem Has.fst {w0 w : World} {L : List Res} {x : Res} (h : Has w0 w (L ++ [x])) : Has w0 w (x :: L) := h.perm (List.perm_append_comm (l₁ := L) (l₂ := [x]))
end Go.Proofs.Ytoccnaebckcfmaa
namespace Go.Proofs.Ytoccnaebckcfmaa.Ref
open Go.RowKit Go.Proofs.Ytoccnaebckcfmaa
open Go.ChangeMaps (setBlock)

def RCRes (y r : Nat) (G : List Nat) (X : RCS) : Res := ⟨y :: r :: G, fun w => RCAt w y r G X, fun _ _ he h => h.congr he⟩

section
variable {w0 w w' : World} {y r : Nat} {G : List Nat} {X X' : RCS} {L Rs : List Res}
theorem has_rc (h : Has w0 w (RCRes y r G X :: Rs)) (hp : RCPost w w' y r G X') : ∃ G', Has w0 w' (RCRes y r G' X' :: Rs) := by
  obtain ⟨G', a, b, c, o⟩ := hp
  refine ⟨G', h.turn (r' := RCRes y r G' X') (o.mono (fun x hx => by simp at hx; rcases hx with rfl | rfl <;> simp [RCRes])) a (fun x hx => ⟨?_, a.lt x hx⟩)⟩
  simp only [RCRes, List.mem_cons] at hx ⊢
  rcases hx with h1 | h1 | h1
  · exact .inl (.inl h1)
  · exact .inl (.inr (.inl h1))
  · rcases c x h1 with h2 | h2
    · exact .inl (.inr (.inr h2))
    · exact .inr h2
theorem rcat_of (h : Has w0 w (L ++ [RCRes y r G X])) : RCAt w y r G X := (h.each (RCRes y r G X) (by simp)).1
theorem lift_rc {fid : FuncId} {args : Array Value} {Q : Ending → Prop} (h : Has w0 w (L ++ [RCRes y r G X])) (hc : Calls Try.prog fid args w fun e w' => Q e ∧ RCPost w w' y r G X') :
    Calls Try.prog fid args w fun e w' => Q e ∧ ∃ G', Has w0 w' (L ++ [RCRes y r G' X']) := by
  refine hc.mono ?_
  rintro e w' ⟨hq, hp⟩
  obtain ⟨G', h'⟩ := has_rc h.fst hp
  exact ⟨hq, G', h'.last⟩
end

/-- Behind i calls. -/
structure PIs (Ext : List Res) (w : World) (cb d wb y r i : Nat) (n : Int) (wr : World) (C : CaS) (F FD : List Nat) (k : Int) (f : Int → Option (Array Value)) (g : Int) (G : List Nat) (X : RCS) : Prop where
  sim : Sim C f X
  bd : Bd C n
  ms : C.miss ≤ i
  k0 : 0 ≤ k
  k1 : k ≤ 2 + 200 * (i : Int)
  g0 : 0 ≤ g
  g1 : g ≤ i
  rl : X.R.L = []
  rn : X.R.N ≤ 8300 * (i : Int)
  gr : X.groups ≤ i
  has : Has w wr (Ext ++ CRes cb d wb F C :: DRes d FD (quiet 100 k f) :: WRes wb d 0 40 g :: RCRes y r G X :: [])
def PEx (Ext : List Res) (w : World) (cb d wb y r i : Nat) (n : Int) (wr : World) : Prop := ∃ C F FD k f g G X, PIs Ext w cb d wb y r i n wr C F FD k f g G X

section
variable {Ext : List Res} {w wr w6 : World} {cb d wb y r i : Nat} {n : Int} {C : CaS} {F FD : List Nat} {k : Int} {f : Int → Option (Array Value)} {g : Int} {G : List Nat} {X : RCS}
theorem PIs.ex (h : PIs Ext w cb d wb y r i n wr C F FD k f g G X) : PEx Ext w cb d wb y r i n wr := ⟨C, F, FD, k, f, g, G, X, h⟩
theorem PIs.ok (h : PIs Ext w cb d wb y r i n wr C F FD k f g G X) : CaOk C := by
  obtain ⟨_, _, _, _, ok, _⟩ := h.has.cat (cb := cb) (d := d) (wb := wb) (F := F) (C := C) (by simp)
  exact ok
theorem PIs.llen (h : PIs Ext w cb d wb y r i n wr C F FD k f g G X) : X.L.length = C.ord.length ∧ X.L.length ≤ 8192 := by
  have := h.ok.len
  have e : C.ord.length = X.L.length := by rw [h.sim.ord, List.length_map]
  omega
theorem PIs.most (h : PIs Ext w cb d wb y r i n wr C F FD k f g G X) : 0 ≤ X.most := by rw [h.sim.most]; have := h.ok.m0; omega
theorem PIs.at0 (h : PIs Ext w cb d wb y r i n wr C F FD k f g G X) : ∀ p ∈ X.L, 0 ≤ p.at' ∧ p.at' < X.R.n := fun p hp => by
  have hm : p.at' ∈ C.ord := by rw [h.sim.ord]; exact List.mem_map.2 ⟨p, hp, rfl⟩
  have := h.ok.rg _ hm
  have := h.bd.rng _ hm
  rw [h.sim.n]
  omega
theorem PEx.later (h : PEx Ext w cb d wb y r i n wr) (o : Only [] wr w6) : PEx Ext w cb d wb y r i n w6 := by
  obtain ⟨C, F, FD, k, f, g, G, X, h⟩ := h
  exact ⟨C, F, FD, k, f, g, G, X, h.sim, h.bd, h.ms, h.k0, h.k1, h.g0, h.g1, h.rl, h.rn, h.gr, h.has.later o⟩
theorem PEx.drop {b : Res} (h : PEx [b] w cb d wb y r i n wr) : PEx [] w cb d wb y r i n wr := by
  obtain ⟨C, F, FD, k, f, g, G, X, h⟩ := h
  exact ⟨C, F, FD, k, f, g, G, X, h.sim, h.bd, h.ms, h.k0, h.k1, h.g0, h.g1, h.rl, h.rn, h.gr, h.has.drop⟩
theorem PEx.next (h : PEx Ext w cb d wb y r i n wr) : PEx Ext w cb d wb y r (i + 1) n wr := by
  obtain ⟨C, F, FD, k, f, g, G, X, h⟩ := h
  exact ⟨C, F, FD, k, f, g, G, X, h.sim, h.bd, by have := h.ms; omega, h.k0, by have := h.k1; omega, h.g0, by have := h.g1; omega, h.rl, by have := h.rn; omega, by have := h.gr; omega, h.has⟩
/-- A row that is written over. -/
theorem PEx.setb {gb : Nat} {A : Array Value} {t : TypeId} (h : PEx [BRes gb (.cells A t)] w cb d wb y r i n wr) (j : Nat) (v : Value) : PEx [BRes gb (.cells (A.setIfInBounds j v) t)] w cb d wb y r i n (wr.setCell ⟨gb, j, none⟩ v) := by
  obtain ⟨C, F, FD, k, f, g, G, X, h⟩ := h
  exact ⟨C, F, FD, k, f, g, G, X, h.sim, h.bd, h.ms, h.k0, h.k1, h.g0, h.g1, h.rl, h.rn, h.gr, Has.setb h.has j v⟩
theorem PEx.blk {gb : Nat} {o : Obj} (h : PEx [BRes gb o] w cb d wb y r i n wr) : wr.heap[gb]? = some o := by
  obtain ⟨C, F, FD, k, f, g, G, X, h⟩ := h
  exact h.has.blk (by simp)
theorem PEx.only (h : PEx Ext w cb d wb y r i n wr) : Only [] w wr := by
  obtain ⟨C, F, FD, k, f, g, G, X, h⟩ := h
  exact h.has.only
theorem PEx.alloc (h : PEx [] w cb d wb y r i n wr) (o : Obj) : PEx [BRes wr.heap.size o] w cb d wb y r i n (wr.alloc o) := by
  obtain ⟨C, F, FD, k, f, g, G, X, h⟩ := h
  exact ⟨C, F, FD, k, f, g, G, X, h.sim, h.bd, h.ms, h.k0, h.k1, h.g0, h.g1, h.rl, h.rn, h.gr, h.has.alloc o⟩

/-! Begin. -/
theorem p_begin2 (h : PIs [] w cb d wb y r i n wr C F FD k f g G X) {F' : List Nat} (hh : Has w w6 (CRes cb d wb F' { C with opn := true } :: DRes d FD (quiet 100 k f) :: WRes wb d 0 40 g :: RCRes y r G X :: [])) :
    Calls Try.prog 18 #[pp y] w6 fun e w7 => e = .returned (.int .i64 (if C.opn then 30 else 0)) ∧ PEx [] w cb d wb y r (i + 1) n w7 := by
  have hh' : Has w w6 ((CRes cb d wb F' { C with opn := true } :: DRes d FD (quiet 100 k f) :: WRes wb d 0 40 g :: []) ++ [RCRes y r G X]) := hh
  refine (lift_rc hh' (rcbegin_any (rcat_of hh'))).mono ?_
  rintro e w7 ⟨rfl, G', h7⟩
  refine ⟨by rw [h.sim.opn], PEx.next (PIs.ex (Ext := []) ⟨h.sim.begin, h.bd.begin true, h.ms, h.k0, h.k1, h.g0, h.g1, h.rl, h.rn, h.gr, h7⟩)⟩

/-! Abort. -/
theorem p_abort2 (h : PIs [] w cb d wb y r i n wr C F FD k f g G X) {F' : List Nat} (hh : Has w w6 (CRes cb d wb F' (if C.opn then C.abort else C) :: DRes d FD (quiet 100 k f) :: WRes wb d 0 40 g :: RCRes y r G X :: [])) :
    Calls Try.prog 22 #[pp y] w6 fun e w7 => e = .returned (.int .i64 (if C.opn then 0 else 30)) ∧ PEx [] w cb d wb y r (i + 1) n w7 := by
  have hh' : Has w w6 ((CRes cb d wb F' (if C.opn then C.abort else C) :: DRes d FD (quiet 100 k f) :: WRes wb d 0 40 g :: []) ++ [RCRes y r G X]) := hh
  cases ho : C.opn with
  | false =>
    rw [ho] at hh'
    refine (rcabort_no (rcat_of hh') (by rw [h.sim.opn, ho])).mono ?_
    rintro e w7 ⟨rfl, rfl⟩
    exact ⟨rfl, PEx.next (PIs.ex (Ext := []) ⟨h.sim, h.bd, h.ms, h.k0, h.k1, h.g0, h.g1, h.rl, h.rn, h.gr, hh'⟩)⟩
  | true =>
    rw [ho] at hh'
    refine (lift_rc hh' (rcabort_ok (rcat_of hh') (by rw [h.sim.opn, ho]))).mono ?_
    rintro e w7 ⟨rfl, G', h7⟩
    exact ⟨rfl, PEx.next (PIs.ex (Ext := []) ⟨h.sim.abort, h.bd.abort h.ok, h.ms, h.k0, h.k1, h.g0, h.g1, h.rl, h.rn, h.gr, h7⟩)⟩

/-! Commit. -/
theorem p_commit2a (h : PIs [] w cb d wb y r i n wr C F FD k f g G X) (hi : i < 250) {F' FD' : List Nat} {k' : Int} (ho : C.opn = true) (gok : GroupOk 0 40 100 (rawsOf (putsC C))) (hk1 : k < k') (hk2 : k' ≤ k + 3 * (putsC C).length + 10)
    (hh : Has w w6 (CRes cb d wb F' C.committed :: DRes d FD' (quiet 100 k' (putLog f 0 40 g (putsC C))) :: WRes wb d 0 40 (g + 1) :: RCRes y r G X :: [])) :
    Calls Try.prog 20 #[pp y] w6 fun e w7 => e = .returned (.int .i64 0) ∧ PEx [] w cb d wb y r (i + 1) n w7 := by
  have hh' : Has w w6 ((CRes cb d wb F' C.committed :: DRes d FD' (quiet 100 k' (putLog f 0 40 g (putsC C))) :: WRes wb d 0 40 (g + 1) :: []) ++ [RCRes y r G X]) := hh
  have hl37 : (putsC C).length ≤ 37 := by
    have := gok.1
    rw [room40] at this
    simp only [rawsOf, List.length_map] at this
    omega
  have hG := (h.sim.group h.ok h.bd.rng).1 gok
  have hll := h.llen
  have hrn := h.rn
  have hgr := h.gr
  have hrl := h.rl
  have hms := h.ms
  have hkk := h.k1
  have hk0 := h.k0
  have hg0 := h.g0
  have hg1 := h.g1
  refine (rccommit_any (rcat_of hh') (by rw [h.sim.opn, ho]) h.at0 h.sim.off h.sim.burns h.most (by omega) (by rw [hrl]; simp; omega) (by omega)).mono ?_
  rintro e w7 (⟨_, rfl, R', e1, e2, e3, e4, e5, e6, hp⟩ | ⟨hn, _, _⟩)
  · obtain ⟨G', h7⟩ := has_rc hh'.fst hp
    refine ⟨rfl, PIs.ex (Ext := []) ⟨h.sim.commit h.ok gok g (e1.trans h.sim.n) e2 e3 e4 (X.groups + 1), h.bd.committed h.ok, ?_, by omega, by omega, by omega, by omega, e5, ?_, ?_, h7.last⟩⟩
    · rw [commit_missed]; omega
    · simp only; omega
    · simp only; omega
  · exact absurd hG hn
theorem p_commit2b (h : PIs [] w cb d wb y r i n wr C F FD k f g G X) (hi : i < 250) {F' FD' : List Nat} (hno : ¬ (C.opn = true ∧ GroupOk 0 40 100 (rawsOf (putsC C))))
    (hh : Has w w6 (CRes cb d wb F' C :: DRes d FD' (quiet 100 k f) :: WRes wb d 0 40 g :: RCRes y r G X :: [])) :
    Calls Try.prog 20 #[pp y] w6 fun e w7 => e = .returned (.int .i64 (if C.opn then 20 else 30)) ∧ PEx [] w cb d wb y r (i + 1) n w7 := by
  have hh' : Has w w6 ((CRes cb d wb F' C :: DRes d FD' (quiet 100 k f) :: WRes wb d 0 40 g :: []) ++ [RCRes y r G X]) := hh
  have base : PEx [] w cb d wb y r (i + 1) n w6 := PEx.next (PIs.ex (Ext := []) ⟨h.sim, h.bd, h.ms, h.k0, h.k1, h.g0, h.g1, h.rl, h.rn, h.gr, hh⟩)
  cases ho : C.opn with
  | false =>
    refine (rccommit_closed (rcat_of hh') (by rw [h.sim.opn, ho])).mono ?_
    rintro e w7 ⟨rfl, rfl⟩
    exact ⟨rfl, base⟩
  | true =>
    have hll := h.llen
    have hrn := h.rn
    have hgr := h.gr
    have hrl := h.rl
    refine (rccommit_any (rcat_of hh') (by rw [h.sim.opn, ho]) h.at0 h.sim.off h.sim.burns h.most (by omega) (by rw [hrl]; simp; omega) (by omega)).mono ?_
    rintro e w7 (⟨hG, _⟩ | ⟨_, rfl, o⟩)
    · exact absurd ⟨ho, (h.sim.group h.ok h.bd.rng).2 hG⟩ hno
    · exact ⟨rfl, base.later o⟩

/-! Write. -/
theorem fullA_at {c : Int} {j : Nat} (h : j < 64) : (fullA c)[j]? = some (.int .u8 c) := by simp [fullA, h]
theorem p_write1 {gb : Nat} {c : Int} (h : PIs [BRes gb (.cells (fullA c) 5)] w cb d wb y r i n wr C F FD k f g G X) (a : Int) :
    Calls Try.prog 15 #[pp y, .int .i64 a, .slice (some ⟨gb, 0, none⟩) 64 64] wr fun e w7 => e = .returned (.int .i64 (wcode C 100 a)) ∧ (∃ G', Has w w7 ((BRes gb (.cells (fullA c) 5) :: CRes cb d wb F C :: DRes d FD (quiet 100 k f) :: WRes wb d 0 40 g :: []) ++ [RCRes y r G' (if wcode C 100 a = 0 then { X with L := useR X.L ⟨a, c, true⟩ } else X)])) ∧ Only [y, r] wr w7 := by
  have hh' : Has w wr ((BRes gb (.cells (fullA c) 5) :: CRes cb d wb F C :: DRes d FD (quiet 100 k f) :: WRes wb d 0 40 g :: []) ++ [RCRes y r G X]) := h.has
  have hb : wr.heap[gb]? = some (.cells (fullA c) 5 (0, 0)) := h.has.blk (by simp)
  have hlt := (Array.getElem?_eq_some_iff.1 hb).1
  by_cases ho : C.opn = false
  · have e1 : wcode C 100 a = 30 := if_pos ho
    refine (rcwrite_closed (rcat_of hh') (by rw [h.sim.opn, ho]) a _).mono ?_
    rintro e w7 ⟨rfl, rfl⟩
    exact ⟨by rw [e1], ⟨G, by rw [e1]; exact hh'⟩, Only.refl _ _⟩
  · have ho' : C.opn = true := by simpa using ho
    by_cases ha : a < 0 ∨ 100 ≤ a
    · have e1 : wcode C 100 a = 10 := by rw [wcode, if_neg ho, if_pos ha]
      refine (rcwrite_place (rcat_of hh') (by rw [h.sim.opn, ho']) (by rw [h.sim.n]; exact ha) _).mono ?_
      rintro e w7 ⟨rfl, rfl⟩
      exact ⟨by rw [e1], ⟨G, by rw [e1]; exact hh'⟩, Only.refl _ _⟩
    · have e1 : wcode C 100 a = 0 := by rw [wcode, if_neg ho, if_neg ha]
      rw [e1, if_pos rfl]
      refine (rcwrite_ok (rcat_of hh') (by rw [h.sim.opn, ho']) (by omega) (by rw [h.sim.n]; omega) hlt (fun j hj => by rw [cell_of_row _ _ _ _ _ _ hb]; exact fullA_at hj) (by have := h.llen; omega)).mono ?_
      rintro e w7 ⟨rfl, hp⟩
      obtain ⟨G', h7⟩ := has_rc hh'.fst hp
      obtain ⟨_, _, _, _, o⟩ := hp
      exact ⟨rfl, ⟨G', h7.last⟩, o⟩
theorem p_write2 {gb : Nat} {c : Int} (h : PIs [BRes gb (.cells (fullA c) 5)] w cb d wb y r i n wr C F FD k f g G X) (a : Int) {G' : List Nat}
    (hh : Has w w6 ((BRes gb (.cells (fullA c) 5) :: CRes cb d wb F C :: DRes d FD (quiet 100 k f) :: WRes wb d 0 40 g :: []) ++ [RCRes y r G' (if wcode C 100 a = 0 then { X with L := useR X.L ⟨a, c, true⟩ } else X)])) :
    Calls Try.prog 16 #[pp cb, .int .i64 a, .slice (some ⟨gb, 0, none⟩) 64 64] w6 fun e w7 => e = .returned (.int .i64 (wcode C 100 a)) ∧ PEx [BRes gb (.cells (fullA c) 5)] w cb d wb y r (i + 1) n w7 := by
  have hb : w6.heap[gb]? = some (.cells (fullA c) 5 (0, 0)) := hh.blk (by simp)
  have h2 : Has w w6 ((CRes cb d wb F C :: DRes d FD (quiet 100 k f) :: WRes wb d 0 40 g :: RCRes y r G' (if wcode C 100 a = 0 then { X with L := useR X.L ⟨a, c, true⟩ } else X) :: []) ++ [BRes gb (.cells (fullA c) 5)]) := Has.last hh
  refine (has_cwrite (Rs := WRes wb d 0 40 g :: RCRes y r G' (if wcode C 100 a = 0 then { X with L := useR X.L ⟨a, c, true⟩ } else X) :: BRes gb (.cells (fullA c) 5) :: []) h2 (by simp [quiet]) a (bytes64_row (t := 5) hb (by simp) (fullA_ok c))).mono ?_
  rintro e w7 ⟨F', rfl, h7⟩
  have h8 := Has.fst (L := CRes cb d wb F' (if wcode C (quiet 100 k f).n a = 0 then C.write a (fullA c) else C) :: DRes d FD (quiet 100 k f) :: WRes wb d 0 40 g :: RCRes y r G' (if wcode C 100 a = 0 then { X with L := useR X.L ⟨a, c, true⟩ } else X) :: []) h7
  refine ⟨rfl, PEx.next ?_⟩
  have e0 : (quiet 100 k f).n = 100 := rfl
  rw [e0] at h8
  by_cases hz : wcode C 100 a = 0
  · rw [if_pos hz, if_pos hz] at h8
    have ha : a < 100 := by
      unfold wcode at hz
      split at hz
      · cases hz
      · split at hz
        · cases hz
        · omega
    exact PIs.ex ⟨h.sim.write a c, h.bd.write h.ok ha, h.ms, h.k0, h.k1, h.g0, h.g1, h.rl, h.rn, h.gr, h8⟩
  · rw [if_neg hz, if_neg hz] at h8
    exact PIs.ex ⟨h.sim, h.bd, h.ms, h.k0, h.k1, h.g0, h.g1, h.rl, h.rn, h.gr, h8⟩
/-- A write of another number of bytes. -/
def bcode (C : CaS) (a : Int) : Int := if C.opn = false then 30 else if a < 0 ∨ 100 ≤ a then 10 else 11
theorem p_wrong1 {Ext : List Res} (h : PIs Ext w cb d wb y r i n wr C F FD k f g G X) (a : Int) (ad : Option Addr) {m cap : Nat} (hm : m ≠ 64) :
    Calls Try.prog 15 #[pp y, .int .i64 a, .slice ad m cap] wr fun e w7 => e = .returned (.int .i64 (bcode C a)) ∧ w7 = wr := by
  have hR : RCAt wr y r G X := (h.has.each (RCRes y r G X) (by simp)).1
  by_cases ho : C.opn = false
  · rw [bcode, if_pos ho]
    exact rcwrite_closed hR (by rw [h.sim.opn, ho]) a _
  · have ho' : C.opn = true := by simpa using ho
    by_cases ha : a < 0 ∨ 100 ≤ a
    · rw [bcode, if_neg ho, if_pos ha]
      exact rcwrite_place hR (by rw [h.sim.opn, ho']) (by rw [h.sim.n]; exact ha) _
    · rw [bcode, if_neg ho, if_neg ha]
      exact rcwrite_bytes hR (by rw [h.sim.opn, ho']) (by omega) (by rw [h.sim.n]; omega) ad m cap hm
theorem p_wrong2 {Ext : List Res} (h : PIs Ext w cb d wb y r i n wr C F FD k f g G X) (a : Int) (ad : Option Addr) {m cap : Nat} (hm : m ≠ 64) :
    Calls Try.prog 16 #[pp cb, .int .i64 a, .slice ad m cap] wr fun e w7 => e = .returned (.int .i64 (bcode C a)) ∧ w7 = wr := by
  have hC : CAt wr cb d wb F C := h.has.cat (by simp)
  have hD : DAt wr d FD (quiet 100 k f) := (h.has.each (DRes d FD (quiet 100 k f)) (by simp)).1
  by_cases ho : C.opn = false
  · rw [bcode, if_pos ho]
    exact cwrite_closed hC ho a _
  · have ho' : C.opn = true := by simpa using ho
    by_cases ha : a < 0 ∨ 100 ≤ a
    · rw [bcode, if_neg ho, if_pos ha]
      exact cwrite_place hC hD ho' (by simpa [quiet] using ha) _
    · rw [bcode, if_neg ho, if_neg ha]
      exact cwrite_bytes hC hD ho' (by omega) (by simp only [quiet]; omega) hm

/-! Read. -/
def RdOk (w : World) (cb d wb y r i : Nat) (n : Int) (rb : Nat) (c : Int) (e : Ending) (w7 : World) : Prop :=
  ∃ g7 cap7, e = .returned (.tuple #[.slice (some ⟨g7, 0, none⟩) 64 cap7, .int .i64 0]) ∧ (∀ j, j < 64 → w7.cell? ⟨g7, j, none⟩ = some (.int .u8 c)) ∧ PEx [BRes rb (.cells (fullA c) 69)] w cb d wb y r (i + 1) n w7
theorem p_read2a (h : PIs [] w cb d wb y r i n wr C F FD k f g G X) (hi : i < 250) {a : Int} (ha : ¬ (0 ≤ a ∧ a < 40)) (hin : (C.held a).isSome = true ∨ (quiet 100 k f).reach a = 0) {rb : Nat} {F' : List Nat}
    (hh : Has w w6 (BRes rb (.cells (C.got (quiet 100 k f) a) 69) :: CRes cb d wb F' (C.read (quiet 100 k f) a) :: DRes d FD (quiet 100 k f) :: WRes wb d 0 40 g :: RCRes y r G X :: [])) :
    Calls Try.prog 13 #[pp y, .int .i64 a] w6 fun e w7 => ∃ c, C.got (quiet 100 k f) a = fullA c ∧ RdOk w cb d wb y r i n rb c e w7 := by
  have hh' : Has w w6 ((BRes rb (.cells (C.got (quiet 100 k f) a) 69) :: CRes cb d wb F' (C.read (quiet 100 k f) a) :: DRes d FD (quiet 100 k f) :: WRes wb d 0 40 g :: []) ++ [RCRes y r G X]) := hh
  have hR := rcat_of hh'
  have ok := h.ok
  have hll := h.llen
  have hms := h.ms
  have hi0 := ok.i0
  by_cases hm : a ∈ C.ord
  · have hmem := hm
    rw [h.sim.ord] at hmem
    obtain ⟨p0, hp0, hpe0⟩ := List.mem_map.1 hmem
    obtain ⟨j, p, hf, hp, hpa⟩ := findL_pos (i := a) (L := X.L) (k := 0) ⟨p0, hp0, hpe0⟩
    rw [Nat.zero_add] at hf
    have hpm := List.mem_of_getElem? hp
    have hheld := h.sim.held p hpm
    rw [hpa] at hheld
    have hgot : C.got (quiet 100 k f) a = fullA p.c := by unfold CaS.got; rw [hheld]; rfl
    have hread : C.read (quiet 100 k f) a = (C.use a (fullA p.c)).evict := by unfold CaS.read; rw [hgot, hheld]; rfl
    have h0 := (ok.rg a hm).1
    have h1 := h.bd.rng a hm
    have hbd : Bd (C.read (quiet 100 k f) a) n := h.bd.read ok (by omega) h0 h1 (by rw [hgot]; exact fullA_ok _)
    have hsim : Sim (C.read (quiet 100 k f) a) f { X with L := trimR X.most (useR X.L p) } := by
      rw [hread]
      have s1 := h.sim.use (p := p) (h.sim.pin p hpm)
      rw [hpa] at s1
      exact s1.evict (ok.use h0 (by omega) (fullA_ok _))
    have hms2 : (C.read (quiet 100 k f) a).miss ≤ C.miss + 1 := read_missed C _ a
    refine (rcread_hit hR a hf hp h.most (by omega)).mono ?_
    rintro e w7 ⟨g7, cap7, rfl, hc7, hp7⟩
    obtain ⟨G', h7⟩ := has_rc hh'.fst hp7
    have h8 := h7.last
    rw [hgot] at h8
    exact ⟨p.c, hgot, g7, cap7, rfl, hc7, PIs.ex (Ext := [BRes rb (.cells (fullA p.c) 69)]) ⟨hsim, hbd, by omega, h.k0, by have := h.k1; omega, h.g0, by have := h.g1; omega, h.rl, by have := h.rn; simp only; omega, by have := h.gr; simp only; omega, h8⟩⟩
  · have hn : C.held a = none := by
      cases hh2 : C.held a with
      | none => rfl
      | some v => exact absurd ((ok.hd a).1 (by rw [hh2]; rfl)) hm
    have hre : (quiet 100 k f).reach a = 0 := by
      rcases hin with h1 | h1
      · rw [hn] at h1; cases h1
      · exact h1
    have hrg : 0 ≤ a ∧ a < 100 := by
      by_cases hx : a < 0 ∨ 100 ≤ a
      · simp [St.reach, quiet, hx] at hre
      · omega
    obtain ⟨m, rfl⟩ : ∃ m : Nat, a = (m : Int) := ⟨a.toNat, by omega⟩
    have hf : findL (m : Int) X.L 0 = -1 := findL_neg (fun p hp e => hm (by rw [h.sim.ord]; exact List.mem_map.2 ⟨p, hp, e⟩))
    have hdk := h.sim.disk m (by omega) hrg.2
    have hgot0 : C.got (quiet 100 k f) m = (replay X.R.B X.R.L m).getD Z := by unfold CaS.got; rw [hn]; exact hdk
    have hnp : (m : Int) ∉ C.pin := fun hp => hm (ok.ps _ hp)
    have hms2 : (C.read (quiet 100 k f) m).miss ≤ C.miss + 1 := read_missed C _ m
    have hxm : X.missed < 1000000000 := by rw [h.sim.miss]; omega
    refine (rcread_miss hR m hf h.sim.off (by rw [h.sim.n]; omega) (by rw [h.rl]; simp) h.most (by omega) hxm).mono ?_
    rintro e w7 ⟨c, hc, g7, cap7, rfl, hc7, hp7⟩
    have hgot : C.got (quiet 100 k f) m = fullA c := hgot0.trans hc
    have hread : C.read (quiet 100 k f) m = (({ C with miss := C.miss + 1 } : CaS).use m (fullA c)).evict := by unfold CaS.read; rw [hgot, hn]; rfl
    have hbd : Bd (C.read (quiet 100 k f) m) n := h.bd.read ok (by omega) hrg.1 hrg.2 (by rw [hgot]; exact fullA_ok _)
    have hsim : Sim (C.read (quiet 100 k f) m) f { X with L := trimR X.most (useR X.L ⟨m, c, false⟩), missed := X.missed + 1 } := by
      rw [hread]
      have s1 := h.sim.missed.use (p := ⟨m, c, false⟩) (by simp [hnp])
      exact s1.evict ((ok.missed (by omega)).use hrg.1 (by omega) (fullA_ok _))
    obtain ⟨G', h7⟩ := has_rc hh'.fst hp7
    have h8 := h7.last
    rw [hgot] at h8
    exact ⟨c, hgot, g7, cap7, rfl, hc7, PIs.ex (Ext := [BRes rb (.cells (fullA c) 69)]) ⟨hsim, hbd, by omega, h.k0, by have := h.k1; omega, h.g0, by have := h.g1; omega, h.rl, by have := h.rn; simp only; omega, by have := h.gr; simp only; omega, h8⟩⟩
theorem p_read2b (h : PIs [] w cb d wb y r i n wr C F FD k f g G X) {a : Int} (hn : C.held a = none) (hre : (quiet 100 k f).reach a ≠ 0) {F' : List Nat}
    (hh : Has w w6 (CRes cb d wb F' C :: DRes d FD (quiet 100 k f) :: WRes wb d 0 40 g :: RCRes y r G X :: [])) :
    Calls Try.prog 13 #[pp y, .int .i64 a] w6 fun e w7 => e = .returned (.tuple #[.slice none 0 0, .int .i64 ((quiet 100 k f).reach a)]) ∧ PEx [] w cb d wb y r (i + 1) n w7 := by
  have hh' : Has w w6 ((CRes cb d wb F' C :: DRes d FD (quiet 100 k f) :: WRes wb d 0 40 g :: []) ++ [RCRes y r G X]) := hh
  have base : PEx [] w cb d wb y r (i + 1) n w6 := PEx.next (PIs.ex (Ext := []) ⟨h.sim, h.bd, h.ms, h.k0, h.k1, h.g0, h.g1, h.rl, h.rn, h.gr, hh⟩)
  have er : X.R.reach a = (quiet 100 k f).reach a := by
    simp only [RS.reach, St.reach, h.sim.off, h.sim.n, quiet]
    rfl
  have hf : findL a X.L 0 = -1 := findL_neg (fun p hp e => by
    have := h.sim.held p hp
    rw [e, hn] at this
    cases this)
  refine (rcread_no (rcat_of hh') a hf (by rw [er]; exact hre)).mono ?_
  rintro e w7 ⟨rfl, o⟩
  exact ⟨by rw [er], base.later o⟩
end
end Go.Proofs.Ytoccnaebckcfmaa.Ref
end

section
set_option linter.unusedSimpArgs false
set_option linter.unusedVariables false
set_option maxRecDepth 8000
namespace Go.Proofs.Ytoccnaebckcfmaa.Ref
open Go.RowKit Go.Proofs.Ytoccnaebckcfmaa
open Go.ChangeMaps (setBlock)

theorem info3r : (Try.prog.info? 3).map (fun i => (i.zero, i.size, i.bytes)) = some (some (.int .i64 0), 1, 8) := by kernel_rfl
theorem build40 (x : Int) (w : World) : (Instr.buildSlice 40 1 #[(0, .int .i64 x)]).run Try.prog w = .ok (.slice (some ⟨w.heap.size, 0, none⟩) 1 1) (w.alloc (.cells #[.int .i64 x] 3)) := by kernel_rfl
theorem build400 (w : World) : (Instr.buildSlice 40 0 #[]).run Try.prog w = .ok (.slice (some ⟨w.heap.size, 0, none⟩) 0 0) (w.alloc (.cells #[] 3)) := by kernel_rfl
theorem append40 {w : World} {base : Nat} {lv : Value} {n : Nat} {xs : List Value} (hown : w.ownsRow base 3 1 lv n xs) (hb : base ≤ w.heap.size) (hn : n < 1000000) (x : Int) (t : TypeId) :
    ∃ v' w', (Builtin.append_ #[40, 40] t #[lv, .slice (some ⟨w.heap.size, 0, none⟩) 1 1]).run Try.prog (w.alloc (.cells #[.int .i64 x] 3)) = .ok v' w' ∧ w'.ownsRow base 3 1 v' (n + 1) (xs ++ [.int .i64 x]) ∧ Only lv.ownBlock.toList w w' := by
  obtain ⟨i0, hi, hz0, hz1, hz2⟩ := info_parts info3r
  obtain ⟨v', w', hrun, hown', hgrow, hnil, hloc⟩ := run_append_own_at (P := Try.prog) (w.alloc (.cells #[.int .i64 x] 3)) base 40 t 3 i0 _ 1 8 Try.underlying40 hi hz0 hz1 hz2 (by simp [Value.cells]) (by omega)
    lv n xs (hown.alloc _) ⟨w.heap.size, 0, none⟩ 1 1 [.int .i64 x] (by simp) (fun j u hu => by
      rw [Addr.add_mid, Nat.zero_add, cell_of_row _ _ _ _ _ _ (heap_alloc_last w _)]
      simpa using hu) (fun u hu => by simp at hu; rw [hu]; rfl) (by unfold maxLen; omega) (by omega) (by simp; omega)
  exact ⟨v', w', hrun, hown', ((Only.refl _ w).alloc _).trans ((Only.refl _ _).grown hgrow (fun k hk => .inl (by simp [hk]))) (fun x hx => .inl hx)⟩
section
variable {o : Oper} {a : Act} {w : World}
theorem run_buildSlice40 {x : Operand} {i : Int} (ho : o.op = .buildSlice 40 1 #[(0, x)]) (hx : a.eval x = .int .i64 i) :
    (execOp a.eval o).run Try.prog w = .ok (.value (.slice (some ⟨w.heap.size, 0, none⟩) 1 1)) (w.alloc (.cells #[.int .i64 i] 3)) := by
  unfold execOp
  simp only [ho, List.map_toArray, List.map_cons, List.map_nil, hx, Sem.run_bind, build40, Result.andThen_ok, Sem.run_pure]
theorem run_buildSlice400 (ho : o.op = .buildSlice 40 0 #[]) :
    (execOp a.eval o).run Try.prog w = .ok (.value (.slice (some ⟨w.heap.size, 0, none⟩) 0 0)) (w.alloc (.cells #[] 3)) := by
  unfold execOp
  simp only [ho, List.map_toArray, List.map_cons, List.map_nil, Sem.run_bind, build400, Result.andThen_ok, Sem.run_pure]
theorem run_strc {x : Operand} {g cap : Nat} {c : Int} (ho : o.op = .convert 34 9 x) (hx : a.eval x = .slice (some ⟨g, 0, none⟩) 64 cap) (hb : ∀ j, j < 64 → w.cell? ⟨g, j, none⟩ = some (.int .u8 c)) :
    (execOp a.eval o).run Try.prog w = .ok (.value (.string (strOf (List.replicate 64 c)))) w := by
  have hld : (loadCells ⟨g, 0, none⟩ 64).run Try.prog w = .ok ((List.replicate 64 c).map (Value.int .u8)).toArray w := by
    have := run_loadCells_list (P := Try.prog) w ⟨g, 0, none⟩ ((List.replicate 64 c).map (Value.int .u8)) (fun j v hv => by
      rw [Addr.add_mid, Nat.zero_add]
      have hj : j < 64 := by
        have := (List.getElem?_eq_some_iff.1 hv).1
        simpa using this
      rw [hb j hj]
      simp only [List.getElem?_map, List.getElem?_replicate, if_pos hj, Option.map_some] at hv
      exact hv)
    rw [List.length_map, List.length_replicate] at this
    exact this
  unfold execOp
  simp only [ho, hx, Sem.run_bind, run_convert_bytes_string (P := Try.prog) w 34 9 5 _ 64 cap Try.underlying34 Try.underlying5 Try.underlying9, run_bytesToString (P := Try.prog) w ⟨g, 0, none⟩ 64 cap (List.replicate 64 c) hld, Result.andThen_ok, Sem.run_pure]
  rfl
theorem run_str0 {x : Operand} (ho : o.op = .convert 34 9 x) (hx : a.eval x = .slice none 0 0) :
    (execOp a.eval o).run Try.prog w = .ok (.value (.string (strOf []))) w := by
  unfold execOp
  simp only [ho, hx, Sem.run_bind, run_convert_bytes_string (P := Try.prog) w 34 9 5 _ 0 0 Try.underlying34 Try.underlying5 Try.underlying9]
  rfl
end

/-- The numbers of the lines, as far as they are read. -/
structure HldI (w : World) (X : RCS) (k : Nat) (v : Value) (wr : World) : Prop where
  only : Only [] w wr
  own : wr.ownsRow w.heap.size 3 1 v k ((X.L.take k).map (fun q => Value.int .i64 q.at'))
  size : w.heap.size ≤ wr.heap.size
theorem HldI.start (w : World) (X : RCS) : HldI w X 0 (.slice (some ⟨w.heap.size, 0, none⟩) 0 0) (w.alloc (.cells #[] 3)) :=
  ⟨(Only.refl _ w).alloc _, World.ownsRow_made w #[] 0 (Nat.le_refl _) (by unfold maxLen; omega) (by simp), by simp⟩
theorem HldI.grow {w : World} {X : RCS} {q : Ln} {k : Nat} {v : Value} {wr : World} (h : HldI w X k v wr) (hq : X.L[k]? = some q) (hk : k < 1000000) (t : TypeId) :
    ∃ v' w', (Builtin.append_ #[40, 40] t #[v, .slice (some ⟨wr.heap.size, 0, none⟩) 1 1]).run Try.prog (wr.alloc (.cells #[.int .i64 q.at'] 3)) = .ok v' w' ∧ HldI w X (k + 1) v' w' := by
  obtain ⟨v', w', h1, h2, h3⟩ := append40 h.own h.size hk q.at' t
  have own : ∀ x ∈ v.ownBlock.toList, w.heap.size ≤ x := fun x hx => (h.own.lt x (by simpa using hx)).1
  refine ⟨v', w', h1, ⟨h.only.trans h3 (fun x hx => .inr (own x hx)), ?_, by have := h3.size; have := h.size; omega⟩⟩
  rw [List.take_add_one, hq, List.map_append]
  exact h2
theorem HldI.ints {w : World} {X : RCS} {k : Nat} {v : Value} {wr : World} (h : HldI w X k v wr) (hk : k = X.L.length) (hl : X.L.length ≤ 1000000) : IntsAt wr v (X.L.map (fun q => q.at')) := by
  have := h.own
  subst hk
  rw [List.take_length] at this
  refine IntsAt.of (base := w.heap.size) ?_ (by simpa using hl)
  rw [List.length_map, List.map_map]
  exact this

/-- A row of m bytes that is written over. -/
theorem info5r : (Try.prog.info? 5).map (fun i => (i.zero, i.size, i.bytes)) = some (some (.int .u8 0), 1, 1) := by kernel_rfl
def zerosA (m : Nat) : Array Value := madeCells #[.int .u8 0] m
theorem make34 (n : Nat) (h2 : n ≤ 8192) (w : World) : (Instr.makeSlice 34 (.int .i64 n) (.int .i64 n)).run Try.prog w = .ok (.slice (some ⟨w.heap.size, 0, none⟩) n n) (w.alloc (.cells (zerosA n) 5)) := by
  obtain ⟨i0, hi, hz0, hz1, hz2⟩ := info_parts info5r
  have := run_makeSlice (P := Try.prog) w 34 5 i0 _ Try.underlying34 hi hz0 .i64 .i64 n n (by omega) (Int.le_refl _) (by rw [hz1, Int.toNat_natCast]; omega) (by rw [hz2]; omega) (by omega)
  rw [hz1, Int.toNat_natCast, Nat.mul_one] at this
  exact this
theorem zerosA_size (m : Nat) : (zerosA m).size = m := by simp [zerosA, madeCells]
theorem zerosA_64 : zerosA 64 = fullA 0 := by kernel_rfl
theorem zerosA_at {m j : Nat} (h : j < m) : (zerosA m)[j]? = some (.int .u8 0) := by simp [zerosA, madeCells, h, Nat.mod_one]

section
variable {Ext : List Res} {w wr w6 : World} {cb d wb y r i : Nat} {n : Int} {C : CaS} {F FD : List Nat} {k : Int} {f : Int → Option (Array Value)} {g : Int} {G : List Nat} {X : RCS}
theorem PIs.alloc (h : PIs [] w cb d wb y r i n wr C F FD k f g G X) (o : Obj) : PIs [BRes wr.heap.size o] w cb d wb y r i n (wr.alloc o) C F FD k f g G X :=
  ⟨h.sim, h.bd, h.ms, h.k0, h.k1, h.g0, h.g1, h.rl, h.rn, h.gr, h.has.alloc o⟩
theorem PIs.drop {b : Res} (h : PIs [b] w cb d wb y r i n wr C F FD k f g G X) : PIs [] w cb d wb y r i n wr C F FD k f g G X :=
  ⟨h.sim, h.bd, h.ms, h.k0, h.k1, h.g0, h.g1, h.rl, h.rn, h.gr, h.has.drop⟩
theorem PIs.ne {gb : Nat} {o : Obj} (h : PIs [BRes gb o] w cb d wb y r i n wr C F FD k f g G X) : gb ≠ y ∧ gb ≠ r := by
  have h1 := (List.pairwise_cons.1 h.has.apart).1 (RCRes y r G X) (by simp) gb (by simp [BRes])
  simp only [RCRes, List.mem_cons, not_or] at h1
  exact ⟨h1.1, h1.2.1⟩
theorem Has.dropLast {w0 : World} {L : List Res} {x : Res} (h : Has w0 w (L ++ [x])) : Has w0 w L := h.fst.drop

theorem PIs.start {w2 w3 : World} {F0 G0 : List Nat} {m : Int} (h : Has w w2 (CRes cb d wb F0 (CaS.new m) :: DRes d FD (quiet 100 2 f00) :: WRes wb d 0 40 0 :: [])) (hm1 : 1 ≤ m) (hm2 : m ≤ 1000) (hR : RCAt w3 y r G0 (RCS.new m)) (hfr : ∀ x ∈ y :: r :: G0, w2.heap.size ≤ x) (o : Only [] w2 w3) : PEx [] w cb d wb y r 0 m w3 := by
  have h3 := h.more o (RCRes y r G0 (RCS.new m)) hR (fun x hx => ⟨hfr x hx, hR.lt x hx⟩)
  refine PIs.ex (Ext := []) (C := CaS.new m) (F := F0) (FD := FD) (k := 2) (f := f00) (g := 0) (G := G0) (X := RCS.new m) ⟨⟨rfl, rfl, rfl, rfl, by simp [RCS.new], by simp [RCS.new], rfl, rfl, rfl, fun j h0 h1 => ?_⟩, Bd.new (by omega), by simp [CaS.new], by omega, by omega, by omega, by omega, rfl, by simp [RCS.new, RS.new], by simp [RCS.new], h3.last⟩
  have e : f00 j = none := by unfold f00 updF; rw [if_neg (by omega)]
  rw [e]
  simp [RCS.new, RS.new, replay]

theorem PEx.drew (h : PEx Ext w cb d wb y r i n wr) : PEx Ext w cb d wb y r i n wr.drew := h.later (Only.refl [] wr).drew

/-- A row that is written over, whatever is in it. -/
def GL (t : TypeId) (gb m : Nat) (w : World) (cb d wb y r i : Nat) (n : Int) (wr : World) : Prop :=
  ∃ A : Array Value, A.size = m ∧ (∀ j, j < m → ∃ c, A[j]? = some (.int .u8 c)) ∧ PEx [BRes gb (.cells A t)] w cb d wb y r i n wr
theorem GL.cell {t : TypeId} {gb m j : Nat} (h : GL t gb m w cb d wb y r i n wr) (hj : j < m) : (∃ c, wr.cell? ⟨gb, j, none⟩ = some (.int .u8 c)) ∧ wr.frozen? ⟨gb, j, none⟩ = false := by
  obtain ⟨A, _, hA, hP⟩ := h
  have hb : wr.heap[gb]? = some (.cells A t (0, 0)) := hP.blk
  obtain ⟨c, hc⟩ := hA j hj
  exact ⟨⟨c, by rw [cell_of_row _ _ _ _ _ _ hb]; exact hc⟩, by simp [World.frozen?, hb]⟩
theorem GL.set {t : TypeId} {gb m j : Nat} (h : GL t gb m w cb d wb y r i n wr) (hj : j < m) (v : Int) : GL t gb m w cb d wb y r i n (wr.setCell ⟨gb, j, none⟩ (.int .u8 v)) := by
  obtain ⟨A, hs, hA, hP⟩ := h
  refine ⟨A.setIfInBounds j (.int .u8 v), by simpa using hs, fun k hk => ?_, hP.setb j _⟩
  rw [Array.getElem?_setIfInBounds]
  split
  · rename_i e
    subst e
    rw [if_pos (by omega)]
    exact ⟨v, rfl⟩
  · exact hA k hk
theorem GL.ex {t : TypeId} {gb m : Nat} (h : GL t gb m w cb d wb y r i n wr) : PEx [] w cb d wb y r i n wr := by
  obtain ⟨A, _, _, hP⟩ := h
  exact hP.drop
theorem GL.full {t : TypeId} {gb : Nat} {c : Int} (h : PEx [BRes gb (.cells (fullA c) t)] w cb d wb y r i n wr) : GL t gb 64 w cb d wb y r i n wr :=
  ⟨fullA c, by simp [fullA], fun j hj => ⟨c, fullA_at hj⟩, h⟩
theorem GL.zeros {gb m : Nat} (h : PEx [BRes gb (.cells (zerosA m) 5)] w cb d wb y r i n wr) : GL 5 gb m w cb d wb y r i n wr :=
  ⟨zerosA m, zerosA_size m, fun j hj => ⟨0, zerosA_at hj⟩, h⟩
end
end Go.Proofs.Ytoccnaebckcfmaa.Ref
end

section
set_option linter.unusedSimpArgs false
set_option linter.unusedVariables false
set_option maxRecDepth 8000
namespace Go.Proofs.Ytoccnaebckcfmaa.Ref
open Go.RowKit Go.Proofs.Ytoccnaebckcfmaa
open Go.ChangeMaps (setBlock)
section
variable {o : Oper} {a : Act}
theorem run_neq33 {x y : Operand} {i j : Int} (ho : o.op = .binOp .neq 33 x y 33) (hx : a.eval x = .int .i64 i) (hy : a.eval y = .int .i64 j) : ∀ w, (execOp a.eval o).run Try.prog w = .ok (.value (.bool (i != j))) w := by
  intro w
  unfold execOp
  simp only [ho, hx, hy]
  rfl
end

theorem _root_.Go.Proofs.Ytoccnaebckcfmaa.Has.catL {w0 w x : World} {Rs : List Res} {cb d wb : Nat} {F : List Nat} {C : CaS} (h : Has w0 w Rs) (hm : CRes cb d wb F C ∈ Rs) (hx : Lat w x) : CAt x cb d wb F C := by
  obtain ⟨h1, h2⟩ := h.each _ hm
  exact (CRes cb d wb F C).stable w x (fun b hb => hx.2 b (h2 b hb).2) h1

set_option maxHeartbeats 16000000 in
theorem plays_any (w : World) (most : Int) (hp0 : -9223372036854775808 ≤ most) (hp1 : most ≤ 9223372036854775807) (ad : Option Addr) (len cap : Nat) (K A M B : Nat → Int) (hin : Ops3 w ad len K A M B) :
    Calls Try.prog 3 #[.int .i64 most, .slice ad len cap] w fun e w' => e = .returned (.bool true) ∧ Only [] w w' := by
  have SH := Lib.hid (shown3_any w)
  have hsm := hin.small
  have HIN := Lib.hid hin
  clear hin
  have AM := fun w1 => kind_any most 60 w1 hp0 hp1 (by omega) (by omega)
  obtain ⟨hn0, hn1⟩ := amongF_bd most 60 (by omega)
  generalize amongF most 60 = nn at *
  have AMH := Lib.hid AM
  clear AM
  go_enter Try.func3, Try.ntmps3
  go_wp2_with fail
  refine SH.out.mono ?_
  rintro e w1 ⟨rfl, o1⟩
  have G := Lib.hid (ground3_any ((Has.start w).later o1) (most := 1 + nn) (by omega) (by omega))
  clear SH o1
  go_wp2_with (go_at_call 9; refine (AMH.out _).mono ?_; rintro e w' ⟨rfl, rfl⟩)
  refine G.out.mono ?_
  rintro e w2 ⟨d, FD, wb, cb, F0, rfl, h0⟩
  have H0 := Lib.hid h0
  clear G h0 AMH
  unfold pp
  go_wp2_with fail
  refine (rcplain_any w2 (1 + nn)).mono ?_
  rintro e w3 ⟨y, r, G0, rfl, hR, hfr, oR⟩
  have c0 : PEx [] w cb d wb y r 0 (1 + nn) w3 := PIs.start H0.out (by omega) (by omega) hR hfr oR
  have C0 := Lib.hid c0
  clear H0 c0 hR hfr oR
  unfold pp
  go_wp2
  go_loopw [10] (fun x wr => ∃ i : Nat, i ≤ min len 250 ∧ x = .int .i64 i ∧ PEx [] w cb d wb y r i (1 + nn) wr) (fun x _ => min len 250 - (RowKit.intOf x).toNat)
  case atStart => exact ⟨0, by omega, rfl, C0.out⟩
  case round =>
    clear C0
    rename World => wA
    obtain ⟨i, hi, rfl, C, F, FD, k, f, g', G, X, hC⟩ := hrel
    by_cases hlt : i < min len 250
    · have hil : i < len := by omega
      have hi60 : i < 250 := by omega
      obtain ⟨g, o, rfl, hg, q0, q1, q2, q3⟩ := HIN.out.each i hil
      obtain ⟨kb0, kb1⟩ := HIN.out.kb i hil
      obtain ⟨bb0, bb1⟩ := HIN.out.bb i hil
      obtain ⟨mb0, mb1⟩ := HIN.out.mb i hil
      have bl := hC.has.only.block g hg (by simp)
      have p0 := (World.cell?_of_block (w := w) (a := ⟨g, o + i * 4, none⟩) bl).trans q0
      have p1 := (World.cell?_of_block (w := w) (a := ⟨g, o + i * 4 + 1, none⟩) bl).trans q1
      have p2 := (World.cell?_of_block (w := w) (a := ⟨g, o + i * 4 + 2, none⟩) bl).trans q2
      have p3 := (World.cell?_of_block (w := w) (a := ⟨g, o + i * 4 + 3, none⟩) bl).trans q3
      have h6 := hC.alloc (.cells #[.int .i64 (K i), .int .i64 (A i), .int .i64 (M i), .int .u8 (B i)] 32)
      have KH := Lib.hid (fun x => kind_any (K i) 9 x kb0 kb1 (by omega) (by omega))
      have kb := amongF_bd (K i) 9 (by omega)
      have H6 := Lib.hid h6
      clear hC bl h6 q0 q1 q2 q3
      go_wp2_with fail
      generalize wA.heap.size = go at *
      generalize wA.alloc (.cells #[.int .i64 (K i), .int .i64 (A i), .int .i64 (M i), .int .u8 (B i)] 32) = w4 at *
      clear p0 p1 p2 p3
      refine (KH.out _).mono ?_
      rintro e w' ⟨rfl, rfl⟩
      generalize amongF (K i) 9 = κ at *
      have hb6 : w4.heap[go]? = some (.cells #[.int .i64 (K i), .int .i64 (A i), .int .i64 (M i), .int .u8 (B i)] 32 (0, 0)) := H6.out.has.blk (by simp)
      have c1 : w4.cell? ⟨go, 1, none⟩ = some (.int .i64 (A i)) := by rw [cell_of_row _ _ _ _ _ _ hb6]; rfl
      have c3 : w4.cell? ⟨go, 3, none⟩ = some (.int .u8 (B i)) := by rw [cell_of_row _ _ _ _ _ _ hb6]; rfl
      have HB := Lib.hid hb6
      clear hb6
      go_upto_block 2 with fail
      go_cut [10, 12, 13] (fun v10 v12 v13 wx => v10 = .int .i64 i ∧ ∃ z : Int, v12 = .int .i64 z ∧ v13 = .int .i64 z ∧ PEx [] w cb d wb y r (i + 1) (1 + nn) wx)
      case first =>
        obtain rfl | rfl | rfl | rfl | rfl | rfl | rfl | rfl | rfl : κ = 0 ∨ κ = 1 ∨ κ = 2 ∨ κ = 3 ∨ κ = 4 ∨ κ = 5 ∨ κ = 6 ∨ κ = 7 ∨ κ = 8 := by omega
        · as_aux_lemma =>
          by_cases hA : 0 ≤ A i ∧ A i < 40
          · have FIN := Lib.hid (PEx.next (PIs.ex H6.out.drop))
            obtain ⟨hA0, hA1⟩ := hA
            clear H6 HB KH c3
            go_wp2
            go_roundw
            case rel => exact ⟨i + 1, by omega, by go_num, FIN.out⟩
            case measure => simp [RowKit.intOf]; omega
          · have RD := Lib.hid (has_cread (Has.last H6.out.has) (A i) (by have := H6.out.ms; omega) (by simp [quiet]))
            have P4 := Lib.hid H6.out.drop
            have HA := Lib.hid hA
            have hA' : ¬ (0 ≤ A i) ∨ (0 ≤ A i ∧ ¬ A i < 40) := by omega
            clear H6 KH c3 hA
            rcases hA' with hA1 | ⟨hA0, hA1⟩
            · as_aux_lemma =>
              go_wp2_with fail
              refine RD.out.mono ?_
              intro e w6 hpost
              clear RD c1
              rcases hpost with ⟨hin, rb, F6, rfl, h6⟩ | ⟨hn, hre, F6, rfl, h6⟩
              · as_aux_lemma =>
                have hb6 : w6.heap[go]? = some (.cells #[.int .i64 (K i), .int .i64 (A i), .int .i64 (M i), .int .u8 (B i)] 32 (0, 0)) := h6.blk (by simp)
                have c1 : w6.cell? ⟨go, 1, none⟩ = some (.int .i64 (A i)) := by rw [cell_of_row _ _ _ _ _ _ hb6]; rfl
                have RD2 := Lib.hid (p_read2a P4.out hi60 HA.out hin (Has.dropLast (L := _ :: _ :: _ :: _ :: _ :: []) h6))
                clear h6 hb6 P4 HA hin
                go_wp2_with fail
                refine RD2.out.mono ?_
                rintro e w7 ⟨c, _, g7, cap7, rfl, hc7, P7⟩
                clear RD2 c1
                have hb7 : w7.heap[rb]? = some (.cells (fullA c) 69 (0, 0)) := P7.blk
                have hcc : ∀ j, j < 64 → w7.cell? ⟨rb, j, none⟩ = some (.int .u8 c) := fun j hj => by rw [cell_of_row _ _ _ _ _ _ hb7]; exact fullA_at hj
                have HCC := Lib.hid hcc
                have HC7 := Lib.hid hc7
                have GLS := Lib.hid (GL.full P7)
                clear hb7 hcc hc7 P7
                go_wp2_with (first | (refine wpL_value rfl (run_strc rfl rfl HCC.out) ?_) | (refine wpL_value rfl (run_strc rfl rfl HC7.out) ?_))
                clear HCC HC7
                go_loopw [16] (fun x wr => ∃ j : Nat, j ≤ 64 ∧ x = .int .i64 j ∧ GL 69 rb 64 w cb d wb y r (i + 1) (1 + nn) wr) (fun x _ => 64 - (RowKit.intOf x).toNat)
                case atStart => exact ⟨0, by omega, rfl, GLS.out⟩
                case round =>
                  clear GLS
                  obtain ⟨j, hj, rfl, hG⟩ := hrel
                  by_cases hjl : j < 64
                  · as_aux_lemma =>
                    obtain ⟨⟨cj, tc⟩, tf⟩ := hG.cell hjl
                    have GS := Lib.hid (hG.set hjl 98)
                    clear hG
                    go_wp2
                    go_roundw
                    case rel => exact ⟨j + 1, by omega, by go_num, GS.out⟩
                    case measure => simp [RowKit.intOf]; omega
                  · have hjj : j = 64 := by omega
                    have FIN := Lib.hid hG.ex
                    clear hG hjl hj
                    subst hjj
                    go_wp2
                    first
                    | (go_meet; exact ⟨rfl, _, rfl, rfl, FIN.out⟩)
                    | ((repeat apply Exists.intro); exact ⟨⟨rfl, _, rfl, rfl, FIN.out⟩, rfl⟩)
              · as_aux_lemma =>
                have hb6 : w6.heap[go]? = some (.cells #[.int .i64 (K i), .int .i64 (A i), .int .i64 (M i), .int .u8 (B i)] 32 (0, 0)) := h6.blk (by simp)
                have c1 : w6.cell? ⟨go, 1, none⟩ = some (.int .i64 (A i)) := by rw [cell_of_row _ _ _ _ _ _ hb6]; rfl
                have RD2 := Lib.hid (p_read2b P4.out hn hre (Has.dropLast (L := _ :: _ :: _ :: _ :: []) h6))
                generalize (quiet 100 k f).reach (A i) = z6 at *
                clear h6 hb6 P4 HA hn hre
                go_wp2_with fail
                refine RD2.out.mono ?_
                rintro e w7 ⟨rfl, P7⟩
                clear RD2 c1
                have FIN := Lib.hid P7
                clear P7
                go_wp2_with (first | (refine wpL_value rfl (run_str0 rfl rfl) ?_) | (refine wpL_value rfl (run_str0 rfl rfl) ?_))
                go_loopw [16] (fun x wr => x = .int .i64 0 ∧ PEx [] w cb d wb y r (i + 1) (1 + nn) wr) (fun _ _ => 0)
                case atStart => exact ⟨rfl, FIN.out⟩
                case round =>
                  clear FIN
                  obtain ⟨rfl, hG⟩ := hrel
                  have FIN := Lib.hid hG
                  clear hG
                  go_wp2
                  first
                  | (go_meet; exact ⟨rfl, _, rfl, rfl, FIN.out⟩)
                  | ((repeat apply Exists.intro); exact ⟨⟨rfl, _, rfl, rfl, FIN.out⟩, rfl⟩)
            · as_aux_lemma =>
              go_wp2_with fail
              refine RD.out.mono ?_
              intro e w6 hpost
              clear RD c1
              rcases hpost with ⟨hin, rb, F6, rfl, h6⟩ | ⟨hn, hre, F6, rfl, h6⟩
              · as_aux_lemma =>
                have hb6 : w6.heap[go]? = some (.cells #[.int .i64 (K i), .int .i64 (A i), .int .i64 (M i), .int .u8 (B i)] 32 (0, 0)) := h6.blk (by simp)
                have c1 : w6.cell? ⟨go, 1, none⟩ = some (.int .i64 (A i)) := by rw [cell_of_row _ _ _ _ _ _ hb6]; rfl
                have RD2 := Lib.hid (p_read2a P4.out hi60 HA.out hin (Has.dropLast (L := _ :: _ :: _ :: _ :: _ :: []) h6))
                clear h6 hb6 P4 HA hin
                go_wp2_with fail
                refine RD2.out.mono ?_
                rintro e w7 ⟨c, _, g7, cap7, rfl, hc7, P7⟩
                clear RD2 c1
                have hb7 : w7.heap[rb]? = some (.cells (fullA c) 69 (0, 0)) := P7.blk
                have hcc : ∀ j, j < 64 → w7.cell? ⟨rb, j, none⟩ = some (.int .u8 c) := fun j hj => by rw [cell_of_row _ _ _ _ _ _ hb7]; exact fullA_at hj
                have HCC := Lib.hid hcc
                have HC7 := Lib.hid hc7
                have GLS := Lib.hid (GL.full P7)
                clear hb7 hcc hc7 P7
                go_wp2_with (first | (refine wpL_value rfl (run_strc rfl rfl HCC.out) ?_) | (refine wpL_value rfl (run_strc rfl rfl HC7.out) ?_))
                clear HCC HC7
                go_loopw [16] (fun x wr => ∃ j : Nat, j ≤ 64 ∧ x = .int .i64 j ∧ GL 69 rb 64 w cb d wb y r (i + 1) (1 + nn) wr) (fun x _ => 64 - (RowKit.intOf x).toNat)
                case atStart => exact ⟨0, by omega, rfl, GLS.out⟩
                case round =>
                  clear GLS
                  obtain ⟨j, hj, rfl, hG⟩ := hrel
                  by_cases hjl : j < 64
                  · as_aux_lemma =>
                    obtain ⟨⟨cj, tc⟩, tf⟩ := hG.cell hjl
                    have GS := Lib.hid (hG.set hjl 98)
                    clear hG
                    go_wp2
                    go_roundw
                    case rel => exact ⟨j + 1, by omega, by go_num, GS.out⟩
                    case measure => simp [RowKit.intOf]; omega
                  · have hjj : j = 64 := by omega
                    have FIN := Lib.hid hG.ex
                    clear hG hjl hj
                    subst hjj
                    go_wp2
                    first
                    | (go_meet; exact ⟨rfl, _, rfl, rfl, FIN.out⟩)
                    | ((repeat apply Exists.intro); exact ⟨⟨rfl, _, rfl, rfl, FIN.out⟩, rfl⟩)
              · as_aux_lemma =>
                have hb6 : w6.heap[go]? = some (.cells #[.int .i64 (K i), .int .i64 (A i), .int .i64 (M i), .int .u8 (B i)] 32 (0, 0)) := h6.blk (by simp)
                have c1 : w6.cell? ⟨go, 1, none⟩ = some (.int .i64 (A i)) := by rw [cell_of_row _ _ _ _ _ _ hb6]; rfl
                have RD2 := Lib.hid (p_read2b P4.out hn hre (Has.dropLast (L := _ :: _ :: _ :: _ :: []) h6))
                generalize (quiet 100 k f).reach (A i) = z6 at *
                clear h6 hb6 P4 HA hn hre
                go_wp2_with fail
                refine RD2.out.mono ?_
                rintro e w7 ⟨rfl, P7⟩
                clear RD2 c1
                have FIN := Lib.hid P7
                clear P7
                go_wp2_with (first | (refine wpL_value rfl (run_str0 rfl rfl) ?_) | (refine wpL_value rfl (run_str0 rfl rfl) ?_))
                go_loopw [16] (fun x wr => x = .int .i64 0 ∧ PEx [] w cb d wb y r (i + 1) (1 + nn) wr) (fun _ _ => 0)
                case atStart => exact ⟨rfl, FIN.out⟩
                case round =>
                  clear FIN
                  obtain ⟨rfl, hG⟩ := hrel
                  have FIN := Lib.hid hG
                  clear hG
                  go_wp2
                  first
                  | (go_meet; exact ⟨rfl, _, rfl, rfl, FIN.out⟩)
                  | ((repeat apply Exists.intro); exact ⟨⟨rfl, _, rfl, rfl, FIN.out⟩, rfl⟩)
        · as_aux_lemma =>
          by_cases hA : 0 ≤ A i ∧ A i < 40
          · have FIN := Lib.hid (PEx.next (PIs.ex H6.out.drop))
            obtain ⟨hA0, hA1⟩ := hA
            clear H6 HB KH c3
            go_wp2
            go_roundw
            case rel => exact ⟨i + 1, by omega, by go_num, FIN.out⟩
            case measure => simp [RowKit.intOf]; omega
          · have RD := Lib.hid (has_cread (Has.last H6.out.has) (A i) (by have := H6.out.ms; omega) (by simp [quiet]))
            have P4 := Lib.hid H6.out.drop
            have HA := Lib.hid hA
            have hA' : ¬ (0 ≤ A i) ∨ (0 ≤ A i ∧ ¬ A i < 40) := by omega
            clear H6 KH c3 hA
            rcases hA' with hA1 | ⟨hA0, hA1⟩
            · as_aux_lemma =>
              go_wp2_with fail
              refine RD.out.mono ?_
              intro e w6 hpost
              clear RD c1
              rcases hpost with ⟨hin, rb, F6, rfl, h6⟩ | ⟨hn, hre, F6, rfl, h6⟩
              · as_aux_lemma =>
                have hb6 : w6.heap[go]? = some (.cells #[.int .i64 (K i), .int .i64 (A i), .int .i64 (M i), .int .u8 (B i)] 32 (0, 0)) := h6.blk (by simp)
                have c1 : w6.cell? ⟨go, 1, none⟩ = some (.int .i64 (A i)) := by rw [cell_of_row _ _ _ _ _ _ hb6]; rfl
                have RD2 := Lib.hid (p_read2a P4.out hi60 HA.out hin (Has.dropLast (L := _ :: _ :: _ :: _ :: _ :: []) h6))
                clear h6 hb6 P4 HA hin
                go_wp2_with fail
                refine RD2.out.mono ?_
                rintro e w7 ⟨c, _, g7, cap7, rfl, hc7, P7⟩
                clear RD2 c1
                have hb7 : w7.heap[rb]? = some (.cells (fullA c) 69 (0, 0)) := P7.blk
                have hcc : ∀ j, j < 64 → w7.cell? ⟨rb, j, none⟩ = some (.int .u8 c) := fun j hj => by rw [cell_of_row _ _ _ _ _ _ hb7]; exact fullA_at hj
                have HCC := Lib.hid hcc
                have HC7 := Lib.hid hc7
                have GLS := Lib.hid (GL.full P7)
                clear hb7 hcc hc7 P7
                go_wp2_with (first | (refine wpL_value rfl (run_strc rfl rfl HCC.out) ?_) | (refine wpL_value rfl (run_strc rfl rfl HC7.out) ?_))
                clear HCC HC7
                go_loopw [16] (fun x wr => ∃ j : Nat, j ≤ 64 ∧ x = .int .i64 j ∧ GL 69 rb 64 w cb d wb y r (i + 1) (1 + nn) wr) (fun x _ => 64 - (RowKit.intOf x).toNat)
                case atStart => exact ⟨0, by omega, rfl, GLS.out⟩
                case round =>
                  clear GLS
                  obtain ⟨j, hj, rfl, hG⟩ := hrel
                  by_cases hjl : j < 64
                  · as_aux_lemma =>
                    obtain ⟨⟨cj, tc⟩, tf⟩ := hG.cell hjl
                    have GS := Lib.hid (hG.set hjl 98)
                    clear hG
                    go_wp2
                    go_roundw
                    case rel => exact ⟨j + 1, by omega, by go_num, GS.out⟩
                    case measure => simp [RowKit.intOf]; omega
                  · have hjj : j = 64 := by omega
                    have FIN := Lib.hid hG.ex
                    clear hG hjl hj
                    subst hjj
                    go_wp2
                    first
                    | (go_meet; exact ⟨rfl, _, rfl, rfl, FIN.out⟩)
                    | ((repeat apply Exists.intro); exact ⟨⟨rfl, _, rfl, rfl, FIN.out⟩, rfl⟩)
              · as_aux_lemma =>
                have hb6 : w6.heap[go]? = some (.cells #[.int .i64 (K i), .int .i64 (A i), .int .i64 (M i), .int .u8 (B i)] 32 (0, 0)) := h6.blk (by simp)
                have c1 : w6.cell? ⟨go, 1, none⟩ = some (.int .i64 (A i)) := by rw [cell_of_row _ _ _ _ _ _ hb6]; rfl
                have RD2 := Lib.hid (p_read2b P4.out hn hre (Has.dropLast (L := _ :: _ :: _ :: _ :: []) h6))
                generalize (quiet 100 k f).reach (A i) = z6 at *
                clear h6 hb6 P4 HA hn hre
                go_wp2_with fail
                refine RD2.out.mono ?_
                rintro e w7 ⟨rfl, P7⟩
                clear RD2 c1
                have FIN := Lib.hid P7
                clear P7
                go_wp2_with (first | (refine wpL_value rfl (run_str0 rfl rfl) ?_) | (refine wpL_value rfl (run_str0 rfl rfl) ?_))
                go_loopw [16] (fun x wr => x = .int .i64 0 ∧ PEx [] w cb d wb y r (i + 1) (1 + nn) wr) (fun _ _ => 0)
                case atStart => exact ⟨rfl, FIN.out⟩
                case round =>
                  clear FIN
                  obtain ⟨rfl, hG⟩ := hrel
                  have FIN := Lib.hid hG
                  clear hG
                  go_wp2
                  first
                  | (go_meet; exact ⟨rfl, _, rfl, rfl, FIN.out⟩)
                  | ((repeat apply Exists.intro); exact ⟨⟨rfl, _, rfl, rfl, FIN.out⟩, rfl⟩)
            · as_aux_lemma =>
              go_wp2_with fail
              refine RD.out.mono ?_
              intro e w6 hpost
              clear RD c1
              rcases hpost with ⟨hin, rb, F6, rfl, h6⟩ | ⟨hn, hre, F6, rfl, h6⟩
              · as_aux_lemma =>
                have hb6 : w6.heap[go]? = some (.cells #[.int .i64 (K i), .int .i64 (A i), .int .i64 (M i), .int .u8 (B i)] 32 (0, 0)) := h6.blk (by simp)
                have c1 : w6.cell? ⟨go, 1, none⟩ = some (.int .i64 (A i)) := by rw [cell_of_row _ _ _ _ _ _ hb6]; rfl
                have RD2 := Lib.hid (p_read2a P4.out hi60 HA.out hin (Has.dropLast (L := _ :: _ :: _ :: _ :: _ :: []) h6))
                clear h6 hb6 P4 HA hin
                go_wp2_with fail
                refine RD2.out.mono ?_
                rintro e w7 ⟨c, _, g7, cap7, rfl, hc7, P7⟩
                clear RD2 c1
                have hb7 : w7.heap[rb]? = some (.cells (fullA c) 69 (0, 0)) := P7.blk
                have hcc : ∀ j, j < 64 → w7.cell? ⟨rb, j, none⟩ = some (.int .u8 c) := fun j hj => by rw [cell_of_row _ _ _ _ _ _ hb7]; exact fullA_at hj
                have HCC := Lib.hid hcc
                have HC7 := Lib.hid hc7
                have GLS := Lib.hid (GL.full P7)
                clear hb7 hcc hc7 P7
                go_wp2_with (first | (refine wpL_value rfl (run_strc rfl rfl HCC.out) ?_) | (refine wpL_value rfl (run_strc rfl rfl HC7.out) ?_))
                clear HCC HC7
                go_loopw [16] (fun x wr => ∃ j : Nat, j ≤ 64 ∧ x = .int .i64 j ∧ GL 69 rb 64 w cb d wb y r (i + 1) (1 + nn) wr) (fun x _ => 64 - (RowKit.intOf x).toNat)
                case atStart => exact ⟨0, by omega, rfl, GLS.out⟩
                case round =>
                  clear GLS
                  obtain ⟨j, hj, rfl, hG⟩ := hrel
                  by_cases hjl : j < 64
                  · as_aux_lemma =>
                    obtain ⟨⟨cj, tc⟩, tf⟩ := hG.cell hjl
                    have GS := Lib.hid (hG.set hjl 98)
                    clear hG
                    go_wp2
                    go_roundw
                    case rel => exact ⟨j + 1, by omega, by go_num, GS.out⟩
                    case measure => simp [RowKit.intOf]; omega
                  · have hjj : j = 64 := by omega
                    have FIN := Lib.hid hG.ex
                    clear hG hjl hj
                    subst hjj
                    go_wp2
                    first
                    | (go_meet; exact ⟨rfl, _, rfl, rfl, FIN.out⟩)
                    | ((repeat apply Exists.intro); exact ⟨⟨rfl, _, rfl, rfl, FIN.out⟩, rfl⟩)
              · as_aux_lemma =>
                have hb6 : w6.heap[go]? = some (.cells #[.int .i64 (K i), .int .i64 (A i), .int .i64 (M i), .int .u8 (B i)] 32 (0, 0)) := h6.blk (by simp)
                have c1 : w6.cell? ⟨go, 1, none⟩ = some (.int .i64 (A i)) := by rw [cell_of_row _ _ _ _ _ _ hb6]; rfl
                have RD2 := Lib.hid (p_read2b P4.out hn hre (Has.dropLast (L := _ :: _ :: _ :: _ :: []) h6))
                generalize (quiet 100 k f).reach (A i) = z6 at *
                clear h6 hb6 P4 HA hn hre
                go_wp2_with fail
                refine RD2.out.mono ?_
                rintro e w7 ⟨rfl, P7⟩
                clear RD2 c1
                have FIN := Lib.hid P7
                clear P7
                go_wp2_with (first | (refine wpL_value rfl (run_str0 rfl rfl) ?_) | (refine wpL_value rfl (run_str0 rfl rfl) ?_))
                go_loopw [16] (fun x wr => x = .int .i64 0 ∧ PEx [] w cb d wb y r (i + 1) (1 + nn) wr) (fun _ _ => 0)
                case atStart => exact ⟨rfl, FIN.out⟩
                case round =>
                  clear FIN
                  obtain ⟨rfl, hG⟩ := hrel
                  have FIN := Lib.hid hG
                  clear hG
                  go_wp2
                  first
                  | (go_meet; exact ⟨rfl, _, rfl, rfl, FIN.out⟩)
                  | ((repeat apply Exists.intro); exact ⟨⟨rfl, _, rfl, rfl, FIN.out⟩, rfl⟩)
        · as_aux_lemma =>
          by_cases hA : 0 ≤ A i ∧ A i < 40
          · have FIN := Lib.hid (PEx.next (PIs.ex H6.out.drop))
            obtain ⟨hA0, hA1⟩ := hA
            clear H6 HB KH c3
            go_wp2
            go_roundw
            case rel => exact ⟨i + 1, by omega, by go_num, FIN.out⟩
            case measure => simp [RowKit.intOf]; omega
          · have RD := Lib.hid (has_cread (Has.last H6.out.has) (A i) (by have := H6.out.ms; omega) (by simp [quiet]))
            have P4 := Lib.hid H6.out.drop
            have HA := Lib.hid hA
            have hA' : ¬ (0 ≤ A i) ∨ (0 ≤ A i ∧ ¬ A i < 40) := by omega
            clear H6 KH c3 hA
            rcases hA' with hA1 | ⟨hA0, hA1⟩
            · as_aux_lemma =>
              go_wp2_with fail
              refine RD.out.mono ?_
              intro e w6 hpost
              clear RD c1
              rcases hpost with ⟨hin, rb, F6, rfl, h6⟩ | ⟨hn, hre, F6, rfl, h6⟩
              · as_aux_lemma =>
                have hb6 : w6.heap[go]? = some (.cells #[.int .i64 (K i), .int .i64 (A i), .int .i64 (M i), .int .u8 (B i)] 32 (0, 0)) := h6.blk (by simp)
                have c1 : w6.cell? ⟨go, 1, none⟩ = some (.int .i64 (A i)) := by rw [cell_of_row _ _ _ _ _ _ hb6]; rfl
                have RD2 := Lib.hid (p_read2a P4.out hi60 HA.out hin (Has.dropLast (L := _ :: _ :: _ :: _ :: _ :: []) h6))
                clear h6 hb6 P4 HA hin
                go_wp2_with fail
                refine RD2.out.mono ?_
                rintro e w7 ⟨c, _, g7, cap7, rfl, hc7, P7⟩
                clear RD2 c1
                have hb7 : w7.heap[rb]? = some (.cells (fullA c) 69 (0, 0)) := P7.blk
                have hcc : ∀ j, j < 64 → w7.cell? ⟨rb, j, none⟩ = some (.int .u8 c) := fun j hj => by rw [cell_of_row _ _ _ _ _ _ hb7]; exact fullA_at hj
                have HCC := Lib.hid hcc
                have HC7 := Lib.hid hc7
                have GLS := Lib.hid (GL.full P7)
                clear hb7 hcc hc7 P7
                go_wp2_with (first | (refine wpL_value rfl (run_strc rfl rfl HCC.out) ?_) | (refine wpL_value rfl (run_strc rfl rfl HC7.out) ?_))
                clear HCC HC7
                go_loopw [16] (fun x wr => ∃ j : Nat, j ≤ 64 ∧ x = .int .i64 j ∧ GL 69 rb 64 w cb d wb y r (i + 1) (1 + nn) wr) (fun x _ => 64 - (RowKit.intOf x).toNat)
                case atStart => exact ⟨0, by omega, rfl, GLS.out⟩
                case round =>
                  clear GLS
                  obtain ⟨j, hj, rfl, hG⟩ := hrel
                  by_cases hjl : j < 64
                  · as_aux_lemma =>
                    obtain ⟨⟨cj, tc⟩, tf⟩ := hG.cell hjl
                    have GS := Lib.hid (hG.set hjl 98)
                    clear hG
                    go_wp2
                    go_roundw
                    case rel => exact ⟨j + 1, by omega, by go_num, GS.out⟩
                    case measure => simp [RowKit.intOf]; omega
                  · have hjj : j = 64 := by omega
                    have FIN := Lib.hid hG.ex
                    clear hG hjl hj
                    subst hjj
                    go_wp2
                    first
                    | (go_meet; exact ⟨rfl, _, rfl, rfl, FIN.out⟩)
                    | ((repeat apply Exists.intro); exact ⟨⟨rfl, _, rfl, rfl, FIN.out⟩, rfl⟩)
              · as_aux_lemma =>
                have hb6 : w6.heap[go]? = some (.cells #[.int .i64 (K i), .int .i64 (A i), .int .i64 (M i), .int .u8 (B i)] 32 (0, 0)) := h6.blk (by simp)
                have c1 : w6.cell? ⟨go, 1, none⟩ = some (.int .i64 (A i)) := by rw [cell_of_row _ _ _ _ _ _ hb6]; rfl
                have RD2 := Lib.hid (p_read2b P4.out hn hre (Has.dropLast (L := _ :: _ :: _ :: _ :: []) h6))
                generalize (quiet 100 k f).reach (A i) = z6 at *
                clear h6 hb6 P4 HA hn hre
                go_wp2_with fail
                refine RD2.out.mono ?_
                rintro e w7 ⟨rfl, P7⟩
                clear RD2 c1
                have FIN := Lib.hid P7
                clear P7
                go_wp2_with (first | (refine wpL_value rfl (run_str0 rfl rfl) ?_) | (refine wpL_value rfl (run_str0 rfl rfl) ?_))
                go_loopw [16] (fun x wr => x = .int .i64 0 ∧ PEx [] w cb d wb y r (i + 1) (1 + nn) wr) (fun _ _ => 0)
                case atStart => exact ⟨rfl, FIN.out⟩
                case round =>
                  clear FIN
                  obtain ⟨rfl, hG⟩ := hrel
                  have FIN := Lib.hid hG
                  clear hG
                  go_wp2
                  first
                  | (go_meet; exact ⟨rfl, _, rfl, rfl, FIN.out⟩)
                  | ((repeat apply Exists.intro); exact ⟨⟨rfl, _, rfl, rfl, FIN.out⟩, rfl⟩)
            · as_aux_lemma =>
              go_wp2_with fail
              refine RD.out.mono ?_
              intro e w6 hpost
              clear RD c1
              rcases hpost with ⟨hin, rb, F6, rfl, h6⟩ | ⟨hn, hre, F6, rfl, h6⟩
              · as_aux_lemma =>
                have hb6 : w6.heap[go]? = some (.cells #[.int .i64 (K i), .int .i64 (A i), .int .i64 (M i), .int .u8 (B i)] 32 (0, 0)) := h6.blk (by simp)
                have c1 : w6.cell? ⟨go, 1, none⟩ = some (.int .i64 (A i)) := by rw [cell_of_row _ _ _ _ _ _ hb6]; rfl
                have RD2 := Lib.hid (p_read2a P4.out hi60 HA.out hin (Has.dropLast (L := _ :: _ :: _ :: _ :: _ :: []) h6))
                clear h6 hb6 P4 HA hin
                go_wp2_with fail
                refine RD2.out.mono ?_
                rintro e w7 ⟨c, _, g7, cap7, rfl, hc7, P7⟩
                clear RD2 c1
                have hb7 : w7.heap[rb]? = some (.cells (fullA c) 69 (0, 0)) := P7.blk
                have hcc : ∀ j, j < 64 → w7.cell? ⟨rb, j, none⟩ = some (.int .u8 c) := fun j hj => by rw [cell_of_row _ _ _ _ _ _ hb7]; exact fullA_at hj
                have HCC := Lib.hid hcc
                have HC7 := Lib.hid hc7
                have GLS := Lib.hid (GL.full P7)
                clear hb7 hcc hc7 P7
                go_wp2_with (first | (refine wpL_value rfl (run_strc rfl rfl HCC.out) ?_) | (refine wpL_value rfl (run_strc rfl rfl HC7.out) ?_))
                clear HCC HC7
                go_loopw [16] (fun x wr => ∃ j : Nat, j ≤ 64 ∧ x = .int .i64 j ∧ GL 69 rb 64 w cb d wb y r (i + 1) (1 + nn) wr) (fun x _ => 64 - (RowKit.intOf x).toNat)
                case atStart => exact ⟨0, by omega, rfl, GLS.out⟩
                case round =>
                  clear GLS
                  obtain ⟨j, hj, rfl, hG⟩ := hrel
                  by_cases hjl : j < 64
                  · as_aux_lemma =>
                    obtain ⟨⟨cj, tc⟩, tf⟩ := hG.cell hjl
                    have GS := Lib.hid (hG.set hjl 98)
                    clear hG
                    go_wp2
                    go_roundw
                    case rel => exact ⟨j + 1, by omega, by go_num, GS.out⟩
                    case measure => simp [RowKit.intOf]; omega
                  · have hjj : j = 64 := by omega
                    have FIN := Lib.hid hG.ex
                    clear hG hjl hj
                    subst hjj
                    go_wp2
                    first
                    | (go_meet; exact ⟨rfl, _, rfl, rfl, FIN.out⟩)
                    | ((repeat apply Exists.intro); exact ⟨⟨rfl, _, rfl, rfl, FIN.out⟩, rfl⟩)
              · as_aux_lemma =>
                have hb6 : w6.heap[go]? = some (.cells #[.int .i64 (K i), .int .i64 (A i), .int .i64 (M i), .int .u8 (B i)] 32 (0, 0)) := h6.blk (by simp)
                have c1 : w6.cell? ⟨go, 1, none⟩ = some (.int .i64 (A i)) := by rw [cell_of_row _ _ _ _ _ _ hb6]; rfl
                have RD2 := Lib.hid (p_read2b P4.out hn hre (Has.dropLast (L := _ :: _ :: _ :: _ :: []) h6))
                generalize (quiet 100 k f).reach (A i) = z6 at *
                clear h6 hb6 P4 HA hn hre
                go_wp2_with fail
                refine RD2.out.mono ?_
                rintro e w7 ⟨rfl, P7⟩
                clear RD2 c1
                have FIN := Lib.hid P7
                clear P7
                go_wp2_with (first | (refine wpL_value rfl (run_str0 rfl rfl) ?_) | (refine wpL_value rfl (run_str0 rfl rfl) ?_))
                go_loopw [16] (fun x wr => x = .int .i64 0 ∧ PEx [] w cb d wb y r (i + 1) (1 + nn) wr) (fun _ _ => 0)
                case atStart => exact ⟨rfl, FIN.out⟩
                case round =>
                  clear FIN
                  obtain ⟨rfl, hG⟩ := hrel
                  have FIN := Lib.hid hG
                  clear hG
                  go_wp2
                  first
                  | (go_meet; exact ⟨rfl, _, rfl, rfl, FIN.out⟩)
                  | ((repeat apply Exists.intro); exact ⟨⟨rfl, _, rfl, rfl, FIN.out⟩, rfl⟩)
        · as_aux_lemma =>
          have hgl : go < w4.heap.size := (Array.getElem?_eq_some_iff.1 HB.out).1
          have hne := H6.out.ne
          have h5 := H6.out.drop.alloc (.cells (fullA (B i)) 5)
          have hb5 : (w4.alloc (.cells (fullA (B i)) 5)).heap[go]? = some (.cells #[.int .i64 (K i), .int .i64 (A i), .int .i64 (M i), .int .u8 (B i)] 32 (0, 0)) := (Below.heap_alloc _ _ _ hgl).trans HB.out
          have HB5 := Lib.hid hb5
          have H5 := Lib.hid h5
          clear H6 hgl h5 c1 hb5 HB
          go_wp2_with fail
          refine (full1_any (B i) w4).mono ?_
          rintro e w' ⟨rfl, rfl⟩
          clear c3
          generalize w4.heap.size = gb at *
          generalize w4.alloc (.cells (fullA (B i)) 5) = w5 at *
          have hb5 : w5.heap[go]? = some (.cells #[.int .i64 (K i), .int .i64 (A i), .int .i64 (M i), .int .u8 (B i)] 32 (0, 0)) := HB5.out
          have c0 : w5.cell? ⟨go, 0, none⟩ = some (.int .i64 (K i)) := by rw [cell_of_row _ _ _ _ _ _ hb5]; rfl
          have c1 : w5.cell? ⟨go, 1, none⟩ = some (.int .i64 (A i)) := by rw [cell_of_row _ _ _ _ _ _ hb5]; rfl
          have c2 : w5.cell? ⟨go, 2, none⟩ = some (.int .i64 (M i)) := by rw [cell_of_row _ _ _ _ _ _ hb5]; rfl
          have HB5 := Lib.hid hb5
          have W1 := Lib.hid (p_write1 H5.out (A i))
          clear hb5 c2
          go_wp2_with fail
          refine (KH.out _).mono ?_
          rintro e w' ⟨rfl, rfl⟩
          clear KH c0
          go_wp2_with fail
          refine W1.out.mono ?_
          rintro e w6 ⟨rfl, ⟨G6, h6⟩, o6⟩
          clear W1 c1
          have hgl : go < w5.heap.size := (Array.getElem?_eq_some_iff.1 HB5.out).1
          have hb6 : w6.heap[go]? = some (.cells #[.int .i64 (K i), .int .i64 (A i), .int .i64 (M i), .int .u8 (B i)] 32 (0, 0)) := (o6.block go hgl (by simp [hne.1, hne.2])).trans HB5.out
          have c1 : w6.cell? ⟨go, 1, none⟩ = some (.int .i64 (A i)) := by rw [cell_of_row _ _ _ _ _ _ hb6]; rfl
          have W2 := Lib.hid (p_write2 H5.out (A i) h6)
          clear h6 o6 hb6 HB5 H5 hgl hne
          generalize wcode C 100 (A i) = z6 at *
          go_wp2_with fail
          refine W2.out.mono ?_
          rintro e w7 ⟨rfl, P7⟩
          clear W2 c1
          have GLS := Lib.hid (GL.full P7)
          clear P7
          go_wp2
          go_loopw [18] (fun x wr => ∃ j : Nat, j ≤ 64 ∧ x = .int .i64 j ∧ GL 5 gb 64 w cb d wb y r (i + 1) (1 + nn) wr) (fun x _ => 64 - (RowKit.intOf x).toNat)
          case atStart => exact ⟨0, by omega, rfl, GLS.out⟩
          case round =>
            clear GLS
            obtain ⟨j, hj, rfl, hG⟩ := hrel
            by_cases hjl : j < 64
            · as_aux_lemma =>
              obtain ⟨⟨cj, tc⟩, tf⟩ := hG.cell hjl
              have GS := Lib.hid (hG.set hjl 99)
              clear hG
              go_wp2
              go_roundw
              case rel => exact ⟨j + 1, by omega, by go_num, GS.out⟩
              case measure => simp [RowKit.intOf]; omega
            · have hjj : j = 64 := by omega
              have FIN := Lib.hid hG.ex
              clear hG hjl hj
              subst hjj
              go_wp2
              first
              | (go_meet; exact ⟨rfl, _, rfl, rfl, FIN.out⟩)
              | ((repeat apply Exists.intro); exact ⟨⟨rfl, _, rfl, rfl, FIN.out⟩, rfl⟩)
        · as_aux_lemma =>
          have hgl : go < w4.heap.size := (Array.getElem?_eq_some_iff.1 HB.out).1
          have hne := H6.out.ne
          have h5 := H6.out.drop.alloc (.cells (fullA (B i)) 5)
          have hb5 : (w4.alloc (.cells (fullA (B i)) 5)).heap[go]? = some (.cells #[.int .i64 (K i), .int .i64 (A i), .int .i64 (M i), .int .u8 (B i)] 32 (0, 0)) := (Below.heap_alloc _ _ _ hgl).trans HB.out
          have HB5 := Lib.hid hb5
          have H5 := Lib.hid h5
          clear H6 hgl h5 c1 hb5 HB
          go_wp2_with fail
          refine (full1_any (B i) w4).mono ?_
          rintro e w' ⟨rfl, rfl⟩
          clear c3
          generalize w4.heap.size = gb at *
          generalize w4.alloc (.cells (fullA (B i)) 5) = w5 at *
          have hb5 : w5.heap[go]? = some (.cells #[.int .i64 (K i), .int .i64 (A i), .int .i64 (M i), .int .u8 (B i)] 32 (0, 0)) := HB5.out
          have c0 : w5.cell? ⟨go, 0, none⟩ = some (.int .i64 (K i)) := by rw [cell_of_row _ _ _ _ _ _ hb5]; rfl
          have c1 : w5.cell? ⟨go, 1, none⟩ = some (.int .i64 (A i)) := by rw [cell_of_row _ _ _ _ _ _ hb5]; rfl
          have c2 : w5.cell? ⟨go, 2, none⟩ = some (.int .i64 (M i)) := by rw [cell_of_row _ _ _ _ _ _ hb5]; rfl
          have HB5 := Lib.hid hb5
          have W1 := Lib.hid (p_write1 H5.out (A i))
          clear hb5 c2
          go_wp2_with fail
          refine (KH.out _).mono ?_
          rintro e w' ⟨rfl, rfl⟩
          clear KH c0
          go_wp2_with fail
          refine W1.out.mono ?_
          rintro e w6 ⟨rfl, ⟨G6, h6⟩, o6⟩
          clear W1 c1
          have hgl : go < w5.heap.size := (Array.getElem?_eq_some_iff.1 HB5.out).1
          have hb6 : w6.heap[go]? = some (.cells #[.int .i64 (K i), .int .i64 (A i), .int .i64 (M i), .int .u8 (B i)] 32 (0, 0)) := (o6.block go hgl (by simp [hne.1, hne.2])).trans HB5.out
          have c1 : w6.cell? ⟨go, 1, none⟩ = some (.int .i64 (A i)) := by rw [cell_of_row _ _ _ _ _ _ hb6]; rfl
          have W2 := Lib.hid (p_write2 H5.out (A i) h6)
          clear h6 o6 hb6 HB5 H5 hgl hne
          generalize wcode C 100 (A i) = z6 at *
          go_wp2_with fail
          refine W2.out.mono ?_
          rintro e w7 ⟨rfl, P7⟩
          clear W2 c1
          have GLS := Lib.hid (GL.full P7)
          clear P7
          go_wp2
          go_loopw [18] (fun x wr => ∃ j : Nat, j ≤ 64 ∧ x = .int .i64 j ∧ GL 5 gb 64 w cb d wb y r (i + 1) (1 + nn) wr) (fun x _ => 64 - (RowKit.intOf x).toNat)
          case atStart => exact ⟨0, by omega, rfl, GLS.out⟩
          case round =>
            clear GLS
            obtain ⟨j, hj, rfl, hG⟩ := hrel
            by_cases hjl : j < 64
            · as_aux_lemma =>
              obtain ⟨⟨cj, tc⟩, tf⟩ := hG.cell hjl
              have GS := Lib.hid (hG.set hjl 99)
              clear hG
              go_wp2
              go_roundw
              case rel => exact ⟨j + 1, by omega, by go_num, GS.out⟩
              case measure => simp [RowKit.intOf]; omega
            · have hjj : j = 64 := by omega
              have FIN := Lib.hid hG.ex
              clear hG hjl hj
              subst hjj
              go_wp2
              first
              | (go_meet; exact ⟨rfl, _, rfl, rfl, FIN.out⟩)
              | ((repeat apply Exists.intro); exact ⟨⟨rfl, _, rfl, rfl, FIN.out⟩, rfl⟩)
        · as_aux_lemma =>
          have P4 := Lib.hid H6.out.drop
          have BG := Lib.hid (has_cbegin P4.out.has)
          clear H6 HB KH c1 c3
          go_wp2_with fail
          refine BG.out.mono ?_
          rintro e w6 ⟨F6, rfl, h6⟩
          have B2 := Lib.hid (p_begin2 P4.out h6)
          clear BG h6 P4
          generalize (if C.opn = true then (30 : Int) else 0) = z6 at *
          go_wp2_with fail
          refine B2.out.mono ?_
          rintro e w7 ⟨rfl, P7⟩
          have FIN := Lib.hid P7
          clear P7 B2
          go_wp2
          go_meet
          exact ⟨rfl, _, rfl, rfl, FIN.out⟩
        · as_aux_lemma =>
          have P4 := Lib.hid H6.out.drop
          have k1 := H6.out.k1
          have g1 := H6.out.g1
          have CO := Lib.hid (has_ccommit P4.out.has (by omega) (by omega) (by omega) H6.out.g0 (by omega) H6.out.k0 (by omega))
          clear H6 HB KH c1 c3 k1 g1
          go_wp2_with fail
          refine CO.out.mono ?_
          intro e w6 hpost
          rcases Or.symm hpost with ⟨hno, FD6, F6, rfl, h6⟩ | ⟨ho, gok, k6, FD6, F6, hk6, hk7, rfl, h6⟩
          · as_aux_lemma =>
            have B2 := Lib.hid (p_commit2b P4.out hi60 hno h6)
            clear CO hno hpost h6 P4
            generalize (if C.opn = true then (20 : Int) else 30) = z6 at *
            go_wp2_with fail
            refine B2.out.mono ?_
            rintro e w7 ⟨rfl, P7⟩
            have FIN := Lib.hid P7
            clear P7 B2
            go_wp2
            go_meet
            exact ⟨rfl, _, rfl, rfl, FIN.out⟩
          · as_aux_lemma =>
            have B2 := Lib.hid (p_commit2a P4.out hi60 ho gok hk6 hk7 h6)
            clear CO hpost h6 P4 ho gok hk6 hk7
            go_wp2_with fail
            refine B2.out.mono ?_
            rintro e w7 ⟨rfl, P7⟩
            have FIN := Lib.hid P7
            clear P7 B2
            go_wp2
            go_meet
            exact ⟨rfl, _, rfl, rfl, FIN.out⟩
        · as_aux_lemma =>
          have P4 := Lib.hid H6.out.drop
          have BG := Lib.hid (has_cabort P4.out.has)
          clear H6 HB KH c1 c3
          go_wp2_with fail
          refine BG.out.mono ?_
          rintro e w6 ⟨F6, rfl, h6⟩
          have B2 := Lib.hid (p_abort2 P4.out h6)
          clear BG h6 P4
          generalize (if C.opn = true then (0 : Int) else 30) = z6 at *
          go_wp2_with fail
          refine B2.out.mono ?_
          rintro e w7 ⟨rfl, P7⟩
          have FIN := Lib.hid P7
          clear P7 B2
          go_wp2
          go_meet
          exact ⟨rfl, _, rfl, rfl, FIN.out⟩
        · as_aux_lemma =>
          have hgl : go < w4.heap.size := (Array.getElem?_eq_some_iff.1 HB.out).1
          have hne := H6.out.ne
          have KM := Lib.hid (fun x => kind_any (M i) 71 x mb0 mb1 (by omega) (by omega))
          have mb := amongF_bd (M i) 71 (by omega)
          generalize amongF (M i) 71 = m' at *
          obtain ⟨m, rfl⟩ : ∃ m : Nat, m' = (m : Int) := ⟨m'.toNat, by omega⟩
          have hm71 : m < 71 := by omega
          have o5 : Only [] w4 (w4.alloc (.cells (fullA (B i)) 5)) := (Only.refl _ w4).alloc _
          have hb5 := (Below.heap_alloc w4 (.cells (fullA (B i)) 5) _ hgl).trans HB.out
          have P5 : PIs [] w cb d wb y r i (1 + nn) (w4.alloc (.cells (fullA (B i)) 5)) C F FD k f g' G X := (H6.out.drop.alloc (.cells (fullA (B i)) 5)).drop
          have HB5 := Lib.hid hb5
          have H5 := Lib.hid P5
          clear H6 hgl P5 c1 hb5 HB mb o5
          go_wp2_with fail
          refine (full1_any (B i) w4).mono ?_
          rintro e w' ⟨rfl, rfl⟩
          clear c3
          generalize w4.alloc (.cells (fullA (B i)) 5) = w5 at *
          generalize w4.heap.size = g5 at *
          have hb5 : w5.heap[go]? = some (.cells #[.int .i64 (K i), .int .i64 (A i), .int .i64 (M i), .int .u8 (B i)] 32 (0, 0)) := HB5.out
          have c0 : w5.cell? ⟨go, 0, none⟩ = some (.int .i64 (K i)) := by rw [cell_of_row _ _ _ _ _ _ hb5]; rfl
          have c1 : w5.cell? ⟨go, 1, none⟩ = some (.int .i64 (A i)) := by rw [cell_of_row _ _ _ _ _ _ hb5]; rfl
          have c2 : w5.cell? ⟨go, 2, none⟩ = some (.int .i64 (M i)) := by rw [cell_of_row _ _ _ _ _ _ hb5]; rfl
          have HB5 := Lib.hid hb5
          have hgl : go < w5.heap.size := (Array.getElem?_eq_some_iff.1 hb5).1
          have hmk := make34 m (by omega)
          have h7 := H5.out.alloc (.cells (zerosA m) 5)
          have hb7 : (w5.alloc (.cells (zerosA m) 5)).heap[go]? = some (.cells #[.int .i64 (K i), .int .i64 (A i), .int .i64 (M i), .int .u8 (B i)] 32 (0, 0)) := (Below.heap_alloc _ _ _ hgl).trans HB5.out
          have c17 : (w5.alloc (.cells (zerosA m) 5)).cell? ⟨go, 1, none⟩ = some (.int .i64 (A i)) := by rw [cell_of_row _ _ _ _ _ _ hb7]; rfl
          have HB7 := Lib.hid hb7
          have H7 := Lib.hid h7
          clear hb5 hb7 h7 HB5 hgl H5 c1
          go_wp2_with fail
          refine (KH.out _).mono ?_
          rintro e w' ⟨rfl, rfl⟩
          clear KH c0
          go_wp2_with fail
          refine (KM.out _).mono ?_
          rintro e w' ⟨rfl, rfl⟩
          clear KM c2
          go_wp2_with fail
          generalize w5.heap.size = gb at *
          generalize w5.alloc (.cells (zerosA m) 5) = w6 at *
          by_cases hm64 : m = 64
          · subst hm64
            as_aux_lemma =>
            have h8 := H7.out
            rw [zerosA_64] at h8
            have H8 := Lib.hid h8
            clear H7 h8 hmk
            have W1 := Lib.hid (p_write1 H8.out (A i))
            refine W1.out.mono ?_
            rintro e w7 ⟨rfl, ⟨G6, h6⟩, o6⟩
            clear W1 c17
            have hgl : go < w6.heap.size := (Array.getElem?_eq_some_iff.1 HB7.out).1
            have hb6 : w7.heap[go]? = some (.cells #[.int .i64 (K i), .int .i64 (A i), .int .i64 (M i), .int .u8 (B i)] 32 (0, 0)) := (o6.block go hgl (by simp [hne.1, hne.2])).trans HB7.out
            have c1 : w7.cell? ⟨go, 1, none⟩ = some (.int .i64 (A i)) := by rw [cell_of_row _ _ _ _ _ _ hb6]; rfl
            have W2 := Lib.hid (p_write2 H8.out (A i) h6)
            clear h6 o6 hb6 HB7 H8 hgl hne
            generalize wcode C 100 (A i) = z6 at *
            go_wp2_with fail
            refine W2.out.mono ?_
            rintro e w8 ⟨rfl, P7⟩
            clear W2 c1
            have GLS := Lib.hid (GL.full P7)
            clear P7
            go_wp2
            go_loopw [18] (fun x wr => ∃ j : Nat, j ≤ 64 ∧ x = .int .i64 j ∧ GL 5 gb 64 w cb d wb y r (i + 1) (1 + nn) wr) (fun x _ => 64 - (RowKit.intOf x).toNat)
            case atStart => exact ⟨0, by omega, rfl, GLS.out⟩
            case round =>
              clear GLS
              obtain ⟨j, hj, rfl, hG⟩ := hrel
              by_cases hjl : j < 64
              · as_aux_lemma =>
                obtain ⟨⟨cj, tc⟩, tf⟩ := hG.cell hjl
                have GS := Lib.hid (hG.set hjl 99)
                clear hG
                go_wp2
                go_roundw
                case rel => exact ⟨j + 1, by omega, by go_num, GS.out⟩
                case measure => simp [RowKit.intOf]; omega
              · have hjj : j = 64 := by omega
                have FIN := Lib.hid hG.ex
                clear hG hjl hj
                subst hjj
                go_wp2
                first
                | (go_meet; exact ⟨rfl, _, rfl, rfl, FIN.out⟩)
                | ((repeat apply Exists.intro); exact ⟨⟨rfl, _, rfl, rfl, FIN.out⟩, rfl⟩)
          · as_aux_lemma =>
            clear hmk
            have W1 := Lib.hid (p_wrong1 H7.out (A i) (some ⟨gb, 0, none⟩) (cap := m) hm64)
            have W2 := Lib.hid (p_wrong2 H7.out (A i) (some ⟨gb, 0, none⟩) (cap := m) hm64)
            have GLS := Lib.hid (GL.zeros (PEx.next (PIs.ex H7.out)))
            clear H7 HB7 hne hm64
            generalize bcode C (A i) = z6 at *
            refine W1.out.mono ?_
            rintro e w7 ⟨rfl, rfl⟩
            clear W1
            go_wp2_with fail
            refine W2.out.mono ?_
            rintro e w8 ⟨rfl, rfl⟩
            clear W2 c17
            go_wp2
            go_loopw [18] (fun x wr => ∃ j : Nat, j ≤ m ∧ x = .int .i64 j ∧ GL 5 gb m w cb d wb y r (i + 1) (1 + nn) wr) (fun x _ => m - (RowKit.intOf x).toNat)
            case atStart => exact ⟨0, by omega, rfl, GLS.out⟩
            case round =>
              clear GLS
              obtain ⟨j, hj, rfl, hG⟩ := hrel
              by_cases hjl : j < m
              · as_aux_lemma =>
                obtain ⟨⟨cj, tc⟩, tf⟩ := hG.cell hjl
                have GS := Lib.hid (hG.set hjl 99)
                clear hG
                go_wp2
                go_roundw
                case rel => exact ⟨j + 1, by omega, by go_num, GS.out⟩
                case measure => simp [RowKit.intOf]; omega
              · have hjj : j = m := by omega
                have FIN := Lib.hid hG.ex
                clear hG hjl hj
                subst hjj
                go_wp2
                first
                | (go_meet; exact ⟨rfl, _, rfl, rfl, FIN.out⟩)
                | ((repeat apply Exists.intro); exact ⟨⟨rfl, _, rfl, rfl, FIN.out⟩, rfl⟩)
      case rest =>
        as_aux_lemma =>
        clear H6 c1 c3 HB KH
        obtain ⟨rfl, z, rfl, rfl, C, F, FD, k, f, g', G, X, hC⟩ := hcut
        rename World => wB
        have hl8 : X.L.length ≤ 8192 := hC.llen.2
        have hlt := RCAt.lt (rcat_of (L := _ :: _ :: _ :: []) hC.has)
        obtain ⟨lv, hR⟩ := rcat_of (L := _ :: _ :: _ :: []) hC.has
        obtain ⟨d0, d1, d2, d3, d4, d5, d6, d7, d8, fz⟩ := hR.cells
        have hyl : y < wB.heap.size := hlt y (by simp)
        obtain ⟨la, lcap, rfl, hcap, hcap2, hall⟩ := hR.lines.slice
        have HLS := Lib.hid hall
        have HY := Lib.hid (fun (x : World) (o : Only [] wB x) => And.intro ((World.cell?_of_block (w := wB) (a := ⟨y, 7, none⟩) (o.block y hyl (by simp))).trans d7) ((World.cell?_of_block (w := wB) (a := ⟨y, 5, none⟩) (o.block y hyl (by simp))).trans d5))
        have HLT := Lib.hid hlt
        have HC := Lib.hid hC
        have ST := Lib.hid (HldI.start wB X)
        clear hR d0 d1 d2 d3 d4 d5 d6 d7 d8 fz hall hlt hC
        go_wp2_with (first | (refine wpL_value rfl (run_buildSlice400 rfl) ?_))
        go_loopw [20, 19] (fun x v19 wr => ∃ j : Nat, j ≤ X.L.length ∧ x = .int .i64 j ∧ HldI wB X j v19 wr) (fun x _ _ => X.L.length - (RowKit.intOf x).toNat)
        case atStart => exact ⟨0, by omega, rfl, ST.out⟩
        case round =>
          clear ST
          obtain ⟨j, hj, rfl, hH⟩ := hrel
          have t7 := (HY.out wr hH.only).1
          by_cases hjl : j < X.L.length
          · as_aux_lemma =>
            obtain ⟨q, hq⟩ : ∃ q, X.L[j]? = some q := ⟨_, List.getElem?_eq_getElem hjl⟩
            obtain ⟨gq, rfl, hgq, q1, _, _⟩ := HLS.out j q hq
            have t1 : wr.cell? ⟨gq, j * 3, none⟩ = some (.int .i64 q.at') := (World.cell?_of_block (w := wB) (hH.only.block gq (HLT.out gq (by simp [hgq])) (by simp))).trans q1
            obtain ⟨v6, w6, hrun, h6⟩ := hH.grow hq (by omega) 40
            have RUN := Lib.hid hrun
            have FIN := Lib.hid h6
            clear hrun h6 hH q1 hq
            go_wp2_with (first | (refine wpL_value rfl (run_buildSlice40 rfl rfl) ?_) | (refine wpL_value rfl (run_builtin_append rfl rfl rfl RUN.out) ?_))
            go_roundw
            case rel => exact ⟨j + 1, by omega, by go_num, FIN.out⟩
            case measure => simp [RowKit.intOf]; omega
          · have hjj : j = X.L.length := by omega
            subst hjj
            have HI2 := Lib.hid (hH.ints rfl (by omega))
            obtain ⟨va, vc, rfl⟩ := own_slice hH.own
            have hD := HC.out.has.later hH.only
            have HE := Lib.hid (has_held hD)
            have HX := Lib.hid hH.only
            clear hH hD
            go_wp2_with fail
            clear t7
            refine HE.out.mono ?_
            rintro e wC ⟨ha, hcap', rfl, hI, hH, oH⟩
            have IN := Lib.hid (ints_any hI (HI2.out.only oH))
            have HH := Lib.hid hH
            have OH := Lib.hid oH
            clear hI hH oH HE HI2
            go_wp2_with fail
            refine IN.out.mono ?_
            rintro e wF ⟨rr, rfl, hrr, oF⟩
            have er : rr = true := hrr.2 HC.out.sim.ord
            subst er
            have o1 : Only [] wB wF := (HX.out.trans OH.out (by simp)).trans oF (by simp)
            have HD := Lib.hid ((HH.out.later oF).drew)
            have HR := Lib.hid (rcat_of (L := _ :: _ :: _ :: []) HD.out)
            have hc5 : wF.drew.cell? ⟨y, 5, none⟩ = some (.int .i64 X.missed) := (HY.out wF o1).2
            have HC5 := Lib.hid hc5
            clear hc5
            have HPIN := Lib.hid (Sim.pinned HC.out.ok HC.out.sim)
            have HMIS := Lib.hid HC.out.sim.miss
            have FIN := Lib.hid (PEx.drew (PEx.later (PIs.ex HC.out) o1))
            clear IN hrr oF HH OH HX HC HY HLS HLT o1
            go_wp2_with fail
            refine wp_region_flowR Lat [0, 0, 0, 0, 0, 0, 0, 0, 0, 1, 0, 2, 0, 0, 0, 0, 1, 0, 0, 0, 1, 0, 0] (by kernel_rfl) (by kernel_rfl) Lat.refl Lat.trans ?_
            generalize wF.drew = wG at *
            refine fr0 rfl (fun _ => rfl) ?_
            simp only [Act.put, List.setIfInBounds_toArray, List.set_cons_succ, List.set_cons_zero]
            refine fr0 rfl (fun _ => rfl) ?_
            simp only [Act.put, List.setIfInBounds_toArray, List.set_cons_succ, List.set_cons_zero]
            refine fr0 (u := .bool false) rfl (fun w => (run_neq33 rfl rfl rfl w).trans (by simp)) ?_
            simp only [Act.put, List.setIfInBounds_toArray, List.set_cons_succ, List.set_cons_zero]
            refine fr0 (u := .bool false) rfl (fun _ => rfl) ?_
            simp only [Act.put, List.setIfInBounds_toArray, List.set_cons_succ, List.set_cons_zero]
            refine fr0 (u := .bool true) (by kernel_rfl) (fun _ => rfl) ?_
            simp only [Act.put, List.setIfInBounds_toArray, List.set_cons_succ, List.set_cons_zero]
            refine fr0 (u := .bool false) (by kernel_rfl) (fun w => run_not (v := true) rfl rfl w) ?_
            simp only [Act.put, List.setIfInBounds_toArray, List.set_cons_succ, List.set_cons_zero]
            refine fr0 (u := .bool false) rfl (fun _ => rfl) ?_
            simp only [Act.put, List.setIfInBounds_toArray, List.set_cons_succ, List.set_cons_zero]
            refine fr0 (u := .bool false) rfl (fun _ => rfl) ?_
            simp only [Act.put, List.setIfInBounds_toArray, List.set_cons_succ, List.set_cons_zero]
            refine fr0 (u := .pointer (some ⟨cb, 0, none⟩)) (by kernel_rfl) (fun _ => rfl) ?_
            simp only [Act.put, List.setIfInBounds_toArray, List.set_cons_succ, List.set_cons_zero]
            refine fr1c (u := .int .i64 C.pin.length) (by kernel_rfl) (fun x hx => .inr (.inr ⟨25, _, run_enter1 Try.call25 rfl rfl, pinned_any (HD.out.catL (cb := cb) (d := d) (wb := wb) (F := F) (C := C) (by simp) hx)⟩)) ?_
            simp only [Act.put, List.setIfInBounds_toArray, List.set_cons_succ, List.set_cons_zero]
            refine fr0 (u := .pointer (some ⟨y, 0, none⟩)) (by kernel_rfl) (fun _ => rfl) ?_
            simp only [Act.put, List.setIfInBounds_toArray, List.set_cons_succ, List.set_cons_zero]
            refine fr2c (by kernel_rfl) (run_enter1 Try.call26 rfl rfl) (rcpinned_any HR.out) ?_
            rintro e wQ ⟨rfl, oQ⟩
            refine ⟨_, rfl, oQ.lat, ?_⟩
            simp only [Act.put, List.setIfInBounds_toArray, List.set_cons_succ, List.set_cons_zero]
            refine fr0 (u := .bool false) (by kernel_rfl) (fun w => (run_neq rfl rfl rfl w).trans (by rw [HPIN.out]; simp)) ?_
            simp only [Act.put, List.setIfInBounds_toArray, List.set_cons_succ, List.set_cons_zero]
            refine fr0 (u := .bool false) rfl (fun _ => rfl) ?_
            simp only [Act.put, List.setIfInBounds_toArray, List.set_cons_succ, List.set_cons_zero]
            refine fr0 (u := .bool false) rfl (fun _ => rfl) ?_
            simp only [Act.put, List.setIfInBounds_toArray, List.set_cons_succ, List.set_cons_zero]
            refine fr0 (u := .pointer (some ⟨cb, 0, none⟩)) (by kernel_rfl) (fun _ => rfl) ?_
            simp only [Act.put, List.setIfInBounds_toArray, List.set_cons_succ, List.set_cons_zero]
            refine fr1c (u := .int .i64 C.miss) (by kernel_rfl) (fun x hx => .inr (.inr ⟨27, _, run_enter1 Try.call27 rfl rfl, misses_any ((HD.out.later oQ).catL (cb := cb) (d := d) (wb := wb) (F := F) (C := C) (by simp) hx)⟩)) ?_
            simp only [Act.put, List.setIfInBounds_toArray, List.set_cons_succ, List.set_cons_zero]
            refine fr0 (u := .pointer (some ⟨y, 0, none⟩)) (by kernel_rfl) (fun _ => rfl) ?_
            simp only [Act.put, List.setIfInBounds_toArray, List.set_cons_succ, List.set_cons_zero]
            refine fr0 (u := .pointer (some ⟨y, 0, none⟩)) (by kernel_rfl) (fun _ => rfl) ?_
            simp only [Act.put, List.setIfInBounds_toArray, List.set_cons_succ, List.set_cons_zero]
            refine fr0 (u := .pointer (some ⟨y, 5, none⟩)) (by kernel_rfl) (run_field44 (k := 5) (by omega) rfl rfl) ?_
            simp only [Act.put, List.setIfInBounds_toArray, List.set_cons_succ, List.set_cons_zero]
            refine fr1 (u := .int .i64 X.missed) (by kernel_rfl) (fun x hx => run_load1 rfl rfl (hx.cell (oQ.lat.cell HC5.out)) isAgg3) ?_
            simp only [Act.put, List.setIfInBounds_toArray, List.set_cons_succ, List.set_cons_zero]
            refine fr0 (u := .bool false) (by kernel_rfl) (fun w => (run_neq rfl rfl rfl w).trans (by rw [HMIS.out]; simp)) ?_
            simp only [Act.put, List.setIfInBounds_toArray, List.set_cons_succ, List.set_cons_zero]
            refine fr0 (u := .bool false) rfl (fun _ => rfl) ?_
            simp only [Act.put, List.setIfInBounds_toArray, List.set_cons_succ, List.set_cons_zero]
            refine frnil ?_
            have FINQ := Lib.hid (FIN.out.later oQ)
            clear FIN HD HR HC5 HPIN HMIS oQ
            go_wp2
            go_roundw
            case rel => exact ⟨i + 1, by omega, by go_num, FINQ.out⟩
            case measure => simp [RowKit.intOf]; omega
    · have HO := Lib.hid hC.has.only
      clear hC
      by_cases hL : len ≤ 250
      · have hiL : i = len := by omega
        clear hlt hi
        subst hiL
        go_wp2
        go_ret
        exact ⟨rfl, HO.out⟩
      · have hiL : i = 250 := by omega
        clear hlt hi
        subst hiL
        go_wp2
        go_ret
        exact ⟨rfl, HO.out⟩
end Go.Proofs.Ytoccnaebckcfmaa.Ref
end

section
set_option linter.unusedSimpArgs false
set_option linter.unusedVariables false
namespace Go.Proofs.Ytoccnaebckcfmaa
open Go.ChangeShapes Go.WideShapes Go.ChangeAt Go.RowKit


set_option maxRecDepth 100000 in
theorem cachePlays_lifted (os : Os) (started : os.Started) (H : Type) (enc : TypeId × Value → H) :
    ReturnsInHanded {} Try.checked os 3 .any (Rows.cachePlaysSpec.pre6 enc Try.prog Try.f3 Rows.cachePlaysRow.domain false) (Rows.cachePlaysSpec.post enc Try.prog Try.f3 false true false false) := by
  refine returnsInHanded_of_change (C := Try.checked) ownK started (by kernel_rfl) Try.func3
    (ChangeSpec.witness6 (enc := enc) (C := Try.checked) false ⟨#[], #[.int .i64 0, .slice none 0 0], []⟩ 8 (by kernel_rfl) (by kernel_rfl) (by kernel_rfl) (by kernel_rfl)) ?_
  intro W base args ds gs before hval0 hW hcnd _
  have hval : ∀ (j : Nat) t v, Try.f3.params[j]? = some t → args[j]? = some v → Value.okWide Try.prog W .any base t v := hval0
  have hW' := hW
  obtain ⟨p, q, hA0, hV, rfl, hfz, hnd⟩ := hW
  have hA : DataW.TrodAll enc Try.prog W 0 (fun _ => true) true Try.f3.params.toList args.toList ds p := hA0
  rw [Try.params3] at hA hval
  obtain ⟨v0, vs0, d0, ds0, p0, q0, hargs, rfl, rfl, h0, r0⟩ := trodAll_cons hA
  obtain ⟨v1, vs1, d1, ds1, p1, q1, rfl, rfl, rfl, h1, r1⟩ := trodAll_cons r0
  obtain ⟨rfl, rfl, rfl⟩ := trodAll_nil r1
  obtain rfl : args = #[v0, v1] := by cases args; simp_all
  obtain ⟨rfl, rfl⟩ := trodVars_none hV
  obtain ⟨a0, rfl, rfl, rfl, w0⟩ := open_int Try.underlying3 (hval 0 3 v0 rfl rfl) h0
  have bd0 := bounds_i64 w0
  obtain ⟨a1, len1, cap1, rfl⟩ := okWide_slice Try.underlying22 (hval 1 22 v1 rfl rfl)
  have k1 := h1
  have lt1 : ∀ x ∈ p1, x.block < W.heap.size := by obtain ⟨m, hm⟩ := k1; exact DataW.trod_lt m _ _ _ hm
  obtain ⟨K1, A1, M1, B1, b1⟩ : ∃ K A M B, Ops3 W a1 len1 K A M B := by
    obtain ⟨fuel, hf⟩ := h1
    exact ops3_open hf
  clear hA0 hval0
  refine (Ref.plays_any W a0 bd0.1 bd0.2 a1 len1 cap1 K1 A1 M1 B1 b1).mono fun e W' ⟨he, on⟩ => ?_
  subst he
  have bel : Below W.heap.size W W' := on.below (Nat.le_refl _) (by simp)
  exact ⟨_, rfl, _, _, _, [], _, [], hW', trodAll_mk1 (shut_bool Try.underlying4 _), (trodAll_cons_mk (shut_int Try.underlying3 w0) (trodAll_cons_mk (Below.trod laidK (by kernel_rfl) (of_decide_eq_true (by kernel_rfl)) k1 bel lt1) trodAll_mk0)), rfl, bel.frame _, fun h => by cases h⟩

theorem cachePlays_holds : Rows.CachePlaysSaid :=
  OpenClaim.holds_of_wide 3 Try.f3 rfl rfl rfl rfl rfl rfl rfl ⟨rfl, rfl, rfl, rfl, rfl⟩ rfl rfl rfl rfl rfl (by kernel_rfl) Try.func3 (by kernel_rfl)
    (of_decide_eq_true (by kernel_rfl)) (by unfold Func.isWrapper; first | (rw [if_pos (by decide +kernel)]; kernel_rfl) | (rw [if_neg (by decide +kernel)]; exact ⟨rfl, rfl⟩))
    (fun os started H enc _ => cachePlays_lifted os started H enc)
#print axioms cachePlays_holds
end Go.Proofs.Ytoccnaebckcfmaa
end
