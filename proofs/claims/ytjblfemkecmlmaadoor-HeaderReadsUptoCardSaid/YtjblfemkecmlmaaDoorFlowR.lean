/- A region that draws its order, walked once in the order of its text, where what a call does is known by its contract alone. -/
import Derived.Test.YtjblfemkecmlmaaDoorFlow
set_option linter.unusedVariables false
namespace Go.Proofs.YtjblfemkecmlmaaDoor
open Go.RowKit

/-- In the order of the text; an operation of kind 2 or 3 may be a call of which the contract alone is known. -/
def wpFlowR (P : Program) (ops : Array Oper) (L : World → World → Prop) (K : Act → World → Prop) : List Nat → List Oper → Act → World → Prop
  | _, [], a, w => K a w
  | ks, o :: r, a, w =>
    (∃ v w', OneStep P ops L (ks.headD 3) o a w v w' ∧ wpFlowR P ops L K ks.tail r (a.put o.dst v) w') ∨
    (2 ≤ ks.headD 3 ∧ Region.wanted o (yielded ops a.tmps) = true ∧ ∃ f args, (execOp a.eval o).run P w = .ok (.enter f args) w ∧
      Calls P f args w (fun e w' => ∃ v, e = .returned v ∧ (ks.headD 3 = 2 → L w w') ∧ wpFlowR P ops L K ks.tail r (a.put o.dst v) w'))

/-- What has come up ahead of operation m. -/
structure Hist (P : Program) (L : World → World → Prop) (ks : List Nat) (l : List Oper) (m : Nat) (A : Nat → Act) (W : Nat → World) (v : Nat → Value) : Prop where
  act : ∀ i o, i < m → l[i]? = some o → A (i + 1) = (A i).put o.dst (v i)
  read : ∀ i o, i < m → l[i]? = some o → ¬ 2 ≤ ks.getD i 3 → OneStep P l.toArray L (ks.getD i 3) o (A i) (W i) (v i) (W (i + 1))
  mild : ∀ i, i < m → ks.getD i 3 = 2 → L (W i) (W (i + 1))

section
variable {P : Program} {L : World → World → Prop} {ks : List Nat} {l : List Oper} {A : Nat → Act} {W : Nat → World} {v : Nat → Value} {m : Nat}

theorem Hist.size (t : Hist P L ks l m A W v) (hml : m ≤ l.length) : ∀ i, i ≤ m → (A i).tmps.size = (A 0).tmps.size ∧ (A i).defers = (A 0).defers
  | 0, _ => ⟨rfl, rfl⟩
  | i + 1, h => by
    obtain ⟨o, ho⟩ : ∃ o, l[i]? = some o := ⟨l[i], List.getElem?_eq_getElem (by omega)⟩
    obtain ⟨h1, h2⟩ := t.size hml i (by omega)
    rw [t.act i o (by omega) ho]
    cases hd : o.dst with
    | none => exact ⟨h1, h2⟩
    | some d => exact ⟨by simpa [Act.put] using h1, h2⟩

theorem Hist.between (t : Hist P L ks l m A W v) (hml : m ≤ l.length) (x : Nat) (i : Nat) : ∀ d, i + d ≤ m → (∀ j, i ≤ j → j < i + d → fDst l j ≠ some x) → (A (i + d)).tmps[x]? = (A i).tmps[x]?
  | 0, _, _ => rfl
  | d + 1, h, hn => by
    have ih := t.between hml x i d (by omega) (fun j h1 h2 => hn j h1 (by omega))
    obtain ⟨o, ho⟩ : ∃ o, l[i + d]? = some o := ⟨l[i + d], List.getElem?_eq_getElem (by omega)⟩
    have hd := hn (i + d) (by omega) (by omega)
    rw [show i + (d + 1) = (i + d) + 1 by omega, t.act (i + d) o (by omega) ho, ← ih]
    simp only [fDst, ho, Option.bind_some] at hd
    cases he : o.dst with
    | none => rfl
    | some y =>
      have : y ≠ x := fun e => hd (by rw [he, e])
      simp [Act.put, Array.getElem?_setIfInBounds_ne this]

theorem Hist.later (t : Hist P L ks l m A W v) (hml : m ≤ l.length) (hr : ∀ w, L w w) (htr : ∀ a b c, L a b → L b c → L a c) (i : Nat) : ∀ d, i + d ≤ m → (∀ j, i ≤ j → j < i + d → ¬ 3 ≤ ks.getD j 3) → L (W i) (W (i + d))
  | 0, _, _ => hr _
  | d + 1, h, hn => by
    have ih := t.later hml hr htr i d (by omega) (fun j h1 h2 => hn j h1 (by omega))
    obtain ⟨o, ho⟩ : ∃ o, l[i + d]? = some o := ⟨l[i + d], List.getElem?_eq_getElem (by omega)⟩
    have hk := hn (i + d) (by omega) (by omega)
    rw [show i + (d + 1) = (i + d) + 1 by omega]
    refine htr _ _ _ ih ?_
    by_cases h2 : ks.getD (i + d) 3 = 2
    · exact t.mild (i + d) (by omega) h2
    · have hs := t.read (i + d) o (by omega) ho (by omega)
      rcases hs with ⟨_, hs⟩ | ⟨_, _, hs⟩
      case inr => rw [hs]; exact hr _
      revert hs
      generalize ks.getD (i + d) 3 = k at *
      match k, hk, h2 with
      | 0, _, _ => exact fun hs => by rw [hs.1]; exact hr _
      | 1, _, _ => exact fun hs => by rw [hs.1]; exact hr _
      | 2, _, h2 => exact absurd rfl h2
      | n + 3, hk, _ => exact absurd (by omega) hk

/-- A state on some way through the region: m is the next operation that changes the world. -/
structure RInv (P : Program) (L : World → World → Prop) (K : Act → World → Prop) (l : List Oper) (ks : List Nat) (D : Nat → Prop) (a : Act) (w : World) (m : Nat) (A : Nat → Act) (W : Nat → World) (v : Nat → Value) : Prop where
  le : m ≤ l.length
  hist : Hist P L ks l m A W v
  node : wpFlowR P l.toArray L K (ks.drop m) (l.drop m) (A m) (W m)
  next : m = l.length ∨ 2 ≤ ks.getD m 3
  world : w = W m
  closed : Closed l D
  dom : ∀ i, D i → i < m
  eff : ∀ e, e < m → 2 ≤ ks.getD e 3 → D e
  size : a.tmps.size = (A 0).tmps.size
  defers : a.defers = (A 0).defers
  done : ∀ j x, D j → fDst l j = some x → a.tmps[x]? = (A m).tmps[x]?
  rest : ∀ x, (∀ j, D j → fDst l j ≠ some x) → a.tmps[x]? = (A 0).tmps[x]?

theorem headD_drop (ks : List Nat) (m : Nat) : (ks.drop m).headD 3 = ks.getD m 3 := by
  rw [List.headD_eq_head?_getD, List.head?_drop, List.getD_eq_getElem?_getD]

/-- On to the next operation that changes the world. -/
theorem advance {K : Act → World → Prop} : ∀ (d m : Nat) (A : Nat → Act) (W : Nat → World) (v : Nat → Value), l.length - m = d → m ≤ l.length → Hist P L ks l m A W v → wpFlowR P l.toArray L K (ks.drop m) (l.drop m) (A m) (W m) →
    ∃ m' A' W' v', m ≤ m' ∧ m' ≤ l.length ∧ Hist P L ks l m' A' W' v' ∧ wpFlowR P l.toArray L K (ks.drop m') (l.drop m') (A' m') (W' m') ∧ (m' = l.length ∨ 2 ≤ ks.getD m' 3) ∧ (∀ i, i ≤ m → A' i = A i) ∧ (∀ e, m ≤ e → e < m' → ¬ 2 ≤ ks.getD e 3) ∧ W' m' = W m
  | 0, m, A, W, v, hd, hm, ht, hn => ⟨m, A, W, v, Nat.le_refl _, hm, ht, hn, .inl (by omega), fun _ _ => rfl, fun e h1 h2 => absurd h2 (by omega), rfl⟩
  | d + 1, m, A, W, v, hd, hm, ht, hn => by
    by_cases hk : 2 ≤ ks.getD m 3
    · exact ⟨m, A, W, v, Nat.le_refl _, hm, ht, hn, .inr hk, fun _ _ => rfl, fun e h1 h2 => absurd h2 (by omega), rfl⟩
    · have hlt : m < l.length := by omega
      rw [List.drop_eq_getElem_cons hlt] at hn
      unfold wpFlowR at hn
      rw [headD_drop] at hn
      rcases hn with ⟨u, w', h1, h2⟩ | ⟨h1, _⟩
      case inr => exact absurd h1 hk
      rw [List.tail_drop] at h2
      have hww : w' = W m := by
        rcases h1 with ⟨_, hs⟩ | ⟨_, _, hs⟩
        case inr => exact hs
        revert hs
        generalize ks.getD m 3 = k at *
        match k, hk with
        | 0, _ => exact fun hs => hs.1
        | 1, _ => exact fun hs => hs.1
        | n + 2, hk => exact absurd (by omega) hk
      have ho : l[m]? = some l[m] := List.getElem?_eq_getElem hlt
      have key := advance d (m + 1) (fun i => if i = m + 1 then (A m).put l[m].dst u else A i) (fun i => if i = m + 1 then w' else W i) (fun i => if i = m then u else v i) (by omega) (by omega)
        ⟨fun i o hi hoi => by
            by_cases him : i = m
            · subst him
              rw [ho] at hoi
              cases hoi
              simp
            · have h1 : i ≠ m := him
              simp only [show ¬ (i + 1 = m + 1) by omega, show ¬ (i = m + 1) by omega, if_false, him]
              exact ht.act i o (by omega) hoi,
          fun i o hi hoi hki => by
            by_cases him : i = m
            · subst him
              rw [ho] at hoi
              cases hoi
              simp only [show ¬ (i = i + 1) by omega, if_false, if_true]
              exact h1
            · simp only [show ¬ (i + 1 = m + 1) by omega, show ¬ (i = m + 1) by omega, if_false, him]
              exact ht.read i o (by omega) hoi hki,
          fun i hi hki => by
            by_cases him : i = m
            · subst him; omega
            · simp only [show ¬ (i + 1 = m + 1) by omega, show ¬ (i = m + 1) by omega, if_false]
              exact ht.mild i (by omega) hki⟩
        (by simpa using h2)
      obtain ⟨m', A', W', v', e1, e2, e3, e4, e5, e6, e7, e8⟩ := key
      refine ⟨m', A', W', v', by omega, e2, e3, e4, e5, fun i hi => ?_, fun e h1 h2 => ?_, ?_⟩
      · rw [e6 i (by omega), if_neg (by omega)]
      · by_cases hem : e = m
        · subst hem; exact hk
        · exact e7 e (by omega) h2
      · rw [e8, if_pos rfl, hww]

theorem rInv_fits {K : Act → World → Prop} {D : Nat → Prop} {a : Act} {w : World} (hok : FlowOk l ks) (inv : RInv P L K l ks D a w m A W v) {i : Nat} {o : Oper} (ho : l[i]? = some o) (him : i ≤ m) (hf : Fits l D i) (hnd : ¬ D i) :
    execOp a.eval o = execOp (A i).eval o ∧ Region.wanted o (yielded l.toArray a.tmps) = Region.wanted o (yielded l.toArray (A i).tmps) := by
  have hlt : i < l.length := (List.getElem?_eq_some_iff.1 ho).1
  have hml := inv.le
  have dom : ∀ k, D k → k < l.length := fun k hk => Nat.lt_of_lt_of_le (inv.dom k hk) hml
  have same : ∀ x ∈ o.looksAt l.toArray, a.tmps[x]? = (A i).tmps[x]? := by
    intro x hx
    by_cases hex : ∃ j, j < l.length ∧ fDst l j = some x
    · obtain ⟨j, hj, hjx⟩ := hex
      rcases hok.look D inv.closed i o x j ho hx hj hjx with ⟨h1, h2⟩ | ⟨h1, h2⟩
      case inr =>
        have hnj : ¬ D j := fun hD => hnd (h2 (fun oj hoj e he hb => inv.closed j oj hoj hD e he hb))
        have honly : ∀ k, k < l.length → fDst l k = some x → k = j := fun k hk hkx => by
          rcases Nat.lt_trichotomy k j with h | h | h
          · exact absurd hkx (hok.one j k x hj h hjx)
          · exact h
          · exact absurd hjx (hok.one k j x hk h hkx)
        rw [inv.rest x (fun k hk hkx => hnj (honly k (dom k hk) hkx ▸ hk))]
        have := inv.hist.between hml x 0 i (by omega) (fun k _ hk2 hkx => by have := honly k (by omega) hkx; omega)
        rw [Nat.zero_add] at this
        exact this.symm
      rw [inv.done j x (h2 hf) hjx]
      have := inv.hist.between hml x i (m - i) (by omega) (fun k hk1 hk2 hkx => hok.one k j x (by omega) (by omega) hkx hjx)
      rw [show i + (m - i) = m by omega] at this
      exact this
    · have hno : ∀ j, j < l.length → fDst l j ≠ some x := fun j hj e => hex ⟨j, hj, e⟩
      rw [inv.rest x (fun j hj => hno j (dom j hj))]
      have := inv.hist.between hml x 0 i (by omega) (fun k _ hk2 => hno k (by omega))
      rw [Nat.zero_add] at this
      exact this.symm
  constructor
  · refine execOp_congr o (fun cs b => Region.noSelect_spec hok.sel i o cs b (by simpa using ho)) (fun x hx => ?_)
    cases x with
    | tmp y =>
      have := same y (List.mem_append_left _ (List.mem_filterMap.2 ⟨.tmp y, by simpa using hx, rfl⟩))
      simp [Act.eval, this]
    | _ => rfl
  · unfold Region.wanted
    cases hg : o.guard with
    | none => rfl
    | some gw =>
      obtain ⟨g, b⟩ := gw
      simp only
      congr 1
      unfold yielded
      cases hd : (l.toArray[g]?).bind (·.dst) with
      | none => rfl
      | some y =>
        have := same y (List.mem_append_right _ (by simp only [hg]; rw [hd]; simp))
        simp only [Option.bind_some, this]

/-- One operation more has come up; the history goes on to m'. -/
theorem rInv_step {K : Act → World → Prop} {D D' : Nat → Prop} {a : Act} {w w' : World} {m' : Nat} {A' : Nat → Act} {W' : Nat → World} {v' : Nat → Value} (hok : FlowOk l ks) (inv : RInv P L K l ks D a w m A W v) {i : Nat} {o : Oper} {u : Value} (ho : l[i]? = some o) (hf : Fits l D i) (hnd : ¬ D i)
    (hD' : ∀ j, D' j ↔ D j ∨ j = i) (hmm : m ≤ m') (him : i < m') (hle : m' ≤ l.length) (ht : Hist P L ks l m' A' W' v') (hn : wpFlowR P l.toArray L K (ks.drop m') (l.drop m') (A' m') (W' m')) (hnx : m' = l.length ∨ 2 ≤ ks.getD m' 3) (hA : ∀ j, j ≤ m → A' j = A j)
    (hu : A' (i + 1) = (A' i).put o.dst u) (hw : w' = W' m') (heff : ∀ e, e < m' → 2 ≤ ks.getD e 3 → D' e) : RInv P L K l ks D' (a.put o.dst u) w' m' A' W' v' := by
  have hlt : i < l.length := (List.getElem?_eq_some_iff.1 ho).1
  have hml := inv.le
  have h0 : A' 0 = A 0 := hA 0 (by omega)
  refine ⟨hle, ht, hn, hnx, hw, ?_, ?_, heff, ?_, ?_, ?_, ?_⟩
  · intro j oj hoj hj e he hb
    rw [hD'] at hj ⊢
    rcases hj with hj | rfl
    · exact .inl (inv.closed j oj hoj hj e he hb)
    · exact .inl (hf oj hoj e he hb)
  · intro j hj
    rcases (hD' j).1 hj with hj | rfl
    · exact Nat.lt_of_lt_of_le (inv.dom j hj) hmm
    · exact him
  · rw [h0, ← inv.size]
    cases o.dst <;> simp [Act.put]
  · rw [h0, ← inv.defers]
    cases o.dst <;> rfl
  · intro j x hj hx
    have hfi : ∀ y, o.dst = some y → fDst l i = some y := fun y hy => by simp [fDst, ho, hy]
    rcases (hD' j).1 hj with hj | rfl
    · have hjm := inv.dom j hj
      have hne : o.dst ≠ some x := fun e => by
        have h1 := hfi x e
        rcases Nat.lt_trichotomy i j with h | h | h
        · exact hok.one j i x (by omega) h hx h1
        · subst h; exact hnd hj
        · exact hok.one i j x hlt h h1 hx
      have h2 := ht.between hle x m (m' - m) (by omega) (fun k hk1 hk2 hkx => hok.one k j x (by omega) (by omega) hkx hx)
      rw [show m + (m' - m) = m' by omega, hA m (Nat.le_refl _)] at h2
      rw [h2, ← inv.done j x hj hx]
      cases hd : o.dst with
      | none => rfl
      | some y =>
        have : y ≠ x := fun e => hne (by rw [hd, e])
        simp [Act.put, Array.getElem?_setIfInBounds_ne this]
    · have hd : o.dst = some x := by simpa [fDst, ho] using hx
      have h2 := ht.between hle x (j + 1) (m' - (j + 1)) (by omega) (fun k hk1 hk2 hkx => hok.one k j x (by omega) (by omega) hkx hx)
      rw [show j + 1 + (m' - (j + 1)) = m' by omega, hu] at h2
      rw [h2]
      have hsz := (ht.size hle j (by omega)).1
      simp only [hd, Act.put, Array.getElem?_setIfInBounds, inv.size, hsz, h0]
      by_cases hx' : x < (A 0).tmps.size
      · simp [hx']
      · simp [hx']
  · intro x hx
    have h1 := inv.rest x (fun j hj => hx j ((hD' j).2 (.inl hj)))
    have h2 := hx i ((hD' i).2 (.inr rfl))
    rw [h0, ← h1]
    cases hd : o.dst with
    | none => rfl
    | some y =>
      have : y ≠ x := fun e => h2 (by simp [fDst, ho, hd, e])
      simp [Act.put, Array.getElem?_setIfInBounds_ne this]

theorem flow_anyR {Q : Exit → Act → World → Prop} (hok : FlowOk l ks) (hr : ∀ w, L w w) (htr : ∀ a b c, L a b → L b c → L a c) :
    ∀ (fuel : Nat) (listed : Array Bool) (a : Act) (w : World), listed.size = l.length → listed.toList.count false ≤ fuel → (∃ m A W v, RInv P L (fun a w => Q .normal a w) l ks (fun i => listed.getD i false = true) a w m A W v) → wpAny P .any l.toArray Q fuel listed a w := by
  intro fuel
  have fin : ∀ (listed : Array Bool) (a : Act) (w : World), listed.size = l.length → (∃ m A W v, RInv P L (fun a w => Q .normal a w) l ks (fun i => listed.getD i false = true) a w m A W v) → Region.ready .any l.toArray listed = [] → Q .normal a w := by
    rintro listed a w hsz ⟨m, A, W, v, inv⟩ hrd
    have all : ∀ i, i < l.length → listed.getD i false = true := by
      intro i
      induction i using Nat.strongRecOn with
      | _ i ih =>
        intro hi
        cases hli : listed.getD i false with
        | true => rfl
        | false =>
          exfalso
          have hm : i ∈ Region.ready .any l.toArray listed := by
            rw [mem_ready]
            refine ⟨?_, l[i], by simp [hi], fun e he hb => ?_⟩
            · have hi' : i < listed.size := by omega
              simp [Array.getD, hi'] at hli ⊢
              exact hli
            · have hlt := hok.less i l[i] (List.getElem?_eq_getElem hi) e he hb
              exact ih e.on hlt (by omega)
          rw [hrd] at hm
          cases hm
    have hml : m = l.length := by
      have := inv.le
      rcases Nat.lt_or_ge m l.length with h | h
      · exact absurd (inv.dom m (all m h)) (by omega)
      · omega
    subst hml
    have ha : a = A l.length := by
      have hs := inv.hist.size (Nat.le_refl _) l.length (Nat.le_refl _)
      have htm : a.tmps = (A l.length).tmps := by
        apply Array.ext_getElem?
        intro x
        by_cases hex : ∃ j, j < l.length ∧ fDst l j = some x
        · obtain ⟨j, hj, hjx⟩ := hex
          exact inv.done j x (all j hj) hjx
        · have hno : ∀ j, j < l.length → fDst l j ≠ some x := fun j hj e => hex ⟨j, hj, e⟩
          rw [inv.rest x (fun j hj => hno j (inv.dom j hj))]
          have := inv.hist.between (Nat.le_refl _) x 0 l.length (by omega) (fun k _ hk2 => hno k (by omega))
          rw [Nat.zero_add] at this
          exact this.symm
      have hdf : a.defers = (A l.length).defers := inv.defers.trans hs.2.symm
      cases ha : a
      cases hb : A l.length
      simp_all
    have hn := inv.node
    rw [List.drop_length] at hn
    unfold wpFlowR at hn
    rw [ha, inv.world]
    exact hn
  induction fuel with
  | zero =>
    intro listed a w hsz hc inv
    have hrd : Region.ready .any l.toArray listed = [] := by
      cases hr' : Region.ready .any l.toArray listed with
      | nil => rfl
      | cons i r =>
        exfalso
        have hm : i ∈ Region.ready .any l.toArray listed := by rw [hr']; simp
        obtain ⟨h1, o, ho, _⟩ := mem_ready.1 hm
        have hi : i < listed.size := by
          rw [hsz]
          have := (Array.getElem?_eq_some_iff.1 ho).1
          simpa using this
        have hf : listed[i] = false := by simpa [Array.getD, hi] using h1
        have : 0 < listed.toList.count false := List.count_pos_iff.2 (by rw [← hf]; simp)
        omega
    exact ⟨hrd, fin listed a w hsz inv hrd⟩
  | succ fuel ih =>
    intro listed a w hsz hc inv0
    refine ⟨fun hrd => fin listed a w hsz inv0 hrd, fun i hi => ?_⟩
    obtain ⟨m, A, W, v, inv⟩ := inv0
    obtain ⟨h1, o, ho', hall⟩ := mem_ready.1 hi
    have ho : l[i]? = some o := by simpa using ho'
    have hlt : i < l.length := (List.getElem?_eq_some_iff.1 ho).1
    have hil : i < listed.size := by omega
    have hlf : listed[i] = false := by simpa [Array.getD, hil] using h1
    have hnd : ¬ listed.getD i false = true := by simp [Array.getD, hil, hlf]
    have hf : Fits l (fun i => listed.getD i false = true) i := fun o' ho'' e he hb => by
      rw [ho] at ho''
      cases ho''
      exact hall e he hb
    have hD' : ∀ j, (listed.setIfInBounds i true).getD j false = true ↔ listed.getD j false = true ∨ j = i := by
      intro j
      by_cases hj : j = i
      · subst hj; simp [Array.getD, hil]
      · have : i ≠ j := fun e => hj e.symm
        simp only [hj, or_false]
        by_cases hjs : j < listed.size
        · simp [Array.getD, hjs, Array.getElem_setIfInBounds_ne, this]
        · simp [Array.getD, hjs]
    have hcnt : (listed.setIfInBounds i true).toList.count false ≤ fuel := by
      rw [Array.toList_setIfInBounds, List.count_set (by simpa using hil)]
      have : listed.toList[i]'(by simpa using hil) = false := by simpa using hlf
      rw [this]
      simp only [show (true == false) = false from rfl, Bool.false_eq_true, if_false, beq_self_eq_true, if_true]
      omega
    -- it is the next one that changes the world, or one ahead of it
    have him : i ≤ m := by
      rcases Nat.lt_or_ge m i with h | h
      · rcases inv.next with h2 | h2
        · omega
        · exact absurd (inv.dom m (hok.eff _ inv.closed i m hlt h h2 hf)) (by omega)
      · exact h
    obtain ⟨hex, hwant⟩ := rInv_fits hok inv ho him hf hnd
    unfold wpOp
    rw [ho']
    simp only [hwant]
    rcases Nat.lt_or_ge i m with hi2 | hi2
    · -- it only reads
      have hk : ¬ 2 ≤ ks.getD i 3 := fun hk => hnd (inv.eff i hi2 hk)
      have go : wpAny P .any l.toArray Q fuel (listed.setIfInBounds i true) (a.put o.dst (v i)) w :=
        ih _ _ _ (by simpa using hsz) hcnt ⟨m, A, W, v, rInv_step hok inv ho hf hnd hD' (Nat.le_refl _) hi2 inv.le inv.hist inv.node inv.next (fun _ _ => rfl) (inv.hist.act i o hi2 ho) inv.world (fun e he hke => (hD' e).2 (.inl (inv.eff e he hke)))⟩
      have hstep := inv.hist.read i o hi2 ho hk
      rcases hstep with ⟨hwt, hstep⟩ | ⟨hwt, hv, hsame⟩
      case inr =>
        rw [if_neg (by simp [hwt]), ← hv]
        exact go
      rw [if_pos hwt]
      refine .inl ?_
      unfold Oper.wp
      rw [hex]
      have hdoes : Does P o (A i) w (v i) w := by
        have hlat : ks.getD i 3 = 1 → L (W i) w := by
          intro hk1
          rw [inv.world]
          have := inv.hist.later inv.le hr htr i (m - i) (by omega) (fun j h1 h2 hkj => by
            have hji : i < j := by
              rcases Nat.lt_or_ge i j with h | h
              · exact h
              · have : j = i := by omega
                subst this
                omega
            have hDj := inv.eff j (by omega) (by omega)
            have hfj : Fits l (fun i => listed.getD i false = true) j := fun oj hoj e he hb => inv.closed j oj hoj hDj e he hb
            exact hnd (hok.hard _ inv.closed j i (by have := inv.le; omega) hji hkj hk1 hfj))
          rw [show i + (m - i) = m by omega] at this
          exact this
        revert hstep hlat
        generalize ks.getD i 3 = k at *
        match k, hk with
        | 0, _ => exact fun hs _ => .inl (hs.2 w)
        | 1, _ => exact fun hs hl => hs.2 w (hl rfl)
        | n + 2, hk => exact absurd (by omega) hk
      rcases hdoes with hd | ⟨hd, hv⟩ | ⟨f, args, hd, hcall⟩
      · rw [hd]; exact go
      · rw [hd]
        have := go
        rw [hv] at this
        exact this
      · rw [hd]
        refine hcall.mono ?_
        rintro e w'' ⟨rfl, rfl⟩
        exact go
    · -- it changes the world
      have him' : i = m := by omega
      subst him'
      have hk : 2 ≤ ks.getD i 3 := by
        rcases inv.next with h | h
        · omega
        · exact h
      have hn := inv.node
      rw [List.drop_eq_getElem_cons hlt] at hn
      have hoi : l[i] = o := by
        have := List.getElem?_eq_getElem hlt
        rw [ho] at this
        exact (Option.some.inj this).symm
      rw [hoi] at hn
      unfold wpFlowR at hn
      rw [headD_drop, List.tail_drop] at hn
      have go : ∀ u w', (ks.getD i 3 = 2 → L w w') → wpFlowR P l.toArray L (fun a w => Q .normal a w) (ks.drop (i + 1)) (l.drop (i + 1)) ((A i).put o.dst u) w' → wpAny P .any l.toArray Q fuel (listed.setIfInBounds i true) (a.put o.dst u) w' := by
        intro u w' hL hnode
        have ht : Hist P L ks l (i + 1) (fun j => if j = i + 1 then (A i).put o.dst u else A j) (fun j => if j = i + 1 then w' else W j) (fun j => if j = i then u else v j) :=
          ⟨fun j oj hj hoj => by
              by_cases hji : j = i
              · subst hji
                rw [ho] at hoj
                cases hoj
                simp
              · simp only [show ¬ (j + 1 = i + 1) by omega, show ¬ (j = i + 1) by omega, if_false, hji]
                exact inv.hist.act j oj (by omega) hoj,
            fun j oj hj hoj hkj => by
              by_cases hji : j = i
              · subst hji; exact absurd hk hkj
              · simp only [show ¬ (j + 1 = i + 1) by omega, show ¬ (j = i + 1) by omega, if_false, hji]
                exact inv.hist.read j oj (by omega) hoj hkj,
            fun j hj hkj => by
              by_cases hji : j = i
              · subst hji
                simp only [if_true, show ¬ (j = j + 1) by omega, if_false]
                rw [← inv.world]
                exact hL hkj
              · simp only [show ¬ (j + 1 = i + 1) by omega, show ¬ (j = i + 1) by omega, if_false]
                exact inv.hist.mild j (by omega) hkj⟩
        obtain ⟨m', A', W', v', e1, e2, e3, e4, e5, e6, e7, e8⟩ := advance (K := fun a w => Q .normal a w) _ (i + 1) _ _ _ rfl (by omega) ht (by simpa using hnode)
        refine ih _ _ _ (by simpa using hsz) hcnt ⟨m', A', W', v', rInv_step hok inv ho hf hnd hD' (by omega) (by omega) e2 e3 e4 e5 (fun j hj => ?_) ?_ ?_ (fun e he hke => ?_)⟩
        · rw [e6 j (by omega), if_neg (by omega)]
        · rw [e6 (i + 1) (Nat.le_refl _), e6 i (by omega), if_pos rfl, if_neg (by omega)]
        · rw [e8, if_pos rfl]
        · rw [hD']
          rcases Nat.lt_trichotomy e i with h | h | h
          · exact .inl (inv.eff e h hke)
          · exact .inr h
          · exact absurd hke (e7 e (by omega) he)
      rcases hn with ⟨u, w', hone, hnode⟩ | ⟨_, hwt, f, args, hd, hcall⟩
      · rcases hone with ⟨hwt, hstep⟩ | ⟨hwt, hv, hsame⟩
        case inr =>
          rw [if_neg (by simp [hwt])]
          subst hv
          rw [hsame, ← inv.world] at hnode
          exact go _ _ (fun _ => hr _) hnode
        rw [if_pos hwt]
        refine .inl ?_
        unfold Oper.wp
        rw [hex]
        have hdoes : Does P o (A i) (W i) u w' ∧ (ks.getD i 3 = 2 → L (W i) w') := by
          revert hstep
          generalize ks.getD i 3 = k at *
          match k, hk with
          | 2, _ => exact fun hs => ⟨hs.2, fun _ => hs.1⟩
          | n + 3, _ => exact fun hs => ⟨hs, fun h => absurd h (by omega)⟩
        obtain ⟨hdoes, hL⟩ := hdoes
        rw [← inv.world] at hdoes hL
        rcases hdoes with hd | ⟨hd, hv⟩ | ⟨f, args, hd, hcall⟩
        · rw [hd]; exact go _ _ hL hnode
        · rw [hd]
          have := go _ _ hL hnode
          rw [hv] at this
          exact this
        · rw [hd]
          refine hcall.mono ?_
          rintro e w'' ⟨rfl, rfl⟩
          exact go _ _ hL hnode
      · rw [if_pos hwt]
        refine .inl ?_
        unfold Oper.wp
        rw [hex]
        rw [← inv.world] at hd hcall
        rw [hd]
        refine hcall.mono ?_
        rintro e w'' ⟨u, rfl, hL, hnode⟩
        exact go _ _ hL hnode

/-- A region that draws its order, gone through in the order of its text. -/
theorem wp_region_flowR {Q : Exit → Act → World → Prop} {id : Nat} {a : Act} {w : World} (L : World → World → Prop) (ks : List Nat) (hm : P.follows .mixedOrders = true) (hB : flowB l ks = true) (hr : ∀ w, L w w) (htr : ∀ a b c, L a b → L b c → L a c)
    (h : wpFlowR P l.toArray L (fun a w => Q .normal a w) ks l a w.drew) : (Code.region id l.toArray true).wp P Q a w := by
  have hok := flowOk_of hB
  refine wp_region_any hm ?_
  have hnone : ∀ i, (Array.replicate l.toArray.size false).getD i false = false := fun i => by
    by_cases hi : i < l.toArray.size
    · simp [Array.getD]
    · simp [Array.getD]
  obtain ⟨m, A, W, v, e1, e2, e3, e4, e5, e6, e7, e8⟩ := advance (P := P) (L := L) (ks := ks) (l := l) (K := fun a w => Q .normal a w) _ 0 (fun _ => a) (fun _ => w.drew) (fun _ => undef) rfl (Nat.zero_le _) ⟨fun i o hi => absurd hi (by omega), fun i o hi => absurd hi (by omega), fun i hi => absurd hi (by omega)⟩ (by simpa using h)
  have h0 : A 0 = a := e6 0 (Nat.le_refl _)
  refine flow_anyR hok hr htr l.toArray.size (Array.replicate l.toArray.size false) a w.drew (by simp) (by simp) ⟨m, A, W, v, e2, e3, e4, e5, e8.symm, fun i o _ hi => ?_, fun i hi => ?_, fun e he hke => absurd hke (e7 e (by omega) he), by rw [h0], by rw [h0], fun j x hj => ?_, fun x _ => by rw [h0]⟩
  · rw [hnone] at hi; cases hi
  · rw [hnone] at hi; cases hi
  · rw [hnone] at hj; cases hj

variable {ops : Array Oper} {K : Act → World → Prop} {r : List Oper} {o : Oper} {a : Act} {w : World}

theorem fr0 {u : Value} (hw : Region.wanted o (yielded ops a.tmps) = true) (hrun : ∀ x, (execOp a.eval o).run P x = .ok (.value u) x) (h : wpFlowR P ops L K ks r (a.put o.dst u) w) : wpFlowR P ops L K (0 :: ks) (o :: r) a w :=
  .inl ⟨u, w, .inl ⟨hw, rfl, hrun⟩, h⟩
theorem fr1 {u : Value} (hw : Region.wanted o (yielded ops a.tmps) = true) (hrun : ∀ x, L w x → (execOp a.eval o).run P x = .ok (.value u) x) (h : wpFlowR P ops L K ks r (a.put o.dst u) w) : wpFlowR P ops L K (1 :: ks) (o :: r) a w :=
  .inl ⟨u, w, .inl ⟨hw, rfl, fun x hx => .inl (hrun x hx)⟩, h⟩
theorem fr1c {u : Value} (hw : Region.wanted o (yielded ops a.tmps) = true) (hrun : ∀ x, L w x → Does P o a x u x) (h : wpFlowR P ops L K ks r (a.put o.dst u) w) : wpFlowR P ops L K (1 :: ks) (o :: r) a w :=
  .inl ⟨u, w, .inl ⟨hw, rfl, hrun⟩, h⟩
theorem fr2 {u : Value} {w' : World} (hw : Region.wanted o (yielded ops a.tmps) = true) (hL : L w w') (hd : Does P o a w u w') (h : wpFlowR P ops L K ks r (a.put o.dst u) w') : wpFlowR P ops L K (2 :: ks) (o :: r) a w :=
  .inl ⟨u, w', .inl ⟨hw, hL, hd⟩, h⟩
theorem fr3 {u : Value} {w' : World} (hw : Region.wanted o (yielded ops a.tmps) = true) (hd : Does P o a w u w') (h : wpFlowR P ops L K ks r (a.put o.dst u) w') : wpFlowR P ops L K (3 :: ks) (o :: r) a w :=
  .inl ⟨u, w', .inl ⟨hw, hd⟩, h⟩
/-- A call whose contract alone is known, and which leaves what is there. -/
theorem fr2c {f : FuncId} {args : Array Value} {R : Ending → World → Prop} (hw : Region.wanted o (yielded ops a.tmps) = true) (hd : (execOp a.eval o).run P w = .ok (.enter f args) w) (hc : Calls P f args w R) (h : ∀ e w', R e w' → ∃ u, e = .returned u ∧ L w w' ∧ wpFlowR P ops L K ks r (a.put o.dst u) w') : wpFlowR P ops L K (2 :: ks) (o :: r) a w :=
  .inr ⟨Nat.le_refl _, hw, f, args, hd, hc.mono fun e w' hR => by
    obtain ⟨u, h1, h2, h3⟩ := h e w' hR
    exact ⟨u, h1, fun _ => h2, h3⟩⟩
/-- A call whose contract alone is known. -/
theorem fr3c {f : FuncId} {args : Array Value} {R : Ending → World → Prop} (hw : Region.wanted o (yielded ops a.tmps) = true) (hd : (execOp a.eval o).run P w = .ok (.enter f args) w) (hc : Calls P f args w R) (h : ∀ e w', R e w' → ∃ u, e = .returned u ∧ wpFlowR P ops L K ks r (a.put o.dst u) w') : wpFlowR P ops L K (3 :: ks) (o :: r) a w :=
  .inr ⟨by show 2 ≤ 3; omega, hw, f, args, hd, hc.mono fun e w' hR => by
    obtain ⟨u, h1, h3⟩ := h e w' hR
    exact ⟨u, h1, fun h => absurd h (by show ¬ 3 = 2; omega), h3⟩⟩
theorem frx {k : Nat} (hw : Region.wanted o (yielded ops a.tmps) = false) (h : wpFlowR P ops L K ks r (a.put o.dst undef) w) : wpFlowR P ops L K (k :: ks) (o :: r) a w :=
  .inl ⟨undef, w, .inr ⟨hw, rfl, rfl⟩, h⟩
theorem frnil {ks : List Nat} (h : K a w) : wpFlowR P ops L K ks [] a w := by cases ks <;> exact h
end
end Go.Proofs.YtjblfemkecmlmaaDoor
