/- A statement whose order is left open may be gone through in the order of its text: where its reads hold in every later world, and whatever changes the world is waited for by all that stands behind it. -/
import Derived.WalkKit
namespace Go.Proofs.YtjblfemkecmlmaaDoor

def fMask (acc : Array Nat) (o : Oper) : Nat := o.after.toList.foldr (fun e s => if Region.binds .any e then s ||| 2 ^ e.on ||| acc.getD e.on 0 else s) 0
def fMasks : List Oper → Array Nat → Array Nat
  | [], acc => acc
  | o :: r, acc => fMasks r (acc.push (fMask acc o))

def fDst (l : List Oper) (j : Nat) : Option Tmp := (l[j]?).bind (·.dst)

def flowB (l : List Oper) (ks : List Nat) : Bool :=
  let m := fMasks l #[]
  let n := l.length
  Region.noSelect l.toArray &&
  ((List.range n).all fun i =>
    ((match l[i]? with | some o => o.after.toList.all (fun e => !Region.binds .any e || decide (e.on < i)) | none => false)) &&
    ((List.range i).all fun j =>
      (!decide (2 ≤ ks.getD j 3) || (m.getD i 0).testBit j) && (!(decide (3 ≤ ks.getD i 3) && (ks.getD j 3 == 1)) || (m.getD i 0).testBit j) &&
      ((fDst l i).isNone || fDst l i != fDst l j)) &&
    ((match l[i]? with | some o => o.looksAt l.toArray | none => []).all fun t => (List.range n).all fun j => fDst l j != some t || (decide (j < i) && (m.getD i 0).testBit j) || (decide (i < j) && (m.getD j 0).testBit i)))

/-- What a set of operations that have come up is like: whatever one waits for has come up too. -/
def Closed (l : List Oper) (D : Nat → Prop) : Prop := ∀ i o, l[i]? = some o → D i → ∀ e ∈ o.after, Region.binds .any e = true → D e.on
def Fits (l : List Oper) (D : Nat → Prop) (i : Nat) : Prop := ∀ o, l[i]? = some o → ∀ e ∈ o.after, Region.binds .any e = true → D e.on

theorem mask_good {l : List Oper} {D : Nat → Prop} (hc : Closed l D) (acc : Array Nat) (i : Nat) (o : Oper) (ho : l[i]? = some o) (hf : Fits l D i)
    (ha : ∀ k, k < acc.size → Fits l D k → ∀ j, (acc.getD k 0).testBit j = true → D j) : ∀ j, (fMask acc o).testBit j = true → D j := by
  intro j hj
  have hf' := hf o ho
  unfold fMask at hj
  have key : ∀ es : List Edge, (∀ e ∈ es, e ∈ o.after) → (es.foldr (fun e s => if Region.binds .any e then s ||| 2 ^ e.on ||| acc.getD e.on 0 else s) 0).testBit j = true → D j := by
    intro es
    induction es with
    | nil => intro _ h; simp at h
    | cons e es ih =>
      intro hm h
      rw [List.foldr_cons] at h
      split at h
      · rename_i hb
        rw [Nat.testBit_or, Nat.testBit_or, Bool.or_eq_true, Bool.or_eq_true] at h
        have he := hm e (by simp)
        rcases h with (h | h) | h
        · exact ih (fun x hx => hm x (by simp [hx])) h
        · rw [Nat.testBit_two_pow] at h
          have : e.on = j := by simpa using h
          rw [← this]
          exact hf' e he hb
        · by_cases hk : e.on < acc.size
          · exact ha e.on hk (fun oe hoe => hc e.on oe hoe (hf' e he hb)) j h
          · have : acc.getD e.on 0 = 0 := by simp [Array.getD, hk]
            rw [this] at h
            simp at h
      · exact ih (fun x hx => hm x (by simp [hx])) h
  exact key o.after.toList (fun e he => by simpa using he) hj

theorem masks_size : ∀ (r : List Oper) (acc : Array Nat), (fMasks r acc).size = acc.size + r.length
  | [], acc => by simp [fMasks]
  | o :: r, acc => by rw [fMasks, masks_size r]; simp; omega

theorem masks_good {l : List Oper} {D : Nat → Prop} (hc : Closed l D) : ∀ (r : List Oper) (acc : Array Nat), (∀ k, r[k]? = l[acc.size + k]?) →
    (∀ k, k < acc.size → Fits l D k → ∀ j, (acc.getD k 0).testBit j = true → D j) →
    ∀ k, Fits l D k → ∀ j, ((fMasks r acc).getD k 0).testBit j = true → D j
  | [], acc, _, ha, k, hf, j, h => by
    unfold fMasks at h
    by_cases hk : k < acc.size
    · exact ha k hk hf j h
    · have : acc.getD k 0 = 0 := by simp [Array.getD, hk]
      rw [this] at h
      simp at h
  | o :: r, acc, hr, ha, k, hf, j, h => by
    have ho : l[acc.size]? = some o := by simpa using (hr 0).symm
    refine masks_good hc r (acc.push (fMask acc o)) (fun k => ?_) (fun k hk hfk j hj => ?_) k hf j h
    · have := hr (k + 1)
      simp only [List.getElem?_cons_succ] at this
      rw [this, Array.size_push]
      congr 1
      omega
    · rw [Array.size_push] at hk
      by_cases hk' : k < acc.size
      · have e : (acc.push (fMask acc o)).getD k 0 = acc.getD k 0 := by simp [Array.getD, hk', Nat.lt_succ_of_lt hk', Array.getElem_push_lt hk']
        rw [e] at hj
        exact ha k hk' hfk j hj
      · have : k = acc.size := by omega
        subst this
        have e : (acc.push (fMask acc o)).getD acc.size 0 = fMask acc o := by simp [Array.getD]
        rw [e] at hj
        exact mask_good hc acc acc.size o ho hfk ha j hj

/-- The operation does just this. -/
def Does (P : Program) (o : Oper) (a : Act) (w : World) (v : Value) (w' : World) : Prop :=
  (execOp a.eval o).run P w = .ok (.value v) w' ∨ ((execOp a.eval o).run P w = .ok .skip w' ∧ v = undef) ∨
  ∃ f args, (execOp a.eval o).run P w = .ok (.enter f args) w ∧ Calls P f args w (fun e w'' => e = .returned v ∧ w'' = w')

def StepOk (P : Program) (L : World → World → Prop) (k : Nat) (o : Oper) (a : Act) (w : World) (v : Value) (w' : World) : Prop :=
  match k with
  | 0 => w' = w ∧ ∀ x, (execOp a.eval o).run P x = .ok (.value v) x
  | 1 => w' = w ∧ ∀ x, L w x → Does P o a x v x
  | 2 => L w w' ∧ Does P o a w v w'
  | _ => Does P o a w v w'

/-- An operation whose guard says yes does its step; one whose guard says no is passed over. -/
def OneStep (P : Program) (ops : Array Oper) (L : World → World → Prop) (k : Nat) (o : Oper) (a : Act) (w : World) (v : Value) (w' : World) : Prop :=
  (Region.wanted o (yielded ops a.tmps) = true ∧ StepOk P L k o a w v w') ∨ (Region.wanted o (yielded ops a.tmps) = false ∧ v = undef ∧ w' = w)

/-- In the order of the text: 0: in whatever world; 1: in every later world; 2: changes the world to a later one; 3: changes the world. -/
def wpFlow (P : Program) (ops : Array Oper) (L : World → World → Prop) (K : Act → World → Prop) : List Nat → List Oper → Act → World → Prop
  | _, [], a, w => K a w
  | ks, o :: r, a, w => ∃ v w', OneStep P ops L (ks.headD 3) o a w v w' ∧ wpFlow P ops L K ks.tail r (a.put o.dst v) w'

structure Trace (P : Program) (ops : Array Oper) (L : World → World → Prop) (ks : List Nat) (l : List Oper) (A : Nat → Act) (W : Nat → World) (v : Nat → Value) : Prop where
  act : ∀ i o, l[i]? = some o → A (i + 1) = (A i).put o.dst (v i)
  step : ∀ i o, l[i]? = some o → OneStep P ops L (ks.getD i 3) o (A i) (W i) (v i) (W (i + 1))

theorem trace_of {P : Program} {ops : Array Oper} {L : World → World → Prop} {K : Act → World → Prop} : ∀ (l : List Oper) (ks : List Nat) (a : Act) (w : World), wpFlow P ops L K ks l a w →
    ∃ A W v, A 0 = a ∧ W 0 = w ∧ Trace P ops L ks l A W v ∧ K (A l.length) (W l.length)
  | [], ks, a, w, h => ⟨fun _ => a, fun _ => w, fun _ => undef, rfl, rfl, ⟨by simp, by simp⟩, h⟩
  | o :: r, ks, a, w, h => by
    obtain ⟨v, w', h2, h3⟩ := h
    obtain ⟨A, W, u, hA, hW, ht, hK⟩ := trace_of r ks.tail _ _ h3
    refine ⟨fun i => match i with | 0 => a | i + 1 => A i, fun i => match i with | 0 => w | i + 1 => W i, fun i => match i with | 0 => v | i + 1 => u i, rfl, rfl, ⟨?_, ?_⟩, hK⟩
    · intro i o' ho
      cases i with
      | zero => simp at ho; subst ho; exact hA
      | succ i => exact ht.act i o' (by simpa using ho)
    · intro i o' ho
      cases i with
      | zero =>
        simp at ho; subst ho
        show OneStep P ops L (ks.getD 0 3) o a w v (W 0)
        rw [hW]
        cases ks <;> exact h2
      | succ i =>
        have := ht.step i o' (by simpa using ho)
        cases ks <;> exact this

section
variable {P : Program} {L : World → World → Prop} {ks : List Nat} {l : List Oper} {A : Nat → Act} {W : Nat → World} {v : Nat → Value}

theorem Trace.size (t : Trace P l.toArray L ks l A W v) : ∀ i, i ≤ l.length → (A i).tmps.size = (A 0).tmps.size ∧ (A i).defers = (A 0).defers
  | 0, _ => ⟨rfl, rfl⟩
  | i + 1, h => by
    obtain ⟨o, ho⟩ : ∃ o, l[i]? = some o := ⟨l[i], List.getElem?_eq_getElem (by omega)⟩
    obtain ⟨h1, h2⟩ := t.size i (by omega)
    rw [t.act i o ho]
    cases hd : o.dst with
    | none => exact ⟨h1, h2⟩
    | some d => exact ⟨by simpa [Act.put] using h1, h2⟩

theorem Trace.between (t : Trace P l.toArray L ks l A W v) (x : Nat) (i : Nat) : ∀ d, i + d ≤ l.length → (∀ j, i ≤ j → j < i + d → fDst l j ≠ some x) → (A (i + d)).tmps[x]? = (A i).tmps[x]?
  | 0, _, _ => rfl
  | d + 1, h, hn => by
    have ih := t.between x i d (by omega) (fun j h1 h2 => hn j h1 (by omega))
    obtain ⟨o, ho⟩ : ∃ o, l[i + d]? = some o := ⟨l[i + d], List.getElem?_eq_getElem (by omega)⟩
    have hd := hn (i + d) (by omega) (by omega)
    rw [show i + (d + 1) = (i + d) + 1 by omega, t.act (i + d) o ho, ← ih]
    simp only [fDst, ho, Option.bind_some] at hd
    cases he : o.dst with
    | none => rfl
    | some y =>
      have : y ≠ x := fun e => hd (by rw [he, e])
      simp [Act.put, Array.getElem?_setIfInBounds_ne this]

/-- A state on some way through the region. -/
structure FInv (l : List Oper) (ks : List Nat) (A : Nat → Act) (W : Nat → World) (D : Nat → Prop) (a : Act) (w : World) : Prop where
  closed : Closed l D
  dom : ∀ i, D i → i < l.length
  stage : ∃ m, m ≤ l.length ∧ (∀ e, e < m → 2 ≤ ks.getD e 3 → D e) ∧ (∀ e, m ≤ e → e < l.length → 2 ≤ ks.getD e 3 → ¬ D e) ∧ w = W m
  size : a.tmps.size = (A 0).tmps.size
  defers : a.defers = (A 0).defers
  done : ∀ j x, D j → fDst l j = some x → a.tmps[x]? = (A l.length).tmps[x]?
  rest : ∀ x, (∀ j, D j → fDst l j ≠ some x) → a.tmps[x]? = (A 0).tmps[x]?

theorem world_const (t : Trace P l.toArray L ks l A W v) (i : Nat) : ∀ d, i + d ≤ l.length → (∀ j, i ≤ j → j < i + d → ¬ 2 ≤ ks.getD j 3) → W (i + d) = W i
  | 0, _, _ => rfl
  | d + 1, h, hn => by
    have ih := world_const t i d (by omega) (fun j h1 h2 => hn j h1 (by omega))
    obtain ⟨o, ho⟩ : ∃ o, l[i + d]? = some o := ⟨l[i + d], List.getElem?_eq_getElem (by omega)⟩
    have hs := t.step (i + d) o ho
    have hk := hn (i + d) (by omega) (by omega)
    rw [show i + (d + 1) = (i + d) + 1 by omega, ← ih]
    rcases hs with ⟨_, hs⟩ | ⟨_, _, hs⟩
    case inr => exact hs
    revert hs
    generalize ks.getD (i + d) 3 = k at *
    match k, hk with
    | 0, _ => exact fun hs => hs.1
    | 1, _ => exact fun hs => hs.1
    | n + 2, hk => exact absurd (by omega) hk

theorem world_later (t : Trace P l.toArray L ks l A W v) (hr : ∀ w, L w w) (htr : ∀ a b c, L a b → L b c → L a c) (i : Nat) : ∀ d, i + d ≤ l.length → (∀ j, i ≤ j → j < i + d → ¬ 3 ≤ ks.getD j 3) → L (W i) (W (i + d))
  | 0, _, _ => hr _
  | d + 1, h, hn => by
    have ih := world_later t hr htr i d (by omega) (fun j h1 h2 => hn j h1 (by omega))
    obtain ⟨o, ho⟩ : ∃ o, l[i + d]? = some o := ⟨l[i + d], List.getElem?_eq_getElem (by omega)⟩
    have hs := t.step (i + d) o ho
    have hk := hn (i + d) (by omega) (by omega)
    rw [show i + (d + 1) = (i + d) + 1 by omega]
    refine htr _ _ _ ih ?_
    rcases hs with ⟨_, hs⟩ | ⟨_, _, hs⟩
    case inr => rw [hs]; exact hr _
    revert hs
    generalize ks.getD (i + d) 3 = k at *
    match k, hk with
    | 0, _ => exact fun hs => by rw [hs.1]; exact hr _
    | 1, _ => exact fun hs => by rw [hs.1]; exact hr _
    | 2, _ => exact fun hs => hs.1
    | n + 3, hk => exact absurd (by omega) hk

/-- What the check says. -/
structure FlowOk (l : List Oper) (ks : List Nat) : Prop where
  sel : Region.noSelect l.toArray = true
  less : ∀ i o, l[i]? = some o → ∀ e ∈ o.after, Region.binds .any e = true → e.on < i
  eff : ∀ D, Closed l D → ∀ i j, i < l.length → j < i → 2 ≤ ks.getD j 3 → Fits l D i → D j
  hard : ∀ D, Closed l D → ∀ i j, i < l.length → j < i → 3 ≤ ks.getD i 3 → ks.getD j 3 = 1 → Fits l D i → D j
  one : ∀ i j x, i < l.length → j < i → fDst l i = some x → fDst l j ≠ some x
  look : ∀ D, Closed l D → ∀ i o x j, l[i]? = some o → x ∈ o.looksAt l.toArray → j < l.length → fDst l j = some x → (j < i ∧ (Fits l D i → D j)) ∨ (i < j ∧ (Fits l D j → D i))

theorem flowOk_of {l : List Oper} {ks : List Nat} (h : flowB l ks = true) : FlowOk l ks := by
  unfold flowB at h
  simp only [Bool.and_eq_true] at h
  obtain ⟨h0, h1⟩ := h
  have hm : ∀ D, Closed l D → ∀ i, Fits l D i → ∀ j, ((fMasks l #[]).getD i 0).testBit j = true → D j := fun D hc i hf j hj =>
    masks_good hc l #[] (fun k => by simp) (fun k hk => absurd hk (by simp)) i hf j hj
  have hi : ∀ i, i < l.length → _ := fun i hi => List.all_eq_true.1 h1 i (List.mem_range.2 hi)
  refine ⟨h0, ?_, ?_, ?_, ?_, ?_⟩
  · intro i o ho e he hb
    have hlt : i < l.length := (List.getElem?_eq_some_iff.1 ho).1
    have := hi i hlt
    simp only [Bool.and_eq_true, ho] at this
    have := List.all_eq_true.1 this.1.1 e (by simpa using he)
    simpa [hb] using this
  · intro D hc i j hlt hj hk hf
    have := hi i hlt
    simp only [Bool.and_eq_true] at this
    have := List.all_eq_true.1 this.1.2 j (List.mem_range.2 hj)
    simp only [Bool.and_eq_true, Bool.or_eq_true] at this
    refine hm D hc i hf j ?_
    rcases this.1.1 with h | h
    · simp only [Bool.not_eq_true', decide_eq_false_iff_not] at h; exact absurd hk h
    · exact h
  · intro D hc i j hlt hj hk hk1 hf
    have := hi i hlt
    simp only [Bool.and_eq_true] at this
    have := List.all_eq_true.1 this.1.2 j (List.mem_range.2 hj)
    simp only [Bool.and_eq_true, Bool.or_eq_true] at this
    refine hm D hc i hf j ?_
    rcases this.1.2 with h | h
    · rw [hk1] at h
      simp only [beq_self_eq_true, Bool.and_true, Bool.not_eq_true', decide_eq_false_iff_not] at h
      exact absurd hk h
    · exact h
  · intro i j x hlt hj hx hx'
    have := hi i hlt
    simp only [Bool.and_eq_true] at this
    have := List.all_eq_true.1 this.1.2 j (List.mem_range.2 hj)
    simp only [Bool.and_eq_true, Bool.or_eq_true] at this
    have := this.2
    rw [hx, hx'] at this
    simp at this
  · intro D hc i o x j ho hx hj hxj
    have hlt : i < l.length := (List.getElem?_eq_some_iff.1 ho).1
    have := hi i hlt
    simp only [Bool.and_eq_true, ho] at this
    have := List.all_eq_true.1 this.2 x hx
    have := List.all_eq_true.1 this j (List.mem_range.2 hj)
    rw [hxj] at this
    simp only [bne_self_eq_false, Bool.false_or, Bool.or_eq_true, Bool.and_eq_true, decide_eq_true_eq] at this
    rcases this with this | this
    · exact .inl ⟨this.1, fun hf => hm D hc i hf j this.2⟩
    · exact .inr ⟨this.1, fun hf => hm D hc j hf i this.2⟩

theorem fInv_fits {D : Nat → Prop} {a : Act} {w : World} (hok : FlowOk l ks) (t : Trace P l.toArray L ks l A W v) (inv : FInv l ks A W D a w) {i : Nat} {o : Oper} (ho : l[i]? = some o) (hf : Fits l D i) (hnd : ¬ D i) :
    execOp a.eval o = execOp (A i).eval o ∧ Region.wanted o (yielded l.toArray a.tmps) = Region.wanted o (yielded l.toArray (A i).tmps) := by
  have hlt : i < l.length := (List.getElem?_eq_some_iff.1 ho).1
  have same : ∀ x ∈ o.looksAt l.toArray, a.tmps[x]? = (A i).tmps[x]? := by
    intro x hx
    by_cases hex : ∃ j, j < l.length ∧ fDst l j = some x
    · obtain ⟨j, hj, hjx⟩ := hex
      rcases hok.look D inv.closed i o x j ho hx hj hjx with ⟨h1, h2⟩ | ⟨h1, h2⟩
      case inr =>
        have hnj : ¬ D j := fun hD => hnd (h2 (fun oj hoj e he hb => inv.closed j oj hoj hD e he hb))
        have honly : ∀ k, k < l.length → fDst l k = some x → k = j := fun k hk hkx => by
          rcases Nat.lt_trichotomy k j with h | h | h
          · exact absurd hkx (hok.one j k x hj h hjx)
          · exact h
          · exact absurd hjx (hok.one k j x hk h hkx)
        rw [inv.rest x (fun k hk hkx => hnj (honly k (inv.dom k hk) hkx ▸ hk))]
        have := t.between x 0 i (by omega) (fun k _ hk2 hkx => by have := honly k (by omega) hkx; omega)
        rw [Nat.zero_add] at this
        exact this.symm
      rw [inv.done j x (h2 hf) hjx]
      have := t.between x i (l.length - i) (by omega) (fun k hk1 hk2 hkx => hok.one k j x (by omega) (by omega) hkx hjx)
      rw [show i + (l.length - i) = l.length by omega] at this
      exact this
    · have hno : ∀ j, j < l.length → fDst l j ≠ some x := fun j hj e => hex ⟨j, hj, e⟩
      rw [inv.rest x (fun j hj => hno j (inv.dom j hj))]
      have := t.between x 0 i (by omega) (fun k _ hk2 => hno k (by omega))
      rw [Nat.zero_add] at this
      exact this.symm
  constructor
  · refine execOp_congr o (fun cs b => Region.noSelect_spec hok.sel i o cs b (by simpa using ho)) (fun x hx => ?_)
    cases x with
    | tmp y =>
      have := same y (List.mem_append_left _ (List.mem_filterMap.2 ⟨.tmp y, by simpa using hx, rfl⟩))
      simp [Act.eval, this]
    | _ => rfl
  · unfold Region.wanted
    cases hg : o.guard with
    | none => rfl
    | some gw =>
      obtain ⟨g, b⟩ := gw
      simp only
      congr 1
      unfold yielded
      cases hd : (l.toArray[g]?).bind (·.dst) with
      | none => rfl
      | some y =>
        have := same y (List.mem_append_right _ (by simp only [hg]; rw [hd]; simp))
        simp only [Option.bind_some, this]

theorem fInv_step {D D' : Nat → Prop} {a : Act} {w w' : World} (hok : FlowOk l ks) (t : Trace P l.toArray L ks l A W v) (inv : FInv l ks A W D a w) {i : Nat} {o : Oper} (ho : l[i]? = some o) (hf : Fits l D i) (hnd : ¬ D i)
    (hD' : ∀ j, D' j ↔ D j ∨ j = i) (hst : ∃ m, m ≤ l.length ∧ (∀ e, e < m → 2 ≤ ks.getD e 3 → D' e) ∧ (∀ e, m ≤ e → e < l.length → 2 ≤ ks.getD e 3 → ¬ D' e) ∧ w' = W m) : FInv l ks A W D' (a.put o.dst (v i)) w' := by
  have hlt : i < l.length := (List.getElem?_eq_some_iff.1 ho).1
  refine ⟨?_, ?_, hst, ?_, ?_, ?_, ?_⟩
  · intro j oj hoj hj e he hb
    rw [hD'] at hj ⊢
    rcases hj with hj | rfl
    · exact .inl (inv.closed j oj hoj hj e he hb)
    · exact .inl (hf oj hoj e he hb)
  · intro j hj
    rcases (hD' j).1 hj with hj | rfl
    · exact inv.dom j hj
    · exact hlt
  · rw [← inv.size]
    cases o.dst <;> simp [Act.put]
  · rw [← inv.defers]
    cases o.dst <;> rfl
  · intro j x hj hx
    have hfi : ∀ y, o.dst = some y → fDst l i = some y := fun y hy => by simp [fDst, ho, hy]
    rcases (hD' j).1 hj with hj | rfl
    · have hne : o.dst ≠ some x := fun e => by
        have h1 := hfi x e
        have hjl := inv.dom j hj
        rcases Nat.lt_trichotomy i j with h | h | h
        · exact hok.one j i x hjl h hx h1
        · subst h; exact hnd hj
        · exact hok.one i j x hlt h h1 hx
      rw [← inv.done j x hj hx]
      cases hd : o.dst with
      | none => rfl
      | some y =>
        have : y ≠ x := fun e => hne (by rw [hd, e])
        simp [Act.put, Array.getElem?_setIfInBounds_ne this]
    · have hd : o.dst = some x := by simpa [fDst, ho] using hx
      have h2 := t.between x (j + 1) (l.length - (j + 1)) (by omega) (fun k hk1 hk2 hkx => hok.one k j x (by omega) (by omega) hkx hx)
      rw [show j + 1 + (l.length - (j + 1)) = l.length by omega, t.act j o ho] at h2
      rw [h2]
      simp only [hd, Act.put, Array.getElem?_setIfInBounds, inv.size, (t.size j (by omega)).1]
      by_cases hx' : x < (A 0).tmps.size
      · simp [hx']
      · simp [hx']
  · intro x hx
    have h1 := inv.rest x (fun j hj => hx j ((hD' j).2 (.inl hj)))
    have h2 := hx i ((hD' i).2 (.inr rfl))
    rw [← h1]
    cases hd : o.dst with
    | none => rfl
    | some y =>
      have : y ≠ x := fun e => h2 (by simp [fDst, ho, hd, e])
      simp [Act.put, Array.getElem?_setIfInBounds_ne this]

theorem flow_any {Q : Exit → Act → World → Prop} (hok : FlowOk l ks) (t : Trace P l.toArray L ks l A W v) (hr : ∀ w, L w w) (htr : ∀ a b c, L a b → L b c → L a c) (hQ : Q .normal (A l.length) (W l.length)) :
    ∀ (fuel : Nat) (listed : Array Bool) (a : Act) (w : World), listed.size = l.length → listed.toList.count false ≤ fuel → FInv l ks A W (fun i => listed.getD i false = true) a w → wpAny P .any l.toArray Q fuel listed a w := by
  intro fuel
  -- where nothing may come up any more, all has
  have fin : ∀ (listed : Array Bool) (a : Act) (w : World), listed.size = l.length → FInv l ks A W (fun i => listed.getD i false = true) a w → Region.ready .any l.toArray listed = [] → Q .normal a w := by
    intro listed a w hsz inv hrd
    have all : ∀ i, i < l.length → listed.getD i false = true := by
      intro i
      induction i using Nat.strongRecOn with
      | _ i ih =>
        intro hi
        cases hli : listed.getD i false with
        | true => rfl
        | false =>
          exfalso
          have hm : i ∈ Region.ready .any l.toArray listed := by
            rw [mem_ready]
            refine ⟨?_, l[i], by simp [hi], fun e he hb => ?_⟩
            · have hi' : i < listed.size := by omega
              simp [Array.getD, hi'] at hli ⊢
              exact hli
            · have hlt := hok.less i l[i] (List.getElem?_eq_getElem hi) e he hb
              exact ih e.on hlt (by omega)
          rw [hrd] at hm
          cases hm
    obtain ⟨m, hm1, hm2, hm3, rfl⟩ := inv.stage
    have hw : W l.length = W m := by
      have := world_const t m (l.length - m) (by omega) (fun j h1 h2 hk => hm3 j h1 (by omega) hk (all j (by omega)))
      rw [show m + (l.length - m) = l.length by omega] at this
      exact this
    rw [← hw]
    have ha : a = A l.length := by
      have hs := t.size l.length (Nat.le_refl _)
      have htm : a.tmps = (A l.length).tmps := by
        apply Array.ext_getElem?
        intro x
        by_cases hex : ∃ j, j < l.length ∧ fDst l j = some x
        · obtain ⟨j, hj, hjx⟩ := hex
          exact inv.done j x (all j hj) hjx
        · have hno : ∀ j, j < l.length → fDst l j ≠ some x := fun j hj e => hex ⟨j, hj, e⟩
          rw [inv.rest x (fun j hj => hno j (inv.dom j hj))]
          have := t.between x 0 l.length (by omega) (fun k _ hk2 => hno k (by omega))
          rw [Nat.zero_add] at this
          exact this.symm
      have hdf : a.defers = (A l.length).defers := inv.defers.trans hs.2.symm
      cases ha : a
      cases hb : A l.length
      simp_all
    rw [ha]
    exact hQ
  induction fuel with
  | zero =>
    intro listed a w hsz hc inv
    have hrd : Region.ready .any l.toArray listed = [] := by
      cases hr' : Region.ready .any l.toArray listed with
      | nil => rfl
      | cons i r =>
        exfalso
        have hm : i ∈ Region.ready .any l.toArray listed := by rw [hr']; simp
        obtain ⟨h1, o, ho, _⟩ := mem_ready.1 hm
        have hi : i < listed.size := by
          rw [hsz]
          have := (Array.getElem?_eq_some_iff.1 ho).1
          simpa using this
        have hf : listed[i] = false := by simpa [Array.getD, hi] using h1
        have : 0 < listed.toList.count false := List.count_pos_iff.2 (by rw [← hf]; simp)
        omega
    exact ⟨hrd, fin listed a w hsz inv hrd⟩
  | succ fuel ih =>
    intro listed a w hsz hc inv
    refine ⟨fun hrd => fin listed a w hsz inv hrd, fun i hi => ?_⟩
    obtain ⟨h1, o, ho', hall⟩ := mem_ready.1 hi
    have ho : l[i]? = some o := by simpa using ho'
    have hlt : i < l.length := (List.getElem?_eq_some_iff.1 ho).1
    have hil : i < listed.size := by omega
    have hlf : listed[i] = false := by simpa [Array.getD, hil] using h1
    have hnd : ¬ listed.getD i false = true := by simp [Array.getD, hil, hlf]
    have hf : Fits l (fun i => listed.getD i false = true) i := fun o' ho'' e he hb => by
      rw [ho] at ho''
      cases ho''
      exact hall e he hb
    have hD' : ∀ j, (listed.setIfInBounds i true).getD j false = true ↔ listed.getD j false = true ∨ j = i := by
      intro j
      by_cases hj : j = i
      · subst hj; simp [Array.getD, hil]
      · have : i ≠ j := fun e => hj e.symm
        simp only [hj, or_false]
        by_cases hjs : j < listed.size
        · simp [Array.getD, hjs, Array.getElem_setIfInBounds_ne, this]
        · simp [Array.getD, hjs]
    obtain ⟨hex, hwant⟩ := fInv_fits hok t inv ho hf hnd
    have hcnt : (listed.setIfInBounds i true).toList.count false ≤ fuel := by
      rw [Array.toList_setIfInBounds, List.count_set (by simpa using hil)]
      have : listed.toList[i]'(by simpa using hil) = false := by simpa using hlf
      rw [this]
      simp only [show (true == false) = false from rfl, Bool.false_eq_true, if_false, beq_self_eq_true, if_true]
      omega
    have go : ∀ w', (∃ m, m ≤ l.length ∧ (∀ e, e < m → 2 ≤ ks.getD e 3 → (listed.setIfInBounds i true).getD e false = true) ∧ (∀ e, m ≤ e → e < l.length → 2 ≤ ks.getD e 3 → ¬ (listed.setIfInBounds i true).getD e false = true) ∧ w' = W m) →
        wpAny P .any l.toArray Q fuel (listed.setIfInBounds i true) (a.put o.dst (v i)) w' := fun w' hst =>
      ih _ _ _ (by simpa using hsz) hcnt (fInv_step hok t inv ho hf hnd hD' hst)
    obtain ⟨m, hm1, hm2, hm3, hw⟩ := inv.stage
    -- whatever changes the world and stands ahead has come up
    have hahead : ∀ e, e < i → 2 ≤ ks.getD e 3 → e < m := fun e he hk => by
      have hD := hok.eff _ inv.closed i e hlt he hk hf
      rcases Nat.lt_or_ge e m with h | h
      · exact h
      · exact absurd hD (hm3 e h (by omega) hk)
    have hstep := t.step i o ho
    unfold wpOp
    rw [ho']
    simp only [hwant]
    have hmid : W i = W m ∨ (i < m ∧ ¬ 2 ≤ ks.getD i 3) := by
      rcases Nat.lt_or_ge i m with h | h
      · by_cases hk : 2 ≤ ks.getD i 3
        · exact absurd (hm2 i h hk) hnd
        · exact .inr ⟨h, hk⟩
      · refine .inl ?_
        have := world_const t m (i - m) (by omega) (fun j h1 h2 hkj => by have := hahead j (by omega) hkj; omega)
        rw [show m + (i - m) = i by omega] at this
        exact this
    rcases hstep with ⟨hwt, hstep⟩ | ⟨hwt, hv, hsame⟩
    case inr =>
      rw [if_neg (by simp [hwt])]
      rw [← hv]
      refine go _ ?_
      by_cases hk : 2 ≤ ks.getD i 3
      · refine ⟨i + 1, by omega, fun e he hke => ?_, fun e he hel hke => ?_, ?_⟩
        · rw [hD']
          by_cases hei : e = i
          · exact .inr hei
          · exact .inl (hm2 e (hahead e (by omega) hke) hke)
        · rw [hD']
          rintro (h | h)
          · rcases Nat.lt_or_ge e m with h2 | h2
            · have : ¬ i < m := fun him => hnd (hm2 i him hk)
              omega
            · exact hm3 e h2 hel hke h
          · omega
        · rcases hmid with h | h
          · rw [hsame, h, hw]
          · exact absurd hk h.2
      · refine ⟨m, hm1, fun e he hke => (hD' e).2 (.inl (hm2 e he hke)), fun e he hel hke => ?_, hw⟩
        rw [hD']
        rintro (h | h)
        · exact hm3 e he hel hke h
        · subst h; exact hk hke
    rw [if_pos hwt]
    refine .inl ?_
    unfold Oper.wp
    rw [hex]
    by_cases hk : 2 ≤ ks.getD i 3
    · -- it changes the world
      have hmi : m ≤ i := by
        rcases Nat.lt_or_ge i m with h | h
        · exact absurd (hm2 i h hk) hnd
        · exact h
      have hwi : W i = W m := by
        have := world_const t m (i - m) (by omega) (fun j h1 h2 hkj => by have := hahead j (by omega) hkj; omega)
        rw [show m + (i - m) = i by omega] at this
        exact this
      have hst : ∃ m, m ≤ l.length ∧ (∀ e, e < m → 2 ≤ ks.getD e 3 → (listed.setIfInBounds i true).getD e false = true) ∧ (∀ e, m ≤ e → e < l.length → 2 ≤ ks.getD e 3 → ¬ (listed.setIfInBounds i true).getD e false = true) ∧ W (i + 1) = W m := by
        refine ⟨i + 1, by omega, fun e he hke => ?_, fun e he hel hke => ?_, rfl⟩
        · rw [hD']
          by_cases hei : e = i
          · exact .inr hei
          · exact .inl (hm2 e (hahead e (by omega) hke) hke)
        · rw [hD']
          rintro (h | h)
          · exact hm3 e (by omega) hel hke h
          · omega
      have hdoes : Does P o (A i) (W i) (v i) (W (i + 1)) := by
        revert hstep
        generalize ks.getD i 3 = k at *
        match k, hk with
        | 2, _ => exact fun hs => hs.2
        | n + 3, _ => exact fun hs => hs
      rw [hw, ← hwi]
      rcases hdoes with hd | ⟨hd, hv⟩ | ⟨f, args, hd, hcall⟩
      · rw [hd]; exact go _ hst
      · rw [hd]
        have := go _ hst
        rw [hv] at this
        exact this
      · rw [hd]
        refine hcall.mono ?_
        rintro e w'' ⟨rfl, rfl⟩
        exact go _ hst
    · -- it only reads
      have hst : ∃ m, m ≤ l.length ∧ (∀ e, e < m → 2 ≤ ks.getD e 3 → (listed.setIfInBounds i true).getD e false = true) ∧ (∀ e, m ≤ e → e < l.length → 2 ≤ ks.getD e 3 → ¬ (listed.setIfInBounds i true).getD e false = true) ∧ w = W m := by
        refine ⟨m, hm1, fun e he hke => (hD' e).2 (.inl (hm2 e he hke)), fun e he hel hke => ?_, hw⟩
        rw [hD']
        rintro (h | h)
        · exact hm3 e he hel hke h
        · subst h; exact hk hke
      have hdoes : Does P o (A i) w (v i) w := by
        have hlat : ks.getD i 3 = 1 → L (W i) w := by
          intro hk1
          rw [hw]
          rcases Nat.le_total m i with h | h
          · have := world_const t m (i - m) (by omega) (fun j h1 h2 hkj => by have := hahead j (by omega) hkj; omega)
            rw [show m + (i - m) = i by omega] at this
            rw [this]
            exact hr _
          · have := world_later t hr htr i (m - i) (by omega) (fun j h1 h2 hkj => by
              have hji : i < j := by
                rcases Nat.lt_or_ge i j with h | h
                · exact h
                · have : j = i := by omega
                  subst this
                  omega
              have hDj := hm2 j (by omega) (by omega)
              have hfj : Fits l (fun i => listed.getD i false = true) j := fun oj hoj e he hb => inv.closed j oj hoj hDj e he hb
              exact hnd (hok.hard _ inv.closed j i (by omega) hji hkj hk1 hfj))
            rw [show i + (m - i) = m by omega] at this
            exact this
        revert hstep hlat
        generalize ks.getD i 3 = k at *
        match k, hk with
        | 0, _ => exact fun hs _ => .inl (hs.2 w)
        | 1, _ => exact fun hs hl => hs.2 w (hl rfl)
        | n + 2, hk => exact absurd (by omega) hk
      rcases hdoes with hd | ⟨hd, hv⟩ | ⟨f, args, hd, hcall⟩
      · rw [hd]; exact go _ hst
      · rw [hd]
        have := go _ hst
        rw [hv] at this
        exact this
      · rw [hd]
        refine hcall.mono ?_
        rintro e w'' ⟨rfl, rfl⟩
        exact go _ hst

/-- A region that draws its order, gone through in the order of its text. -/
theorem wp_region_flow {Q : Exit → Act → World → Prop} {id : Nat} {a : Act} {w : World} (L : World → World → Prop) (ks : List Nat) (hm : P.follows .mixedOrders = true) (hB : flowB l ks = true) (hr : ∀ w, L w w) (htr : ∀ a b c, L a b → L b c → L a c)
    (h : wpFlow P l.toArray L (fun a w => Q .normal a w) ks l a w.drew) : (Code.region id l.toArray true).wp P Q a w := by
  obtain ⟨A, W, v, rfl, hW, t, hQ⟩ := trace_of l ks a w.drew h
  have hok := flowOk_of hB
  refine wp_region_any hm ?_
  have hnone : ∀ i, (Array.replicate l.toArray.size false).getD i false = false := fun i => by
    by_cases hi : i < l.toArray.size
    · simp [Array.getD]
    · simp [Array.getD]
  have := flow_any hok t hr htr hQ l.toArray.size (Array.replicate l.toArray.size false) (A 0) w.drew (by simp) (by simp) (by
    refine ⟨fun i o _ hi => ?_, fun i hi => ?_, ⟨0, Nat.zero_le _, fun e he => absurd he (by omega), fun e _ _ _ hd => ?_, hW.symm⟩, rfl, rfl, fun j x hj => ?_, fun x _ => rfl⟩
    · rw [hnone] at hi; cases hi
    · rw [hnone] at hi; cases hi
    · rw [hnone] at hd; cases hd
    · rw [hnone] at hj; cases hj)
  exact this

variable {ops : Array Oper} {K : Act → World → Prop} {r : List Oper} {o : Oper} {a : Act} {w : World}

theorem fl0 {u : Value} (hw : Region.wanted o (yielded ops a.tmps) = true) (hrun : ∀ x, (execOp a.eval o).run P x = .ok (.value u) x) (h : wpFlow P ops L K ks r (a.put o.dst u) w) : wpFlow P ops L K (0 :: ks) (o :: r) a w :=
  ⟨u, w, .inl ⟨hw, rfl, hrun⟩, h⟩
theorem fl1 {u : Value} (hw : Region.wanted o (yielded ops a.tmps) = true) (hrun : ∀ x, L w x → (execOp a.eval o).run P x = .ok (.value u) x) (h : wpFlow P ops L K ks r (a.put o.dst u) w) : wpFlow P ops L K (1 :: ks) (o :: r) a w :=
  ⟨u, w, .inl ⟨hw, rfl, fun x hx => .inl (hrun x hx)⟩, h⟩
/-- A call that only reads. -/
theorem fl1c {u : Value} (hw : Region.wanted o (yielded ops a.tmps) = true) (hrun : ∀ x, L w x → Does P o a x u x) (h : wpFlow P ops L K ks r (a.put o.dst u) w) : wpFlow P ops L K (1 :: ks) (o :: r) a w :=
  ⟨u, w, .inl ⟨hw, rfl, hrun⟩, h⟩
theorem fl2 {u : Value} {w' : World} (hw : Region.wanted o (yielded ops a.tmps) = true) (hL : L w w') (hd : Does P o a w u w') (h : wpFlow P ops L K ks r (a.put o.dst u) w') : wpFlow P ops L K (2 :: ks) (o :: r) a w :=
  ⟨u, w', .inl ⟨hw, hL, hd⟩, h⟩
theorem fl3 {u : Value} {w' : World} (hw : Region.wanted o (yielded ops a.tmps) = true) (hd : Does P o a w u w') (h : wpFlow P ops L K ks r (a.put o.dst u) w') : wpFlow P ops L K (3 :: ks) (o :: r) a w :=
  ⟨u, w', .inl ⟨hw, hd⟩, h⟩
theorem flx {k : Nat} (hw : Region.wanted o (yielded ops a.tmps) = false) (h : wpFlow P ops L K ks r (a.put o.dst undef) w) : wpFlow P ops L K (k :: ks) (o :: r) a w :=
  ⟨undef, w, .inr ⟨hw, rfl, rfl⟩, h⟩

theorem flnil {ks : List Nat} (h : K a w) : wpFlow P ops L K ks [] a w := by cases ks <;> exact h

/-- All blocks that are there stay as they are. -/
def Lat (w x : World) : Prop := w.heap.size ≤ x.heap.size ∧ ∀ k, k < w.heap.size → x.heap[k]? = w.heap[k]?
theorem Lat.refl (w : World) : Lat w w := ⟨Nat.le_refl _, fun _ _ => rfl⟩
theorem Lat.trans (a b c : World) (h : Lat a b) (k : Lat b c) : Lat a c := ⟨Nat.le_trans h.1 k.1, fun i hi => (k.2 i (Nat.lt_of_lt_of_le hi h.1)).trans (h.2 i hi)⟩
theorem Lat.alloc (w : World) (ob : Obj) : Lat w (w.alloc ob) := ⟨by simp, fun _ hk => Go.RowKit.Below.heap_alloc _ _ _ hk⟩
theorem Lat.at {w x : World} (h : Lat w x) {k : Nat} {ob : Obj} (hk : w.heap[k]? = some ob) : x.heap[k]? = some ob := by
  rw [h.2 k (Array.getElem?_eq_some_iff.1 hk).1]; exact hk
theorem Lat.cell {w x : World} (h : Lat w x) {p : Addr} {u : Value} (hc : w.cell? p = some u) : x.cell? p = some u := by
  rw [World.cell?_of_block (w := w) (h.2 p.block (World.block_lt_of_cell? w p hc))]; exact hc

end
end Go.Proofs.YtjblfemkecmlmaaDoor
