/- Pure part of layer 9: an address's text read back, alone, between brackets, and in a list. -/
import Derived.Test.YtgdcdknmijeioaaDoorC8
set_option linter.unusedSimpArgs false
set_option linter.unusedVariables false
namespace Go.Proofs.YtgdcdknmijeioaaDoor
open Go.RowKit Go.Shelf

theorem dot_bytes (lab : Bool) : ∀ (l p : List UInt8), dotS lab p l = true → ∀ c ∈ l, c = 46 ∨ okB lab c = true
  | [], p, h, c, hc => by simp at hc
  | x :: t, p, h, c, hc => by
    rw [dotS] at h
    by_cases hx : x = 46
    · rw [if_pos hx] at h
      simp at h
      rcases List.mem_cons.1 hc with rfl | hm
      · exact .inl hx
      · exact dot_bytes lab t [] h.2 c hm
    · rw [if_neg hx] at h
      simp at h
      rcases List.mem_cons.1 hc with rfl | hm
      · exact .inr h.1
      · exact dot_bytes lab t _ h.2 c hm
theorem side_bytes {lab : Bool} {l : List UInt8} (h : sideP lab l = true) : ∀ c ∈ l, c = 46 ∨ okB lab c = true := by
  rw [sideP_dot] at h
  simp only [Bool.and_eq_true] at h
  exact dot_bytes lab l [] h.2
theorem side_ne {lab : Bool} {l : List UInt8} (h : sideP lab l = true) : l ≠ [] := by
  rintro rfl
  rw [sideP_nil] at h
  cases h
theorem wb_of_lb {c : UInt8} (h : lbB c = true) : abB c = true := by
  unfold lbB at h
  unfold abB
  simp only [Bool.or_eq_true, beq_iff_eq] at h ⊢
  rcases h with h | rfl
  · exact .inl h
  · exact .inr (by decide)
theorem side_wb {lab : Bool} {l : List UInt8} (h : sideP lab l = true) : ∀ c ∈ l, wbB c = true := by
  intro c hc
  unfold wbB
  rcases side_bytes h c hc with rfl | ho
  · simp
  · unfold okB at ho
    cases lab
    · simp only [Bool.false_eq_true, if_false] at ho
      rw [ho]; rfl
    · simp only [if_true] at ho
      rw [wb_of_lb ho]; rfl
theorem wb_at {c : UInt8} (h : wbB c = true) : c ≠ 64 := by
  rintro rfl
  revert h
  decide +kernel
theorem wb_bl {c : UInt8} (h : wbB c = true) : blB c = false := by
  cases hb : blB c with
  | false => rfl
  | true =>
    unfold blB at hb
    simp only [Bool.or_eq_true, beq_iff_eq] at hb
    rcases hb with rfl | rfl
    · exact absurd h (by decide +kernel)
    · exact absurd h (by decide +kernel)
theorem wb_ad {c : UInt8} (h : wbB c = true) : adB c = true := by unfold adB; rw [h]; rfl
/-- An address's text. -/
def item (p : List UInt8 × List UInt8) : List UInt8 := p.1 ++ 64 :: p.2
theorem tw_stop {p : UInt8 → Bool} (a : List UInt8) (h : ∀ c ∈ a, p c = true) (t : List UInt8) (ht : t = [] ∨ ∃ x r, t = x :: r ∧ p x = false) : (a ++ t).takeWhile p = a ∧ (a ++ t).dropWhile p = t := by
  induction a with
  | nil =>
    rcases ht with rfl | ⟨x, r, rfl, hx⟩
    · exact ⟨rfl, rfl⟩
    · simp [hx]
  | cons c r ih =>
    have hc := h c (List.mem_cons_self ..)
    have := ih (fun y hy => h y (List.mem_cons_of_mem _ hy))
    simp [hc, this.1, this.2]
theorem loc_item {a d : List UInt8} (h : validP a d = true) : loc (item (a, d)) = a ∧ dom (item (a, d)) = d := by
  unfold validP at h
  simp only [Bool.and_eq_true] at h
  have := tw_stop (p := (· != (64 : UInt8))) a (fun c hc => by simpa using wb_at (side_wb h.1 c hc)) (64 :: d) (.inr ⟨64, d, rfl, by simp⟩)
  unfold loc dom item
  rw [this.1, this.2]
  exact ⟨rfl, rfl⟩
theorem parse_item {a d : List UInt8} (h : validP a d = true) : parseP (item (a, d)) = some (a, d) := by
  unfold parseP
  rw [(loc_item h).1, (loc_item h).2, if_pos h]
theorem parse_some {s a d : List UInt8} (h : parseP s = some (a, d)) : s = item (a, d) ∧ validP a d = true := by
  unfold parseP at h
  split at h
  · rename_i hv
    simp only [Option.some.injEq, Prod.mk.injEq] at h
    obtain ⟨rfl, rfl⟩ := h
    refine ⟨?_, hv⟩
    have hs := List.takeWhile_append_dropWhile (p := (· != (64 : UInt8))) (l := s)
    unfold item
    rcases dropWhile_at 64 s with h0 | ⟨t, h0⟩
    · exfalso
      have hd : dom s = [] := by unfold dom; rw [h0]; rfl
      unfold validP at hv
      rw [hd, sideP_nil] at hv
      simp at hv
    · conv => lhs; rw [← hs, h0]
      unfold loc dom
      rw [h0]
      rfl
  · cases h
theorem item_len {a d : List UInt8} (h : validP a d = true) : 3 ≤ (item (a, d)).length ∧ (item (a, d)).length ≤ 129 := by
  have hl := valid_len h
  unfold validP at h
  simp only [Bool.and_eq_true] at h
  have h1 := List.length_pos_iff.2 (side_ne h.1)
  have h2 := List.length_pos_iff.2 (side_ne h.2)
  unfold item
  simp
  omega
theorem path_of (s : List UInt8) (h : s ≠ []) : patV (60 :: (s ++ [62])) = parV s := by
  unfold patV
  have h1 : ¬ (60 :: (s ++ [62]) : List UInt8) = [60, 62] := by
    intro e
    have := congrArg List.length e
    simp at this
    exact h this
  rw [if_neg h1]
  have h2 : mid (60 :: (s ++ [62])) = some s := by simp [mid]
  rw [h2]
/-! In a list. -/
theorem adr_item {a d : List UInt8} (h : validP a d = true) (t : List UInt8) (ht : t = [] ∨ ∃ x r, t = x :: r ∧ adB x = false) (b : Bool) : addrR (item (a, d) ++ t) b = (⟨[], a, d⟩, t, b) := by
  have hv := h
  unfold validP at h
  simp only [Bool.and_eq_true] at h
  have hall : ∀ c ∈ item (a, d), adB c = true := by
    intro c hc
    unfold item at hc
    rcases List.mem_append.1 hc with hc | hc
    · exact wb_ad (side_wb h.1 c hc)
    · rcases List.mem_cons.1 hc with rfl | hc
      · decide +kernel
      · exact wb_ad (side_wb h.2 c hc)
  have := tw_stop (p := adB) (item (a, d)) hall t ht
  unfold addrR
  rw [this.1, this.2, parse_item hv]
theorem bare_item {a d : List UInt8} (h : validP a d = true) (t : List UInt8) : bareR (item (a, d) ++ t) = true := by
  unfold validP at h
  simp only [Bool.and_eq_true] at h
  have := tw_stop (p := wbB) a (side_wb h.1) (64 :: (d ++ t)) (.inr ⟨64, _, rfl, by decide +kernel⟩)
  unfold bareR item
  rw [List.append_assoc, List.cons_append, this.2]
  simp
theorem item_head {a d : List UInt8} (h : validP a d = true) (t : List UInt8) : ∃ c r, item (a, d) ++ t = c :: r ∧ wbB c = true := by
  unfold validP at h
  simp only [Bool.and_eq_true] at h
  have h1 := side_ne h.1
  have h2 := side_wb h.1
  unfold item
  cases a with
  | nil => exact absurd rfl h1
  | cons c r => exact ⟨c, _, rfl, h2 c (List.mem_cons_self ..)⟩
theorem ele_item {a d : List UInt8} (h : validP a d = true) (sp t : List UInt8) (hsp : ∀ c ∈ sp, blB c = true) (ht : t = [] ∨ ∃ r, t = 44 :: r) (b : Bool) : elemR (sp ++ (item (a, d) ++ t)) b = (⟨[], a, d⟩, t, b) := by
  obtain ⟨c, r, he, hc⟩ := item_head h t
  have h1 := (tw_stop (p := blB) sp hsp (item (a, d) ++ t) (.inr ⟨c, r, he, wb_bl hc⟩)).2
  have ht2 : t = [] ∨ ∃ x r, t = x :: r ∧ adB x = false := by
    rcases ht with e | ⟨r, e⟩
    · exact .inl e
    · exact .inr ⟨44, r, e, by decide +kernel⟩
  have h3 : t.dropWhile blB = t := by
    rcases ht with rfl | ⟨r, rfl⟩
    · rfl
    · rw [List.dropWhile_cons, if_neg (by decide +kernel)]
  unfold elemR
  dsimp only
  rw [h1, bare_item h, if_pos rfl, adr_item h t ht2]
  dsimp only
  rw [h3]
def adOf (p : List UInt8 × List UInt8) : Ad := ⟨[], p.1, p.2⟩
theorem lst_items : ∀ (ws : List (List UInt8 × List UInt8)) (k : Nat) (acc : List Ad) (b : Bool), (∀ p ∈ ws, validP p.1 p.2 = true) → acc.length + ws.length ≤ 17 → (Lib.joinTail [44, 32] (ws.map item)).length < k →
    lstR k acc (Lib.joinTail [44, 32] (ws.map item)) b = (acc ++ ws.map adOf, [], b)
  | [], k, acc, b, _, _, hk => by
    cases k with
    | zero => omega
    | succ k => simp [Lib.joinTail, lstR]
  | p :: ws, k, acc, b, hv, hl, hk => by
    cases k with
    | zero => omega
    | succ k =>
      have e : Lib.joinTail [44, 32] ((p :: ws).map item) = 44 :: ([32] ++ (item p ++ Lib.joinTail [44, 32] (ws.map item))) := by simp [Lib.joinTail]
      rw [e] at hk ⊢
      have hp := hv p (List.mem_cons_self ..)
      have ht : Lib.joinTail [44, 32] (ws.map item) = [] ∨ ∃ r, Lib.joinTail [44, 32] (ws.map item) = 44 :: r := by
        cases ws with
        | nil => exact .inl rfl
        | cons q r => exact .inr ⟨_, by simp [Lib.joinTail]; rfl⟩
      have he := ele_item (a := p.1) (d := p.2) hp [32] (Lib.joinTail [44, 32] (ws.map item)) (by intro c hc; simp at hc; subst hc; decide +kernel) ht b
      rw [lstR, if_pos rfl, he]
      dsimp only
      simp at hl hk
      rw [if_pos (by omega), lst_items ws k _ b (fun q hq => hv q (List.mem_cons_of_mem _ hq)) (by simp; omega) (by omega)]
      simp [adOf]
theorem list_items (ws : List (List UInt8 × List UInt8)) (hv : ∀ p ∈ ws, validP p.1 p.2 = true) (h0 : ws ≠ []) (h16 : ws.length ≤ 16) : listR (Lib.join (ws.map item) [44, 32]) = (ws.map adOf, 0) := by
  cases ws with
  | nil => exact absurd rfl h0
  | cons p ws =>
    rw [List.map_cons, Lib.join_cons]
    have ht : Lib.joinTail [44, 32] (ws.map item) = [] ∨ ∃ r, Lib.joinTail [44, 32] (ws.map item) = 44 :: r := by
      cases ws with
      | nil => exact .inl rfl
      | cons q r => exact .inr ⟨_, by simp [Lib.joinTail]; rfl⟩
    have he := ele_item (a := p.1) (d := p.2) (hv p (List.mem_cons_self ..)) [] (Lib.joinTail [44, 32] (ws.map item)) (by intro c hc; simp at hc) ht false
    rw [List.nil_append] at he
    have hl : (Lib.joinTail [44, 32] (ws.map item)).length < (item p ++ Lib.joinTail [44, 32] (ws.map item)).length + 1 := by simp; omega
    have h2 := lst_items ws ((item p ++ Lib.joinTail [44, 32] (ws.map item)).length + 1) [⟨[], p.1, p.2⟩] false (fun q hq => hv q (List.mem_cons_of_mem _ hq)) (by simp at h16 ⊢; omega) hl
    unfold listR
    dsimp only
    rw [he]
    dsimp only
    rw [h2]
    dsimp only
    simp at h16
    rw [if_neg (by simp), if_neg (by simp; omega)]
    simp [adOf]
theorem list_nil : listR [] = ([], 90) := by decide +kernel
theorem join_snoc (xs : List (List UInt8)) (y sep : List UInt8) : Lib.join (xs ++ [y]) sep = if xs = [] then y else Lib.join xs sep ++ sep ++ y := by
  cases xs with
  | nil => simp [Lib.join_one]
  | cons x r =>
    rw [if_neg (by simp), List.cons_append, Lib.join_cons, Lib.join_cons]
    simp [Lib.joinTail]
end Go.Proofs.YtgdcdknmijeioaaDoor
