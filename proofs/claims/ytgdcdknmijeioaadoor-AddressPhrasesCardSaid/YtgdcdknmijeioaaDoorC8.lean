/- Print, Path. -/
import Derived.Test.YtgdcdknmijeioaaDoorC7
set_option linter.unusedSimpArgs false
set_option linter.unusedVariables false
namespace Go.Proofs.YtgdcdknmijeioaaDoor
open Go.RowKit Go.Shelf

theorem str_app (a b : List UInt8) : (⟨a.toArray⟩ : ByteArray) ++ ⟨b.toArray⟩ = ⟨(a ++ b).toArray⟩ := by
  apply ByteArray.ext
  simp [ByteArray.data_append]
theorem valid_len {a d : List UInt8} (h : validP a d = true) : a.length ≤ 64 ∧ d.length ≤ 64 := by
  unfold validP sideP at h
  simp at h
  exact ⟨h.1.1, h.2.1⟩
/-- What Print gives. -/
def priV (a d : List UInt8) : Value := if validP a d = true then .tuple #[.string ⟨(a ++ 64 :: d).toArray⟩, .int .i64 0] else .tuple #[.string ⟨#[]⟩, .int .i64 90]
theorem priV_eq (a d : ByteArray) : priV a.data.toList d.data.toList = if validP a.data.toList d.data.toList = true then .tuple #[.string (a ++ ⟨#[64]⟩ ++ d), .int .i64 0] else .tuple #[.string ⟨#[]⟩, .int .i64 90] := by
  unfold priV
  by_cases h : validP a.data.toList d.data.toList = true
  · rw [if_pos h, if_pos h]
    congr 3
    conv => rhs; rw [of_list a, of_list d]
    rw [show (⟨#[64]⟩ : ByteArray) = ⟨[64].toArray⟩ from rfl, str_app, str_app]
    simp
  · rw [if_neg h, if_neg h]
set_option maxHeartbeats 1000000 in
theorem print_any (n a d : ByteArray) (ha : a.size ≤ 9223372036854775807) (hd : d.size ≤ 9223372036854775807) (w : World) (hM : Max w) :
    Calls Tryd.prog 12 #[.agg #[.string n, .string a, .string d]] w fun e w' => e = .returned (priV a.data.toList d.data.toList) ∧ Below w.heap.size w w' := by
  have c1 := fun w hM => isValid_any n a d ha hd w hM
  have hv := priV_eq a d
  have hl : validP a.data.toList d.data.toList = true → a.size ≤ 64 ∧ d.size ≤ 64 := fun h => by rw [Lib.size_eq, Lib.size_eq]; exact valid_len h
  generalize priV a.data.toList d.data.toList = rv at *
  generalize validP a.data.toList d.data.toList = q at *
  have HV := Lib.hid hv
  clear hv
  have hb0 : Below w.heap.size w (w.alloc (.cells #[.string n, .string a, .string d] 23)) := (Below.refl _ _).alloc (Nat.le_refl _) _
  have hh0 : (w.alloc (.cells #[.string n, .string a, .string d] 23)).heap[w.heap.size]? = some (.cells #[.string n, .string a, .string d] 23) := heap_alloc_new w _
  have hz0 : w.heap.size < (w.alloc (.cells #[.string n, .string a, .string d] 23)).heap.size := by simp
  have M0 := hM.below hb0
  go_enter Tryd.func12, Tryd.ntmps12
  go_wp2_with fail
  refine (c1 _ M0).mono ?_; rintro e w1 ⟨rfl, b1⟩
  have B1 := hb0.trans (b1.mono (Nat.le_of_lt hz0))
  have H1 := (b1.block _ hz0).trans hh0
  clear b1 hb0 hh0 hz0 M0 c1 hM
  have r1 := cellA H1 1 _ rfl
  have r2 := cellA H1 2 _ rfl
  cases q
  · go_wp2_with fail
    go_ret2
    exact ⟨by rw [HV.out]; rfl, B1⟩
  · have h1 := (hl rfl).1
    have h2 := (hl rfl).2
    clear hl
    go_wp2_with fail
    go_ret2
    exact ⟨by rw [HV.out]; rfl, B1⟩
def mid : List UInt8 → Option (List UInt8)
  | [] => none
  | c :: t => if c = 60 ∧ t.getLast? = some 62 then some t.dropLast else none
theorem suffix_one (c : UInt8) (l : List UInt8) : Lib.hasSuffix l [c] = decide (l.getLast? = some c) ∧ (l.getLast? = some c → Lib.trimSuffix l [c] = l.dropLast) := by
  rcases List.eq_nil_or_concat l with rfl | ⟨t, x, rfl⟩
  · exact ⟨by simp [Lib.hasSuffix, List.isSuffixOf], by simp⟩
  · have h1 : Lib.hasSuffix (t.concat x) [c] = decide (x = c) := by
      unfold Lib.hasSuffix List.isSuffixOf
      by_cases h : x = c
      · subst h; simp [List.isPrefixOf]
      · have h' : ¬ c = x := fun e => h e.symm
        simp [h, h', List.isPrefixOf]
    refine ⟨by rw [h1]; simp, fun h => ?_⟩
    have hx : x = c := by simpa using h
    unfold Lib.trimSuffix
    rw [h1, hx]
    simp
/-- What Path gives. -/
def patV (s : List UInt8) : Value := if s = [60, 62] then .tuple #[adV [] [] [], .int .i64 0] else match mid s with | some m => parV m | none => .tuple #[adV [] [] [], .int .i64 90]
theorem parV_form (u : List UInt8) : ∃ (n a d : List UInt8) (k : Int), parV u = .tuple #[adV n a d, .int .i64 k] := by
  unfold parV
  split
  · exact ⟨_, _, _, _, rfl⟩
  · exact ⟨_, _, _, _, rfl⟩
theorem trim_len (l p : List UInt8) : (Lib.trimSuffix l p).length ≤ l.length := by
  unfold Lib.trimSuffix
  split
  · rw [List.length_take]; omega
  · omega
set_option maxHeartbeats 1000000 in
theorem path_any (s : ByteArray) (hs : s.size ≤ 9223372036854775807) (w : World) (hM : Max w) :
    Calls Tryd.prog 10 #[.string s] w fun e w' => e = .returned (patV s.data.toList) ∧ Below w.heap.size w w' := by
  by_cases h0 : s.data.toList = [60, 62]
  · obtain rfl : s = ⟨#[60, 62]⟩ := by rw [of_list s, h0]
    go_enter Tryd.func10, Tryd.ntmps10
    go_wp2
    refine bodyPost_ret (results_A2 Tryd.results10 rfl rfl (heap_alloc_new w _) rfl) rfl ?_
    exact ⟨rfl, (Below.refl _ _).alloc (Nat.le_refl _) _⟩
  · have hne : (s.toList == [60, 62]) = false := by
      rw [Lib.toList_data, beq_eq_false_iff_ne]
      exact h0
    have hsz := Lib.size_eq s
    have hv : patV s.data.toList = match mid s.data.toList with | some m => parV m | none => .tuple #[adV [] [] [], .int .i64 90] := by unfold patV; rw [if_neg h0]
    have c1 := fun w => Tryd.strings_CutPrefix s ⟨#[60]⟩ w
    simp only [(trim_one 60 s.data.toList).1, (trim_one 60 s.data.toList).2, show (⟨#[60]⟩ : ByteArray).data.toList = [60] from rfl] at c1
    have ht := len_tkm 60 s.data.toList
    rw [← hsz] at ht
    have c2 := fun w => Tryd.strings_CutSuffix ⟨(tkm 60 s.data.toList).2.toArray⟩ ⟨#[62]⟩ w (by show (tkm 60 s.data.toList).2.toArray.size ≤ _; rw [List.size_toArray]; omega)
    simp only [str_data, show (⟨#[62]⟩ : ByteArray).data.toList = [62] from rfl] at c2
    have hx := suffix_one 62 (tkm 60 s.data.toList).2
    have htl := trim_len (tkm 60 s.data.toList).2 [62]
    have hm : mid s.data.toList = if (tkm 60 s.data.toList).1 = true ∧ (tkm 60 s.data.toList).2.getLast? = some 62 then some (tkm 60 s.data.toList).2.dropLast else none := by
      cases s.data.toList with
      | nil => simp [mid, tkm]
      | cons c t =>
        unfold mid
        simp only [tkm]
        by_cases h : c = 60 <;> simp [h]
    rw [hm] at hv
    clear hm hsz h0
    generalize patV s.data.toList = rv at *
    generalize (tkm 60 s.data.toList).1 = p1 at *
    generalize (tkm 60 s.data.toList).2 = t at *
    have HV := Lib.hid hv
    clear hv
    rw [hx.1] at c2
    have c3 := fun w hM => parse_any ⟨(Lib.trimSuffix t [62]).toArray⟩ (by show (Lib.trimSuffix t [62]).toArray.size ≤ _; rw [List.size_toArray]; omega) w hM
    simp only [str_data] at c3
    have HX := Lib.hid hx.2
    clear hx htl ht
    generalize Lib.trimSuffix t [62] = u at *
    have hb0 : Below w.heap.size w (w.alloc (.cells #[.string ⟨#[]⟩, .string ⟨#[]⟩, .string ⟨#[]⟩] 23)) := (Below.refl _ _).alloc (Nat.le_refl _) _
    have hh0 : (w.alloc (.cells #[.string ⟨#[]⟩, .string ⟨#[]⟩, .string ⟨#[]⟩] 23)).heap[w.heap.size]? = some (.cells #[.string ⟨#[]⟩, .string ⟨#[]⟩, .string ⟨#[]⟩] 23) := heap_alloc_new w _
    have hz0 : w.heap.size < (w.alloc (.cells #[.string ⟨#[]⟩, .string ⟨#[]⟩, .string ⟨#[]⟩] 23)).heap.size := by simp
    have M0 := hM.below hb0
    cases p1
    · have HR : Hid (rv = .tuple #[adV [] [] [], .int .i64 90]) := Lib.hid (by have := HV.out; rwa [if_neg (by simp)] at this)
      clear HV HX
      generalize decide (t.getLast? = some 62) = p2 at *
      go_enter Tryd.func10, Tryd.ntmps10
      go_wp2_with (first | (go_at_call 20; refine (c1 _).mono ?_; rintro e w' ⟨rfl, hw⟩; rw [hw]) | (go_at_call 21; refine (c2 _).mono ?_; rintro e w' ⟨rfl, hw⟩; rw [hw]) | (refine wpL_storeA rfl (.tmp 2) (.tmp 25) rfl rfl rfl hh0 rfl rfl (by simp [Value.oneCell']) hb0 (Nat.le_refl _) ?_; intro w3 h3 b3 _ _))
      refine bodyPost_ret (results_A2 Tryd.results10 rfl rfl h3 rfl) rfl ?_
      exact ⟨by rw [HR.out]; rfl, b3⟩
    · by_cases hl : t.getLast? = some 62
      · have HR : Hid (rv = parV u) := Lib.hid (by have := HV.out; rw [if_pos (by simp [hl]), ← HX.out hl] at this; exact this)
        rw [decide_eq_true hl] at c2
        clear HV HX hl
        go_enter Tryd.func10, Tryd.ntmps10
        go_wp2_with (first | (go_at_call 20; refine (c1 _).mono ?_; rintro e w' ⟨rfl, hw⟩; rw [hw]) | (go_at_call 21; refine (c2 _).mono ?_; rintro e w' ⟨rfl, hw⟩; rw [hw]))
        refine (c3 _ M0).mono ?_; rintro e w1 ⟨rfl, b1⟩
        have B1 := hb0.trans (b1.mono (Nat.le_of_lt hz0))
        have H1 := (b1.block _ hz0).trans hh0
        clear b1 hb0 hh0 hz0 c1 c2 c3
        obtain ⟨n, a, d, k, hp⟩ := parV_form u
        have HR' := Lib.hid (HR.out.trans hp)
        rw [hp]
        clear HR hp
        unfold adV at HR' ⊢
        go_wp2_with (refine wpL_storeA rfl (.tmp 2) (.tmp 28) rfl rfl rfl H1 rfl rfl (by simp [Value.oneCell']) B1 (Nat.le_refl _) ?_; intro w3 h3 b3 _ _)
        refine bodyPost_ret (results_A2 Tryd.results10 rfl rfl h3 rfl) rfl ?_
        exact ⟨by rw [HR'.out]; rfl, b3⟩
      · have HR : Hid (rv = .tuple #[adV [] [] [], .int .i64 90]) := Lib.hid (by have := HV.out; rwa [if_neg (by simp [hl])] at this)
        rw [decide_eq_false hl] at c2
        clear HV HX hl
        go_enter Tryd.func10, Tryd.ntmps10
        go_wp2_with (first | (go_at_call 20; refine (c1 _).mono ?_; rintro e w' ⟨rfl, hw⟩; rw [hw]) | (go_at_call 21; refine (c2 _).mono ?_; rintro e w' ⟨rfl, hw⟩; rw [hw]) | (refine wpL_storeA rfl (.tmp 2) (.tmp 25) rfl rfl rfl hh0 rfl rfl (by simp [Value.oneCell']) hb0 (Nat.le_refl _) ?_; intro w3 h3 b3 _ _))
        refine bodyPost_ret (results_A2 Tryd.results10 rfl rfl h3 rfl) rfl ?_
        exact ⟨by rw [HR.out]; rfl, b3⟩
end Go.Proofs.YtgdcdknmijeioaaDoor
