/- good: may a field be written in one line? -/
import Derived.Test.YtjblfemkecmlmaaDoorC14
import Derived.Test.YtjblfemkecmlmaaDoorQ7
set_option linter.unusedSimpArgs false
set_option linter.unusedVariables false
namespace Go.Proofs.YtjblfemkecmlmaaDoor
open Go.RowKit Go.Shelf

/-- The bytes of a name so far. -/
def NmTo (n : List UInt8) (i : Nat) : Prop := ∀ (j : Nat) c, j < i → n[j]? = some c → nmB c = true
/-- The bytes of a value so far. -/
def VlTo (v : List UInt8) (i : Nat) : Prop := ∀ (j : Nat) c, j < i → v[j]? = some c → c ≠ 13 ∧ c ≠ 10 ∧ (j = 0 → blB c = false) ∧ (j + 1 = v.length → blB c = false)
theorem good_of {n v : List UInt8} (h1 : NmTo n n.length) (h2 : VlTo v v.length) (h3 : n ≠ []) : GoodF (n, v) := by
  refine ⟨?_, h3, ?_, ?_, ?_⟩
  · rw [List.all_eq_true]
    intro c hc
    obtain ⟨j, hj, e⟩ := List.mem_iff_getElem.1 hc
    exact h1 j c hj (by rw [← e]; exact List.getElem?_eq_getElem hj)
  · intro c hc
    obtain ⟨j, hj, e⟩ := List.mem_iff_getElem.1 hc
    exact (h2 j c hj (by rw [← e]; exact List.getElem?_eq_getElem hj)).1
  · intro c hc
    have h : v[0]? = some c := by rw [← List.head?_eq_getElem?]; exact hc
    exact (h2 0 c (List.getElem?_eq_some_iff.1 h).1 h).2.2.1 rfl
  · intro c hc
    have h : v[v.length - 1]? = some c := by rw [← List.getLast?_eq_getElem?]; exact hc
    have hl := (List.getElem?_eq_some_iff.1 h).1
    exact (h2 _ c hl h).2.2.2 (by omega)
theorem NmTo.step {n : List UInt8} {i : Nat} (h : NmTo n i) {c : UInt8} (hc : n[i]? = some c) (hn : nmB c = true) : NmTo n (i + 1) := fun j d hj hd => by
  by_cases e : j = i
  · subst e; rw [hc] at hd; cases hd; exact hn
  · exact h j d (by omega) hd
theorem VlTo.step {v : List UInt8} {i : Nat} (h : VlTo v i) {c : UInt8} (hc : v[i]? = some c) (hn : c ≠ 13 ∧ c ≠ 10 ∧ (i = 0 → blB c = false) ∧ (i + 1 = v.length → blB c = false)) : VlTo v (i + 1) := fun j d hj hd => by
  by_cases e : j = i
  · subst e; rw [hc] at hd; cases hd; exact hn
  · exact h j d (by omega) hd
theorem nm_num (c : UInt8) (h1 : 33 ≤ (c.toNat : Int)) (h2 : (c.toNat : Int) ≤ 126) (h3 : ¬ (c.toNat : Int) = 58) : nmB c = true := by
  unfold nmB grB
  have : ¬ c = 58 := fun e => h3 (by rw [e]; rfl)
  simp [this]
  omega
theorem bl_num (c : UInt8) (h1 : ¬ (c.toNat : Int) = 32) (h2 : ¬ (c.toNat : Int) = 9) : blB c = false := by
  unfold blB
  have : ¬ c = 32 := fun e => h1 (by rw [e]; rfl)
  have : ¬ c = 9 := fun e => h2 (by rw [e]; rfl)
  simp_all
theorem ne_num {c : UInt8} {k : Nat} (hk : k < 256) (h : ¬ (c.toNat : Int) = k) : c ≠ UInt8.ofNat k := fun e => h (by rw [e]; simp; omega)
def GdPost (n v : List UInt8) (w : World) (e : Ending) (w' : World) : Prop := (∃ g, e = .returned (.bool g) ∧ (g = true → GoodF (n, v))) ∧ Below w.heap.size w w'
set_option maxHeartbeats 4000000 in
set_option maxRecDepth 100000 in
theorem good_any (n v : List UInt8) (hn : n.length ≤ 4611686018427387903) (hv : v.length ≤ 4611686018427387903) (w : World) :
    Calls Tryd.prog 16 #[.agg #[.string ⟨n.toArray⟩, .string ⟨v.toArray⟩]] w (GdPost n v w) := by
  have b0 := below_new w (.cells #[.string ⟨n.toArray⟩, .string ⟨v.toArray⟩] 28)
  have h0 := heap_alloc_new w (.cells #[.string ⟨n.toArray⟩, .string ⟨v.toArray⟩] 28)
  have r0 : (w.alloc (.cells #[.string ⟨n.toArray⟩, .string ⟨v.toArray⟩] 28)).cell? ⟨w.heap.size, 0, none⟩ = some (.string ⟨n.toArray⟩) := by rw [cell_of_row _ _ _ _ _ _ h0]; rfl
  have r1 : (w.alloc (.cells #[.string ⟨n.toArray⟩, .string ⟨v.toArray⟩] 28)).cell? ⟨w.heap.size, 1, none⟩ = some (.string ⟨v.toArray⟩) := by rw [cell_of_row _ _ _ _ _ _ h0]; rfl
  have hzn : (⟨n.toArray⟩ : ByteArray).size = n.length := rfl
  have hzv : (⟨v.toArray⟩ : ByteArray).size = v.length := rfl
  have hgn : ∀ i (h : i < (⟨n.toArray⟩ : ByteArray).size), n[i]? = some ((⟨n.toArray⟩ : ByteArray)[i]'h) := fun i h => List.getElem?_eq_getElem (l := n) (by rw [← hzn]; exact h)
  have hgv : ∀ i (h : i < (⟨v.toArray⟩ : ByteArray).size), v[i]? = some ((⟨v.toArray⟩ : ByteArray)[i]'h) := fun i h => List.getElem?_eq_getElem (l := v) (by rw [← hzv]; exact h)
  have HZN := Lib.hid hzn
  have HZV := Lib.hid hzv
  rw [← hzn] at hn
  rw [← hzv] at hv
  clear h0 hzn hzv
  go_enter Tryd.func16, Tryd.ntmps16
  go_wp2
  generalize (⟨n.toArray⟩ : ByteArray) = sn at *
  generalize (⟨v.toArray⟩ : ByteArray) = sv at *
  generalize w.alloc (.cells #[.string sn, .string sv] 28) = w1 at *
  have HGN := Lib.hid hgn
  have HGV := Lib.hid hgv
  clear hgn hgv
  go_loop [3] (fun i => ∃ k : Nat, i = .int .i64 k ∧ k ≤ sn.size ∧ Hid (NmTo n k)) (fun i => sn.size - (intOf i).toNat)
  case atStart => exact ⟨0, rfl, Nat.zero_le _, Lib.hid (fun j c hj => by omega)⟩
  case round =>
    obtain ⟨k, rfl, hk, HN⟩ := hrel
    by_cases hlt : k < sn.size
    · have hg := HGN.out k hlt
      have hcb := (sn[k]'hlt).toNat_lt
      generalize hc : sn[k]'hlt = c at *
      have HG := Lib.hid hg
      clear hg
      by_cases h1 : (c.toNat : Int) < 33
      · go_wp2
        go_ret
        exact ⟨⟨false, rfl, fun h => by cases h⟩, b0⟩
      · by_cases h2 : (126 : Int) < c.toNat
        · go_wp2
          go_ret
          exact ⟨⟨false, rfl, fun h => by cases h⟩, b0⟩
        · by_cases h3 : (c.toNat : Int) = 58
          · have h3' := beq_yes h3
            have h4 : decide ((c.toNat : Int) < 33) = false := by simpa using h1
            have h5 : decide ((126 : Int) < c.toNat) = false := by simpa using h2
            go_wp2
            go_ret
            exact ⟨⟨false, rfl, fun h => by cases h⟩, b0⟩
          · have h3' := beq_no h3
            have hnm := nm_num c (by omega) (by omega) h3
            have HS := Lib.hid (HN.out.step HG.out hnm)
            clear hnm
            go_wp2
            exact ⟨⟨k + 1, by go_num, by omega, HS⟩, by simp [intOf]; omega⟩
    · obtain rfl : k = sn.size := by omega
      clear hlt
      go_wp2
      go_loop [4] (fun i => ∃ k : Nat, i = .int .i64 k ∧ k ≤ sv.size ∧ Hid (VlTo v k)) (fun i => sv.size - (intOf i).toNat)
      case atStart => exact ⟨0, rfl, Nat.zero_le _, Lib.hid (fun j c hj => by omega)⟩
      case round =>
        obtain ⟨k, rfl, hk, HV⟩ := hrel
        by_cases hlt : k < sv.size
        · have hg := HGV.out k hlt
          have hcb := (sv[k]'hlt).toNat_lt
          generalize hc : sv[k]'hlt = c at *
          have HG := Lib.hid hg
          clear hg
          have hw : wrap64 ((sv.size : Int) - 1) = sv.size - 1 := by unfold wrap64; omega
          by_cases h13 : (c.toNat : Int) = 13
          · have f13 := beq_yes h13
            go_wp2
            go_ret
            exact ⟨⟨false, rfl, fun h => by cases h⟩, b0⟩
          · have f13 := beq_no h13
            by_cases h10 : (c.toNat : Int) = 10
            · have f10 := beq_yes h10
              go_wp2
              go_ret
              exact ⟨⟨false, rfl, fun h => by cases h⟩, b0⟩
            · have f10 := beq_no h10
              by_cases hbl : (c.toNat : Int) = 32 ∨ (c.toNat : Int) = 9
              · rcases hbl with h32 | h9
                · have f32 := beq_yes h32
                  by_cases k0 : k = 0
                  · subst k0
                    go_wp2
                    go_ret
                    exact ⟨⟨false, rfl, fun h => by cases h⟩, b0⟩
                  · have k0' := beq_no (show ¬ (k : Int) = 0 by omega)
                    by_cases kl : (k : Int) = (sv.size : Int) - 1
                    · have kl' := beq_yes kl
                      clear kl
                      go_wp2
                      go_ret
                      exact ⟨⟨false, rfl, fun h => by cases h⟩, b0⟩
                    · have kl' := beq_no kl
                      have HS := Lib.hid (HV.out.step HG.out ⟨ne_num (k := 13) (by omega) h13, ne_num (k := 10) (by omega) h10, fun e => absurd e k0, fun e => absurd (by rw [← HZV.out] at e; omega) kl⟩)
                      go_wp2
                      exact ⟨⟨k + 1, by go_num, by omega, HS⟩, by simp [intOf]; omega⟩
                · have h32 : ¬ (c.toNat : Int) = 32 := by omega
                  have f32 := beq_no h32
                  have f9 := beq_yes h9
                  by_cases k0 : k = 0
                  · subst k0
                    go_wp2
                    go_ret
                    exact ⟨⟨false, rfl, fun h => by cases h⟩, b0⟩
                  · have k0' := beq_no (show ¬ (k : Int) = 0 by omega)
                    by_cases kl : (k : Int) = (sv.size : Int) - 1
                    · have kl' := beq_yes kl
                      clear kl
                      go_wp2
                      go_ret
                      exact ⟨⟨false, rfl, fun h => by cases h⟩, b0⟩
                    · have kl' := beq_no kl
                      have HS := Lib.hid (HV.out.step HG.out ⟨ne_num (k := 13) (by omega) h13, ne_num (k := 10) (by omega) h10, fun e => absurd e k0, fun e => absurd (by rw [← HZV.out] at e; omega) kl⟩)
                      go_wp2
                      exact ⟨⟨k + 1, by go_num, by omega, HS⟩, by simp [intOf]; omega⟩
              · have h32 : ¬ (c.toNat : Int) = 32 := fun e => hbl (.inl e)
                have h9 : ¬ (c.toNat : Int) = 9 := fun e => hbl (.inr e)
                have f32 := beq_no h32
                have f9 := beq_no h9
                have hb := bl_num c h32 h9
                have HS := Lib.hid (HV.out.step HG.out ⟨ne_num (k := 13) (by omega) h13, ne_num (k := 10) (by omega) h10, fun _ => hb, fun _ => hb⟩)
                clear hbl hb
                go_wp2
                all_goals exact ⟨⟨k + 1, by go_num, by omega, HS⟩, by simp [intOf]; omega⟩
        · obtain rfl : k = sv.size := by omega
          clear hlt
          by_cases hz : 0 < sn.size
          · have hz' : (0 : Int) < sn.size := by omega
            have HGd := Lib.hid (good_of (n := n) (v := v) (by rw [← HZN.out]; exact HN.out) (by rw [← HZV.out]; exact HV.out) (by
              intro e
              have hh := HZN.out
              rw [e] at hh
              have h0 : ([] : List UInt8).length = 0 := rfl
              omega))
            go_wp2
            go_ret
            exact ⟨⟨true, rfl, fun _ => HGd.out⟩, b0⟩
          · have hz' : ¬ (0 : Int) < sn.size := by omega
            go_wp2
            go_ret
            exact ⟨⟨false, rfl, fun h => by cases h⟩, b0⟩
end Go.Proofs.YtjblfemkecmlmaaDoor
