/- codec.Stuff. -/
import Derived.Test.YtdikgifgapbocaaDoorC15
import Derived.Test.YtdikgifgapbocaaDoorQ1
set_option linter.unusedSimpArgs false
set_option linter.unusedVariables false
namespace Go.Proofs.YtdikgifgapbocaaDoor
open Go.RowKit Go.Shelf

/-- The library's variable that its search reads: whatever number. -/
def Max (w : World) : Prop := ∃ m : Int, w.cell? ⟨0, 0, none⟩ = some (.int .i64 m)
theorem Max.below {w w' : World} (h : Max w) (hb : Below w.heap.size w w') : Max w' := by
  obtain ⟨m, hm⟩ := h
  exact ⟨m, by rw [hb.cell (p := ⟨0, 0, none⟩) (World.block_lt_of_cell? w _ hm)]; exact hm⟩
theorem replace_any (T : ByteArray) (w : World) (hT : T.size ≤ 16777220) (hm : Max w) :
    Calls Tryd.prog 36 #[.string (⟨#[13, 10]⟩ ++ T), .string ⟨#[13, 10, 46]⟩, .string ⟨#[13, 10, 46, 46]⟩] w fun e w' => e = .returned (.string ⟨(13 :: 10 :: stm 2 T.data.toList).toArray⟩) ∧ Below w.heap.size w w' := by
  obtain ⟨m, hm⟩ := hm
  have hsz : ((⟨#[13, 10]⟩ : ByteArray) ++ T).size = 2 + T.size := by rw [ByteArray.size_append]; rfl
  have h4 : (⟨#[13, 10, 46, 46]⟩ : ByteArray).size = 4 := rfl
  have h3 : (⟨#[13, 10, 46]⟩ : ByteArray).size = 3 := rfl
  have hc := Lib.countB_mul_le ⟨#[13, 10, 46]⟩ (by rw [h3]; omega) _ ((⟨#[13, 10]⟩ : ByteArray) ++ T) (Nat.le_refl _)
  rw [h3, hsz] at hc
  refine (Tryd.strings_ReplaceAll _ ⟨#[13, 10, 46]⟩ ⟨#[13, 10, 46, 46]⟩ m w (by rw [hsz]; omega) hm (by rw [h3]; omega) (by rw [hsz, h4]; omega)).mono fun e w' ⟨he, hb⟩ => ⟨?_, hb⟩
  rw [he]
  have : ((⟨#[13, 10]⟩ : ByteArray) ++ T).data.toList = 13 :: 10 :: T.data.toList := by
    rw [ByteArray.data_append, Array.toList_append]; rfl
  rw [this]
  rw [← replaceAll_lines]
theorem two_off (T : List UInt8) : (⟨(13 :: 10 :: T).toArray⟩ : ByteArray).extract 2 (T.length + 1 + 1) ++ ⟨#[46]⟩ ++ ⟨#[13, 10]⟩ = ⟨(T ++ [46, 13, 10]).toArray⟩ := by
  apply ByteArray.ext
  apply Array.ext'
  have : (⟨(13 :: 10 :: T).toArray⟩ : ByteArray).size = T.length + 1 + 1 := by show (13 :: 10 :: T).toArray.size = _; simp
  rw [ByteArray.data_append, ByteArray.data_append, Array.toList_append, Array.toList_append, ← this, Lib.extract_to_end]
  simp
theorem arr_size (l : List UInt8) : (⟨l.toArray⟩ : ByteArray).size = l.length := by show l.toArray.size = _; simp
theorem arr_list (l : List UInt8) : (⟨l.toArray⟩ : ByteArray).data.toList = l := by simp
theorem crlf_off (l : List UInt8) : (⟨l.toArray⟩ : ByteArray) ++ ⟨#[13, 10]⟩ = ⟨(l ++ [13, 10]).toArray⟩ := by
  apply ByteArray.ext
  apply Array.ext'
  rw [ByteArray.data_append, Array.toList_append]
def StuffPost (w : World) (l : List UInt8) (e : Ending) (w' : World) : Prop := ∃ g cap', e = .returned (.slice (some ⟨g, 0, none⟩) (stuff l).length cap') ∧ RowB w w' g (stuff l) ∧ (stuff l).length ≤ cap' ∧ cap' ≤ maxLen
theorem stuff_end {w w2 : World} {g cap : Nat} {l : List UInt8} {S : ByteArray} (hS : S = ⟨(stuff l).toArray⟩) (hr : RowB w w2 g S.data.toList) (h1 : S.size ≤ cap) (h2 : cap ≤ maxLen) {n : Nat} (hn : n = S.size) : StuffPost w l (.returned (.slice (some ⟨g, 0, none⟩) n cap)) w2 := by
  subst hn
  subst hS
  rw [arr_list] at hr
  rw [arr_size] at h1 ⊢
  exact ⟨g, cap, rfl, hr, h1, h2⟩
set_option maxHeartbeats 4000000 in
set_option maxRecDepth 1000000 in
theorem stuff_any (a : Option Addr) (cap : Nat) (l : List UInt8) (w : World) (hl : l.length ≤ 8388608) (hB : Bs w a l) (hM : Max w) :
    Calls Tryd.prog 15 #[.slice a l.length cap] w (StuffPost w l) := by
  by_cases h0 : l = []
  · subst h0
    have hs := bs_string' (n := 0) cap hB rfl
    have hR := replace_any ⟨#[]⟩ w (by show 0 ≤ _; omega) hM
    have hT := stm_len (⟨#[]⟩ : ByteArray).data.toList 2
    have hsz := arr_size (13 :: 10 :: stm 2 (⟨#[]⟩ : ByteArray).data.toList)
    have h2 : 2 ≤ (⟨(13 :: 10 :: stm 2 (⟨#[]⟩ : ByteArray).data.toList).toArray⟩ : ByteArray).size := by rw [hsz]; simp
    clear hsz
    go_enter Tryd.func15, Tryd.ntmps15
    go_wp2_with (first | (go_at_call 36; refine hR.mono ?_; rintro e w1 ⟨rfl, hb⟩) | (refine wpL_tobytes (w0 := w) rfl rfl rfl hb (by unfold maxLen; rw [two_off, arr_size]; simp only [List.length_append, List.length_cons, List.length_nil] at hT ⊢; omega) ?_; intro cap' w2 hr h3 h4 hb2))
    go_ret
    show StuffPost w [] (.returned (.slice (some ⟨w1.heap.size, 0, none⟩) _ cap')) w2
    refine stuff_end ?hS hr h3 h4 ?hn
    case hS => rw [two_off]; rfl
    case hn => rw [two_off, arr_size]; simp
  · have hs := bs_string cap hB
    have hz : (l == []) = false := by simpa using h0
    have hz2 : l.isEmpty = false := by simpa using h0
    have hpos : 0 < l.length := List.length_pos_iff.2 h0
    by_cases hsuf : ([13, 10] : List UInt8).isSuffixOf l = true
    · have he : ended l = l := by unfold ended; rw [if_pos (.inr hsuf)]
      have HE := Lib.hid (show stuff l = stm 2 l ++ [46, 13, 10] by unfold stuff; rw [he])
      have hR := replace_any ⟨l.toArray⟩ w (by rw [arr_size]; omega) hM
      rw [arr_list] at hR
      have hS : Calls Tryd.prog 35 #[.string ⟨l.toArray⟩, .string ⟨#[13, 10]⟩] w fun e w' => e = .returned (.bool true) ∧ w' = w := by
        refine (Tryd.strings_HasSuffix ⟨l.toArray⟩ ⟨#[13, 10]⟩ w (by rw [arr_size]; omega)).mono fun e w' ⟨h1, h2⟩ => ⟨?_, h2⟩
        rw [h1, arr_list]
        unfold Lib.hasSuffix
        rw [show (⟨#[13, 10]⟩ : ByteArray).data.toList = [13, 10] from rfl, hsuf]
      have hT := stm_len l 2
      have hsz := arr_size (13 :: 10 :: stm 2 l)
      have h2 : 2 ≤ (⟨(13 :: 10 :: stm 2 l).toArray⟩ : ByteArray).size := by rw [hsz]; simp
      clear hsz he hsuf h0
      go_enter Tryd.func15, Tryd.ntmps15
      go_wp2_with (first | (go_at_call 35; refine hS.mono ?_; rintro e w1 ⟨rfl, hw⟩; rw [hw]) | (go_at_call 36; refine hR.mono ?_; rintro e w1 ⟨rfl, hb⟩) | (refine wpL_tobytes (w0 := w) rfl rfl rfl hb (by unfold maxLen; rw [two_off, arr_size]; simp only [List.length_append, List.length_cons, List.length_nil] at hT ⊢; omega) ?_; intro cap' w2 hr h3 h4 hb2))
      go_ret
      show StuffPost w l (.returned (.slice (some ⟨w1.heap.size, 0, none⟩) _ cap')) w2
      refine stuff_end ?hS hr h3 h4 ?hn
      case hS => rw [two_off, HE.out]
      case hn => rw [two_off, arr_size]; simp
    · have he : ended l = l ++ [13, 10] := by unfold ended; rw [if_neg]; rintro (h | h); exact h0 h; exact hsuf h
      have HE := Lib.hid (show stuff l = stm 2 (l ++ [13, 10]) ++ [46, 13, 10] by unfold stuff; rw [he])
      have hR := replace_any ⟨(l ++ [13, 10]).toArray⟩ w (by rw [arr_size]; simp; omega) hM
      rw [arr_list, ← crlf_off] at hR
      have hS : Calls Tryd.prog 35 #[.string ⟨l.toArray⟩, .string ⟨#[13, 10]⟩] w fun e w' => e = .returned (.bool false) ∧ w' = w := by
        refine (Tryd.strings_HasSuffix ⟨l.toArray⟩ ⟨#[13, 10]⟩ w (by rw [arr_size]; omega)).mono fun e w' ⟨h1, h2⟩ => ⟨?_, h2⟩
        rw [h1, arr_list]
        unfold Lib.hasSuffix
        rw [show (⟨#[13, 10]⟩ : ByteArray).data.toList = [13, 10] from rfl, Bool.eq_false_iff.2 hsuf]
      have hT : (stm 2 (l ++ [13, 10])).length ≤ 2 * l.length + 4 := by have := stm_len (l ++ [13, 10]) 2; simp only [List.length_append, List.length_cons, List.length_nil] at this; omega
      have hsz := arr_size (13 :: 10 :: stm 2 (l ++ [13, 10]))
      have h2 : 2 ≤ (⟨(13 :: 10 :: stm 2 (l ++ [13, 10])).toArray⟩ : ByteArray).size := by rw [hsz]; simp
      clear hsz he hsuf h0
      go_enter Tryd.func15, Tryd.ntmps15
      go_wp2_with (first | (go_at_call 35; refine hS.mono ?_; rintro e w1 ⟨rfl, hw⟩; rw [hw]) | (go_at_call 36; refine hR.mono ?_; rintro e w1 ⟨rfl, hb⟩) | (refine wpL_tobytes (w0 := w) rfl rfl rfl hb (by unfold maxLen; rw [two_off, arr_size]; simp only [List.length_append, List.length_cons, List.length_nil] at hT ⊢; omega) ?_; intro cap' w2 hr h3 h4 hb2))
      go_ret
      show StuffPost w l (.returned (.slice (some ⟨w1.heap.size, 0, none⟩) _ cap')) w2
      refine stuff_end ?hS hr h3 h4 ?hn
      case hS => rw [two_off, HE.out]
      case hn => rw [two_off, arr_size]; simp
end Go.Proofs.YtdikgifgapbocaaDoor
