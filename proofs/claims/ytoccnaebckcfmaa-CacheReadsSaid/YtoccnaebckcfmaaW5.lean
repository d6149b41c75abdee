/- Puts in memory; what writeAll does. -/
import Derived.Test.YtoccnaebckcfmaaW4
set_option linter.unusedSimpArgs false
set_option linter.unusedVariables false
set_option maxRecDepth 8000
namespace Go.Proofs.Ytoccnaebckcfmaa
open Go.RowKit

def St.write (S : St) (i : Int) (v : Array Value) : St := (S.stepped.kept i).written i v
def St.doWrite (S : St) (i : Int) (v : Array Value) : Int × St := if S.reach i ≠ 0 then (S.reach i, S) else if S.fuse = 0 then (2, S.fallen) else (0, S.write i v)
def St.doBarrier (S : St) : Int × St := if S.on = false then (2, S) else if S.fuse = 0 then (2, S.fallen) else (0, S.stepped.settled)

/-- A slice of 64 bytes that holds v, outside the blocks F. -/
def Bytes64 (w : World) (F : List Nat) (av : Value) (v : Array Value) : Prop := SecOk v ∧ ∃ g o cap, av = .slice (some ⟨g, o, none⟩) 64 cap ∧ g < w.heap.size ∧ g ∉ F ∧ w.rangeAt g o v.toList

theorem Bytes64.only {w w' : World} {F G : List Nat} {av : Value} {v : Array Value} (h : Bytes64 w F av v) (ho : Only G w w') (hG : ∀ x ∈ G, x ∈ F ∨ w.heap.size ≤ x) : Bytes64 w' F av v := by
  obtain ⟨h1, g, o, cap, h2, h3, h4, h5⟩ := h
  refine ⟨h1, g, o, cap, h2, Nat.lt_of_lt_of_le h3 ho.size, h4, fun j u hu => ?_⟩
  rw [World.cell?_of_block (w := w) (ho.block g h3 (fun hx => by rcases hG g hx with h | h; exact h4 h; omega))]
  exact h5 j u hu
theorem Bytes64.foot {w : World} {F F' : List Nat} {av : Value} {v : Array Value} (h : Bytes64 w F av v) (hF : ∀ x ∈ F', x ∈ F ∨ w.heap.size ≤ x) : Bytes64 w F' av v := by
  obtain ⟨h1, g, o, cap, h2, h3, h4, h5⟩ := h
  exact ⟨h1, g, o, cap, h2, h3, fun hx => by rcases hF g hx with h | h; exact h4 h; omega, h5⟩

theorem write_do {w : World} {b : Nat} {F : List Nat} {S : St} {av : Value} {v : Array Value} (h : DAt w b F S) (i : Int) (hv : Bytes64 w F av v) (hs : S.steps < 1000000000) (hp : S.pend.length < 1000000000) :
    Calls Try.prog 83 #[.pointer (some ⟨b, 0, none⟩), .int .i64 i, av] w fun e w' => e = .returned (.int .i64 (S.doWrite i v).1) ∧ DPost w w' b F (S.doWrite i v).2 := by
  obtain ⟨h1, g, o, cap, rfl, h3, h4, h5⟩ := hv
  have hsame : DPost w w b F S := ⟨F, h, fun x hx => .inl hx, Only.refl _ _⟩
  unfold St.doWrite
  by_cases hr : S.reach i = 0
  · rw [if_neg (by simp [hr])]
    by_cases hf : S.fuse = 0
    · rw [if_pos hf]
      exact write_fall h i _ cap hr hf
    · rw [if_neg hf]
      exact write_ok h i g o cap v h1 h5 h3 h4 hr hf hs hp
  · rw [if_pos hr]
    refine (write_no h i _ hr).mono ?_
    rintro e w' ⟨rfl, rfl⟩
    exact ⟨rfl, hsame⟩

theorem barrier_do {w : World} {b : Nat} {F : List Nat} {S : St} (h : DAt w b F S) (hs : S.steps < 1000000000) :
    Calls Try.prog 84 #[.pointer (some ⟨b, 0, none⟩)] w fun e w' => e = .returned (.int .i64 S.doBarrier.1) ∧ DPost w w' b F S.doBarrier.2 := by
  have hsame : DPost w w b F S := ⟨F, h, fun x hx => .inl hx, Only.refl _ _⟩
  unfold St.doBarrier
  cases hon : S.on with
  | false =>
    rw [if_pos rfl]
    refine (barrier_off h hon).mono ?_
    rintro e w' ⟨rfl, rfl⟩
    exact ⟨rfl, hsame⟩
  | true =>
    rw [if_neg (by simp)]
    by_cases hf : S.fuse = 0
    · rw [if_pos hf]; exact barrier_fall h hon hf
    · rw [if_neg hf]; exact barrier_ok h hon hf hs

def St.writes (S : St) : List (Int × Array Value) → Int × St
  | [] => (0, S)
  | p :: ps => if (S.doWrite p.1 p.2).1 = 0 then (S.doWrite p.1 p.2).2.writes ps else S.doWrite p.1 p.2
def St.writeAll (S : St) (ps : List (Int × Array Value)) : Int × St := if (S.writes ps).1 = 0 then (S.writes ps).2.doBarrier else S.writes ps

theorem doWrite_zero {S : St} {i : Int} {v : Array Value} (h : (S.doWrite i v).1 = 0) : (S.doWrite i v).2 = S.write i v := by
  unfold St.doWrite at h ⊢
  split at h
  · rename_i hr; exact absurd h hr
  · split at h
    · simp at h
    · rename_i hr hf
      rw [if_neg hr, if_neg hf]

/-- A slice of puts, outside the blocks F. -/
structure PutsAt (w : World) (F : List Nat) (lv : Value) (ps : List (Int × Array Value)) : Prop where
  shape : ∃ a cap, lv = .slice a ps.length cap ∧ ps.length ≤ 1000000 ∧ ∀ i p, ps[i]? = some p → ∃ g o av, a = some ⟨g, o, none⟩ ∧ g < w.heap.size ∧ g ∉ F ∧ w.cell? ⟨g, o + i * 2, none⟩ = some (.int .i64 p.1) ∧ w.cell? ⟨g, o + i * 2 + 1, none⟩ = some av ∧ Bytes64 w F av p.2

theorem PutsAt.only {w w' : World} {F G : List Nat} {lv : Value} {ps : List (Int × Array Value)} (h : PutsAt w F lv ps) (ho : Only G w w') (hG : ∀ x ∈ G, x ∈ F ∨ w.heap.size ≤ x) : PutsAt w' F lv ps := by
  obtain ⟨a, cap, h1, h2, h3⟩ := h.shape
  refine ⟨a, cap, h1, h2, fun i p hp => ?_⟩
  obtain ⟨g, o, av, e1, e2, e3, e4, e5, e6⟩ := h3 i p hp
  have hb := ho.block g e2 (fun hx => by rcases hG g hx with h | h; exact e3 h; omega)
  exact ⟨g, o, av, e1, Nat.lt_of_lt_of_le e2 ho.size, e3, (World.cell?_of_block hb).trans e4, (World.cell?_of_block hb).trans e5, e6.only ho hG⟩
theorem PutsAt.foot {w : World} {F F' : List Nat} {lv : Value} {ps : List (Int × Array Value)} (h : PutsAt w F lv ps) (hF : ∀ x ∈ F', x ∈ F ∨ w.heap.size ≤ x) : PutsAt w F' lv ps := by
  obtain ⟨a, cap, h1, h2, h3⟩ := h.shape
  refine ⟨a, cap, h1, h2, fun i p hp => ?_⟩
  obtain ⟨g, o, av, e1, e2, e3, e4, e5, e6⟩ := h3 i p hp
  exact ⟨g, o, av, e1, e2, fun hx => by rcases hF g hx with h | h; exact e3 h; omega, e4, e5, e6.foot hF⟩

theorem Bytes64.step {w w' : World} {F F' G : List Nat} {av : Value} {v : Array Value} (h : Bytes64 w F av v) (ho : Only G w w') (hG : ∀ x ∈ G, x ∈ F ∨ w.heap.size ≤ x) (hF : ∀ x ∈ F', x ∈ F ∨ w.heap.size ≤ x) : Bytes64 w' F' av v := by
  obtain ⟨h1, g, o, cap, h2, h3, h4, h5⟩ := h
  refine ⟨h1, g, o, cap, h2, Nat.lt_of_lt_of_le h3 ho.size, fun hx => by rcases hF g hx with h | h; exact h4 h; omega, fun j u hu => ?_⟩
  rw [World.cell?_of_block (w := w) (ho.block g h3 (fun hx => by rcases hG g hx with h | h; exact h4 h; omega))]
  exact h5 j u hu
theorem PutsAt.step {w w' : World} {F F' G : List Nat} {lv : Value} {ps : List (Int × Array Value)} (h : PutsAt w F lv ps) (ho : Only G w w') (hG : ∀ x ∈ G, x ∈ F ∨ w.heap.size ≤ x) (hF : ∀ x ∈ F', x ∈ F ∨ w.heap.size ≤ x) : PutsAt w' F' lv ps := by
  obtain ⟨a, cap, h1, h2, h3⟩ := h.shape
  refine ⟨a, cap, h1, h2, fun i p hp => ?_⟩
  obtain ⟨g, o, av, e1, e2, e3, e4, e5, e6⟩ := h3 i p hp
  have hb := ho.block g e2 (fun hx => by rcases hG g hx with h | h; exact e3 h; omega)
  exact ⟨g, o, av, e1, Nat.lt_of_lt_of_le e2 ho.size, fun hx => by rcases hF g hx with h | h; exact e3 h; omega, (World.cell?_of_block hb).trans e4, (World.cell?_of_block hb).trans e5, e6.step ho hG hF⟩

theorem writes_drop {S Sk : St} {ps : List (Int × Array Value)} {k : Nat} {p : Int × Array Value} (hp : ps[k]? = some p) : Sk.writes (ps.drop k) = if (Sk.doWrite p.1 p.2).1 = 0 then (Sk.doWrite p.1 p.2).2.writes (ps.drop (k + 1)) else Sk.doWrite p.1 p.2 := by
  have hk := (List.getElem?_eq_some_iff.1 hp).1
  have he := (List.getElem?_eq_some_iff.1 hp).2
  rw [List.drop_eq_getElem_cons hk, he]
  rfl

set_option maxHeartbeats 1000000 in
theorem writeAll_any {w : World} {b : Nat} {F : List Nat} {S : St} {lv : Value} {ps : List (Int × Array Value)} (h : DAt w b F S) (hl : PutsAt w F lv ps) (hs : S.steps + ps.length < 1000000000) (hp : S.pend.length + ps.length < 1000000000) :
    Calls Try.prog 71 #[.pointer (some ⟨b, 0, none⟩), lv] w fun e w' => e = .returned (.int .i64 (S.writeAll ps).1) ∧ DPost w w' b F (S.writeAll ps).2 := by
  obtain ⟨a, cap, rfl, hlen, -⟩ := hl.shape
  have HL := Lib.hid hl
  have H0 : Hid (DPost w w b F S) := (⟨F, h, fun x hx => .inl hx, Only.refl _ _⟩ : DPost w w b F S)
  clear hl h
  go_enter Try.func71, Try.ntmps71
  go_wp2
  go_loopw [10] (fun i wr => ∃ (k : Nat) (Sk : St), k ≤ ps.length ∧ i = .int .i64 k ∧ S.writes ps = Sk.writes (ps.drop k) ∧ Sk.steps ≤ S.steps + k ∧ Sk.pend.length ≤ S.pend.length + k ∧ DPost w wr b F Sk) (fun i _ => ps.length - (intOf i).toNat)
  case atStart => exact ⟨0, S, by omega, rfl, rfl, by simp, by simp, H0.out⟩
  case round =>
    obtain ⟨k, Sk, hk, rfl, hw, hst, hpd, F', hd, hF', ho⟩ := hrel
    have hl' := HL.out.step ho (fun x hx => .inl hx) hF'
    by_cases hlt : k < ps.length
    · obtain ⟨p, hp'⟩ : ∃ p, ps[k]? = some p := ⟨_, List.getElem?_eq_getElem hlt⟩
      obtain ⟨a', cap', hsh, -, hall⟩ := hl'.shape
      cases hsh
      obtain ⟨g, o, av, rfl, g1, g2, c0, c1, hv⟩ := hall k p hp'
      have oa := (Only.refl [] wr).alloc (.cells #[.int .i64 p.1, av] 112)
      have WD := Lib.hid (write_do (hd.alloc (.cells #[.int .i64 p.1, av] 112)) p.1 (hv.only oa (by simp)) (by omega) (by omega))
      have HAV : Hid (∃ g o cap, av = .slice (some ⟨g, o, none⟩) 64 cap) := (by obtain ⟨_, g, o, cap, h2, _⟩ := hv; exact ⟨g, o, cap, h2⟩ : ∃ g o cap, av = .slice (some ⟨g, o, none⟩) 64 cap)
      have KEEP := Lib.hid (And.intro hd (And.intro hF' (And.intro ho hw)))
      clear hall hl' hv hd hF' ho hw
      obtain ⟨g3, o3, cap3, rfl⟩ := HAV.out
      clear HAV
      by_cases hz : (Sk.doWrite p.1 p.2).1 = 0
      · go_wp2_with (go_at_call 83; refine WD.out.mono ?_; rintro e w' ⟨rfl, hpost⟩)
        go_roundw
        case rel =>
          obtain ⟨hd, hF', ho, hw⟩ := KEEP.out
          have hd2 := doWrite_zero hz
          refine ⟨k + 1, _, by omega, by go_num, by rw [hw, writes_drop (S := S) hp', if_pos hz], ?_, ?_, DPost.trans (ho.alloc _) hF' hpost⟩
          · rw [hd2]; simp only [St.write, St.written, St.kept, St.stepped]; omega
          · rw [hd2]; simp only [St.write, St.written, St.kept, St.stepped, List.length_append, List.length_singleton]; omega
        case measure => simp [intOf]; omega
      · go_wp2_with (go_at_call 83; refine WD.out.mono ?_; rintro e w' ⟨rfl, hpost⟩)
        go_ret
        obtain ⟨hd, hF', ho, hw⟩ := KEEP.out
        have he : S.writeAll ps = Sk.doWrite p.1 p.2 := by
          have : S.writes ps = Sk.doWrite p.1 p.2 := by rw [hw, writes_drop (S := S) hp', if_neg hz]
          rw [St.writeAll, this, if_neg hz]
        rw [he]
        exact ⟨rfl, DPost.trans (ho.alloc _) hF' hpost⟩
    · have hkl : k = ps.length := by omega
      subst hkl
      have hw' : S.writes ps = (0, Sk) := by rw [hw, List.drop_length]; rfl
      have he : S.writeAll ps = Sk.doBarrier := by rw [St.writeAll, hw']; simp
      have BD := Lib.hid (barrier_do hd (by omega))
      have KEEP := Lib.hid (And.intro hF' (And.intro ho he))
      clear hl' hd hF' ho hw hw' he
      go_wp2_with (go_at_call 84; refine BD.out.mono ?_; rintro e w' ⟨rfl, hpost⟩)
      go_ret
      obtain ⟨hF', ho, he⟩ := KEEP.out
      rw [he]
      exact ⟨rfl, DPost.trans ho hF' hpost⟩

end Go.Proofs.Ytoccnaebckcfmaa
