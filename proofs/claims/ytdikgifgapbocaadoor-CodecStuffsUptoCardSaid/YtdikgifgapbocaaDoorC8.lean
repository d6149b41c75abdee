/- codec.decodeLetters. -/
import Derived.Test.YtdikgifgapbocaaDoorC7
set_option linter.unusedSimpArgs false
set_option linter.unusedVariables false
namespace Go.Proofs.YtdikgifgapbocaaDoor
open Go.RowKit Go.Shelf

section
variable {ops : Array Oper} {rest : List Oper} {o : Oper} {act : Act} {Q : Exit → Act → World → Prop}
theorem wpL_obx {w0 w : World} {a : Option Addr} {cap : Nat} {l : List UInt8} {s x : Operand} (c : UInt8) {xv : Int} {n : Nat} (hgd : o.guard = none) (ho : o.op = .call { callee := .builtin .append, args := #[s, x], argTypes := #[22, 22] })
    (hs : act.eval s = .slice a n cap) (hob : OB w0 w a cap l) (hn : l.length = n) (hx : act.eval x = .slice (some ⟨w.heap.size, 0, none⟩) 1 1) (hcx : (c.toNat : Int) = xv) (hl : l.length < 70368744177664)
    (h : ∀ a' cap' w', OB w0 w' a' cap' (l ++ [c]) → Lib.OthersKept 5 none w w' → wpList Tryd.prog ops Q rest (act.put o.dst (.slice a' (n + 1) cap')) w') :
    wpList Tryd.prog ops Q (o :: rest) act (w.alloc (.cells #[.int .u8 xv] 5)) := by
  obtain ⟨i0, hi, hz0, hz1, hz2⟩ := infoB
  subst hn
  subst hcx
  refine wpList_append_own _ hgd s x 22 ho w0.heap.size 5 i0 (.int .u8 0) 1 1 Tryd.underlying22 hi hz0 hz1 hz2 rfl (by decide) _ _ _ hs (hob.alloc _).own ⟨w.heap.size, 0, none⟩ 1 1 [.int .u8 c.toNat] hx rfl ?_ ?_ ?_ ?_ ?_ ?_
  · intro j u hj
    match j, hj with
    | 0, hj => simp at hj; subst hj; simp [Addr.add]
  · intro u hu; simp at hu; subst hu; rfl
  · unfold maxLen; omega
  · omega
  · have := hob.size; simp; omega
  · intro v' w' hown hg _
    have hlen : (l ++ [c]).length = l.length + 1 := by simp
    obtain ⟨a', cap', rfl⟩ : ∃ a' cap', v' = .slice a' (l.length + 1) cap' := by
      rcases hown.2 with ⟨_, e⟩ | ⟨g, cap', cur, e1, _⟩
      · omega
      · exact ⟨_, _, e1⟩
    refine h a' cap' w' ⟨?_, ?_⟩ ?_
    · rw [hlen, Lib.byteCells_append]
      exact hown
    · exact (hob.alloc _).bel.grown hg (hob.alloc (.cells #[.int .u8 c.toNat] 5)).size (fun k hk => (hob.own.lt k hk).1)
    · exact ((Lib.OthersKept.refl 5 none w).alloc _).grown hg (Lib.ownsRowF_kind (World.ownsRowF_of (hob.alloc _).own))
end
theorem kept_iter {w w' : World} {k pos : Nat} {s : ByteArray} (h : Lib.OthersKept 5 none w w') (hk : w.heap[k]? = some (.stringIter s pos)) : w'.heap[k]? = some (.stringIter s pos) := h k _ hk (by simp) (by simp)
theorem OB.iterAt {w0 w : World} {a : Option Addr} {cap : Nat} {l : List UInt8} (h : OB w0 w a cap l) {k : Nat} {s : ByteArray} {pos : Nat} (hk : w.heap[k]? = some (.stringIter s pos)) (h0 : w0.heap.size ≤ k) (pos' : Nat) : OB w0 (w.iterAt k s pos') a cap l := by
  refine ⟨⟨h.own.1, ?_⟩, Lib.below_iterAt h.bel h0 s pos'⟩
  rcases h.own.2 with hn | ⟨g, cap', cur, e1, e2, e3, rest⟩
  · exact .inl hn
  · refine .inr ⟨g, cap', cur, e1, e2, ?_, rest⟩
    rw [Lib.iterAt_other]
    · exact e3
    · intro e
      rw [e, hk] at e3
      cases e3

def DecPost (w : World) (r : Option (List UInt8)) (e : Ending) (w' : World) : Prop :=
  match r with
  | none => e = .returned (.tuple #[.slice none 0 0, .bool false]) ∧ Below w.heap.size w w'
  | some out => ∃ a cap, e = .returned (.tuple #[.slice a out.length cap, .bool true]) ∧ OB w w' a cap out
theorem val_high (c : Int) (h : 128 ≤ c) : val c < 0 := by unfold val; repeat' split <;> omega
theorem alphB_list : alphB.data.toList = alph := by kernel_rfl
theorem i64_or6 (n v : Nat) (hn : n < 64) (hv : v < 64) : bits .or .i64 ((n : Int) * 64) (v : Int) = (n : Int) * 64 + v := i64_join 6 _ _ (by omega) (by omega) (by omega) (by omega) (by omega) (by omega)

theorem andu0 (u v : Nat) (h : u < 64) (hv : v < 64) : bits .and .i64 ((u : Int) * 64 + (v : Int)) 0 = 0 := by have := i64_mask 0 (by decide) ((u : Int) * 64 + (v : Int)) (by omega) (by omega); simpa using this
theorem andu3 (u v : Nat) (h : u < 64) (hv : v < 64) : bits .and .i64 ((u : Int) * 64 + (v : Int)) 3 = (((u * 64 + v) % 4 : Nat) : Int) := by have := i64_mask 2 (by decide) ((u : Int) * 64 + (v : Int)) (by omega) (by omega); simp at this; rw [this]; omega
theorem andu15 (u v : Nat) (h : u < 64) (hv : v < 64) : bits .and .i64 ((u : Int) * 64 + (v : Int)) 15 = (((u * 64 + v) % 16 : Nat) : Int) := by have := i64_mask 4 (by decide) ((u : Int) * 64 + (v : Int)) (by omega) (by omega); simp at this; rw [this]; omega
theorem idxLow (c : UInt8) (hc : c.toNat < 128) (w : World) : Calls Tryd.prog 44 #[.string alphB, .int .i32 c.toNat] w fun e w' => e = .returned (.int .i64 (val c.toNat)) ∧ w' = w := by
  refine (Tryd.strings_IndexRune_ascii alphB c.toNat w (by omega) (by omega)).mono fun e w' ⟨he, hw⟩ => ⟨?_, hw⟩
  rw [he, alphB_list]
  have : ((c.toNat : Int)).toNat.toUInt8 = c := by simp
  rw [this, val_index]
theorem drop_at (s : ByteArray) (pos : Nat) (h : pos < s.size) : s.data.toList.drop pos = s[pos]'h :: s.data.toList.drop (pos + 1) := by
  rw [List.drop_eq_getElem_cons (by simpa using h)]; rfl
theorem dec_none {out : List UInt8} {u k : Nat} {c : UInt8} {t : List UInt8} (h : val c.toNat < 0) : dec out u k (c :: t) = none := by rw [dec, if_pos h]
theorem dec_few {out : List UInt8} {u k : Nat} {c : UInt8} {t : List UInt8} (h : ¬ val c.toNat < 0) (hk : k = 0) : dec out u k (c :: t) = dec out (u * 64 + (val c.toNat).toNat) 6 t := by subst hk; rw [dec, if_neg h, if_neg (by omega)]
theorem dec_more {out : List UInt8} {u k : Nat} {c : UInt8} {t : List UInt8} (h : ¬ val c.toNat < 0) (hk : 2 ≤ k) : dec out u k (c :: t) = dec (out ++ [UInt8.ofNat ((u * 64 + (val c.toNat).toNat) / 2 ^ (k - 2))]) ((u * 64 + (val c.toNat).toNat) % 2 ^ (k - 2)) (k - 2) t := by rw [dec, if_neg h, if_pos (by omega)]
theorem toNat_ofNat_mod (n : Nat) : ((UInt8.ofNat n).toNat : Int) = (n : Int) % 256 := by
  simp [UInt8.toNat_ofNat]

set_option maxHeartbeats 4000000 in
set_option maxRecDepth 1000000 in
theorem decodeLetters_any (s : ByteArray) (w : World) (hs : s.size ≤ 8388608) :
    Calls Tryd.prog 31 #[.string s] w (DecPost w (dec [] 0 0 s.data.toList)) := by
  go_enter Tryd.func31, Tryd.ntmps31
  go_wp2
  go_outline
  go_loopw [4, 5, 6] (fun v n many wr => ∃ (pos k u : Nat) (a' : Option Addr) (cap' : Nat) (acc : List UInt8), (k = 0 ∧ u = 0 ∨ k = 2 ∧ u < 4 ∨ k = 4 ∧ u < 16 ∨ k = 6 ∧ u < 64) ∧ v = .slice a' acc.length cap' ∧ n = .int .i64 u ∧ many = .int .i64 k ∧ wr.heap[w.heap.size]? = some (.stringIter s pos) ∧ OB w wr a' cap' acc ∧ dec acc u k (s.data.toList.drop pos) = dec [] 0 0 s.data.toList ∧ acc.length ≤ pos) (fun v n many wr => s.size - wr.iterPos w.heap.size)
  case atStart =>
    exact ⟨0, 0, 0, none, 0, [], .inl ⟨rfl, rfl⟩, rfl, rfl, rfl, World.iter_heap w s 0, (OB.nil w).alloc _, rfl, by simp⟩
  case round =>
    obtain ⟨pos, k, u, a', cap', acc, hk, rfl, rfl, rfl, hit, hob, hdec, hal⟩ := hrel
    by_cases hp : pos < s.size
    · rw [drop_at s pos hp] at hdec
      have hit2 := fun p' => Lib.iterAt_heap wr w.heap.size s pos p' hit
      have hob2 := fun p' => hob.iterAt hit (Nat.le_refl _) p'
      by_cases hc : (s[pos]'hp).toNat < 128
      · have hnx : ∀ ty, (Instr.next (.pointer (some ⟨w.heap.size, 0, none⟩)) true ty).run Tryd.prog wr = _ := fun ty => Lib.run_next_ascii_at wr w.heap.size s pos ty hit hp hc
        replace hit2 := hit2 (pos + 1)
        replace hob2 := hob2 (pos + 1)
        generalize wr.iterAt w.heap.size s (pos + 1) = w1 at hnx hit2 hob2
        generalize s[pos]'hp = c at hnx hc hdec
        have hv1 := val_lt c.toNat
        have hv2 := val_ge c.toNat
        by_cases hv : val c.toNat < 0
        · rw [dec_none hv] at hdec
          have HD := Lib.hid hdec
          clear hdec
          go_wp2_with (go_at_call 44; refine (idxLow c hc _).mono ?_; rintro e w' ⟨rfl, rfl⟩)
          go_ret2
          rw [← HD.out]
          exact ⟨rfl, hob2.bel⟩
        · have h0 : 0 ≤ val c.toNat := by omega
          rcases hk with ⟨rfl, rfl⟩ | ⟨rfl, hu⟩ | ⟨rfl, hu⟩ | ⟨rfl, hu⟩
          · rw [dec_few hv rfl] at hdec
            generalize hx : val c.toNat = x at *
            have HX := Lib.hid hx
            clear hx
            obtain ⟨v, rfl⟩ : ∃ v : Nat, x = v := ⟨x.toNat, by omega⟩
            rw [show 0 * 64 + (v : Int).toNat = v by omega] at hdec
            have HD := Lib.hid hdec
            clear hdec
            have ho : bits .or .i64 0 (v : Int) = v := by have := i64_or6 0 v (by omega) (by omega); simpa using this
            go_wp2_with (go_at_call 44; refine (idxLow c hc _).mono ?_; rintro e w' ⟨rfl, rfl⟩; have hh := HX.out; rw [hh])
            refine ⟨⟨pos + 1, 6, v, a', cap', acc, .inr (.inr (.inr ⟨rfl, by omega⟩)), rfl, rfl, rfl, hit2, hob2, HD.out, by omega⟩, ?_⟩
            simp only [World.iterPos, hit, hit2]
            omega
          · rw [dec_more hv (by omega)] at hdec
            generalize hx : val c.toNat = x at *
            have HX := Lib.hid hx
            clear hx
            obtain ⟨v, rfl⟩ : ∃ v : Nat, x = v := ⟨x.toNat, by omega⟩
            rw [show u * 64 + (v : Int).toNat = u * 64 + v by omega, show 2 ^ (2 - 2) = 1 by rfl, show 2 - 2 = 0 from rfl] at hdec
            have HD := Lib.hid hdec
            clear hdec
            have ho := i64_or6 u v (by omega) (by omega)
            have hm := andu0 u v (by omega) (by omega)
            have hcc : ((UInt8.ofNat ((u * 64 + v) / 1)).toNat : Int) = ((u : Int) * 64 + v) / 1 := by rw [toNat_ofNat_mod]; omega
            have HCC := Lib.hid hcc
            clear hcc
            go_wp2_with (first | (go_at_call 44; refine (idxLow c hc _).mono ?_; rintro e w' ⟨rfl, rfl⟩; have hh := HX.out; rw [hh]) | (at_builtin; refine wpL_obx (UInt8.ofNat ((u * 64 + v) / 1)) rfl rfl rfl (by assumption) rfl rfl (by first | exact HCC.out | (have := HCC.out; omega)) (by omega) ?_; intro a2 cap2 w2 hob3 hk3))
            refine ⟨⟨pos + 1, 0, 0, a2, cap2, acc ++ [UInt8.ofNat ((u * 64 + v) / 1)], .inl ⟨rfl, rfl⟩, slice_eq (by simp), rfl, rfl, kept_iter hk3 hit2, hob3, by have := HD.out; rwa [Nat.mod_one] at this, by simp; omega⟩, ?_⟩
            simp only [World.iterPos, hit, kept_iter hk3 hit2]
            omega
          · rw [dec_more hv (by omega)] at hdec
            generalize hx : val c.toNat = x at *
            have HX := Lib.hid hx
            clear hx
            obtain ⟨v, rfl⟩ : ∃ v : Nat, x = v := ⟨x.toNat, by omega⟩
            rw [show u * 64 + (v : Int).toNat = u * 64 + v by omega, show 2 ^ (4 - 2) = 4 by rfl, show 4 - 2 = 2 from rfl] at hdec
            have HD := Lib.hid hdec
            clear hdec
            have ho := i64_or6 u v (by omega) (by omega)
            have hm := andu3 u v (by omega) (by omega)
            have hcc : ((UInt8.ofNat ((u * 64 + v) / 4)).toNat : Int) = ((u : Int) * 64 + v) / 4 := by rw [toNat_ofNat_mod]; omega
            have HCC := Lib.hid hcc
            clear hcc
            go_wp2_with (first | (go_at_call 44; refine (idxLow c hc _).mono ?_; rintro e w' ⟨rfl, rfl⟩; have hh := HX.out; rw [hh]) | (at_builtin; refine wpL_obx (UInt8.ofNat ((u * 64 + v) / 4)) rfl rfl rfl (by assumption) rfl rfl (by first | exact HCC.out | (have := HCC.out; omega)) (by omega) ?_; intro a2 cap2 w2 hob3 hk3))
            refine ⟨⟨pos + 1, 2, (u * 64 + v) % 4, a2, cap2, acc ++ [UInt8.ofNat ((u * 64 + v) / 4)], .inr (.inl ⟨rfl, by omega⟩), slice_eq (by simp), by go_num, rfl, kept_iter hk3 hit2, hob3, HD.out, by simp; omega⟩, ?_⟩
            simp only [World.iterPos, hit, kept_iter hk3 hit2]
            omega
          · rw [dec_more hv (by omega)] at hdec
            generalize hx : val c.toNat = x at *
            have HX := Lib.hid hx
            clear hx
            obtain ⟨v, rfl⟩ : ∃ v : Nat, x = v := ⟨x.toNat, by omega⟩
            rw [show u * 64 + (v : Int).toNat = u * 64 + v by omega, show 2 ^ (6 - 2) = 16 by rfl, show 6 - 2 = 4 from rfl] at hdec
            have HD := Lib.hid hdec
            clear hdec
            have ho := i64_or6 u v (by omega) (by omega)
            have hm := andu15 u v (by omega) (by omega)
            have hcc : ((UInt8.ofNat ((u * 64 + v) / 16)).toNat : Int) = ((u : Int) * 64 + v) / 16 := by rw [toNat_ofNat_mod]; omega
            have HCC := Lib.hid hcc
            clear hcc
            go_wp2_with (first | (go_at_call 44; refine (idxLow c hc _).mono ?_; rintro e w' ⟨rfl, rfl⟩; have hh := HX.out; rw [hh]) | (at_builtin; refine wpL_obx (UInt8.ofNat ((u * 64 + v) / 16)) rfl rfl rfl (by assumption) rfl rfl (by first | exact HCC.out | (have := HCC.out; omega)) (by omega) ?_; intro a2 cap2 w2 hob3 hk3))
            refine ⟨⟨pos + 1, 4, (u * 64 + v) % 16, a2, cap2, acc ++ [UInt8.ofNat ((u * 64 + v) / 16)], .inr (.inr (.inl ⟨rfl, by omega⟩)), slice_eq (by simp), by go_num, rfl, kept_iter hk3 hit2, hob3, HD.out, by simp; omega⟩, ?_⟩
            simp only [World.iterPos, hit, kept_iter hk3 hit2]
            omega
      · obtain ⟨hd1, hd2⟩ := decode_high s pos hp (by omega)
        have hd3 := decode_le s pos
        have hnx : ∀ ty, (Instr.next (.pointer (some ⟨w.heap.size, 0, none⟩)) true ty).run Tryd.prog wr = _ := fun ty => Lib.run_next_any_at wr w.heap.size s pos ty hit hp
        generalize (Utf8.decode s pos).1 = d at hnx hd1 hd3
        replace hob2 := hob2 (pos + (Utf8.decode s pos).2)
        generalize wr.iterAt w.heap.size s (pos + (Utf8.decode s pos).2) = w1 at hnx hob2
        rw [dec_none (val_high _ (by omega))] at hdec
        have HD := Lib.hid hdec
        clear hdec hit2
        go_wp2_with (go_at_call 44; refine (indexRune_high d (by omega) (by omega) _).mono ?_; rintro e w' ⟨rfl, hb⟩)
        go_ret2
        rw [← HD.out]
        exact ⟨rfl, hob2.bel.trans (hb.mono hob2.size)⟩
    · have hnx : ∀ ty, (Instr.next (.pointer (some ⟨w.heap.size, 0, none⟩)) true ty).run Tryd.prog wr = _ := fun ty => Lib.run_next_end_at wr w.heap.size s pos ty hit hp
      rw [List.drop_eq_nil_of_le (by simpa using hp), dec] at hdec
      have HD := Lib.hid hdec
      clear hdec
      go_wp2
      go_ret2
      rw [← HD.out]
      exact ⟨_, _, rfl, hob⟩
end Go.Proofs.YtdikgifgapbocaaDoor
