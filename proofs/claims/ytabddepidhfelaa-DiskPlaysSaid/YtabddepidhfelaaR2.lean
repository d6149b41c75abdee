/- What Read of the document's own disk does. -/
import Derived.Test.YtabddepidhfelaaR1
set_option linter.unusedSimpArgs false
namespace Go.Proofs.Ytabddepidhfelaa
open Go.RowKit

/-- The writes of a row, done one behind the other. -/
def replay (B : Int → Option (Array Value)) (l : List (Int × Array Value)) : Int → Option (Array Value) := l.foldl (fun f p => updF f p.1 p.2) B
theorem replay_take {B : Int → Option (Array Value)} {l : List (Int × Array Value)} {k : Nat} {p : Int × Array Value} (h : l[k]? = some p) : replay B (l.take (k + 1)) = updF (replay B (l.take k)) p.1 p.2 := by
  unfold replay
  rw [List.take_add_one, h, Option.toList_some, List.foldl_append]
  rfl

def RS.reach (R : RS) (i : Int) : Int := if R.off = true then 2 else if i < 0 ∨ (R.n : Int) ≤ i then 10 else 0

set_option maxHeartbeats 400000 in
theorem rread_no {w : World} {r : Nat} {G : List Nat} {R : RS} (h : RAt w r G R) (i : Int) (hr : R.reach i ≠ 0) :
    Calls Try.prog 39 #[.pointer (some ⟨r, 0, none⟩), .int .i64 i] w fun e w' => e = .returned (.tuple #[.slice none 0 0, .int .i64 (R.reach i)]) ∧ w = w' := by
  obtain ⟨bv, lv, h⟩ := h
  obtain ⟨c0, c1, c2, c3, c4, c5, fz⟩ := h.cells
  obtain ⟨g, cap, rfl, _⟩ := h.b
  clear h
  cases hb : R.off with
  | true =>
    rw [hb] at c2
    have e : R.reach i = 2 := by simp [RS.reach, hb]
    rw [e]
    clear hr hb e
    go_enter Try.func39, Try.ntmps39
    go_wp2
    go_ret2
    exact ⟨rfl, rfl⟩
  | false =>
    rw [hb] at c2
    by_cases h1 : i < 0
    · have e : R.reach i = 10 := by simp [RS.reach, hb, h1]
      rw [e]
      clear hr hb e
      go_enter Try.func39, Try.ntmps39
      go_wp2
      go_ret2
      exact ⟨rfl, rfl⟩
    · by_cases h2 : (R.n : Int) ≤ i
      · have e : R.reach i = 10 := by simp [RS.reach, hb, h2]
        rw [e]
        clear hr hb e
        go_enter Try.func39, Try.ntmps39
        go_wp2
        go_ret2
        exact ⟨rfl, rfl⟩
      · exact absurd (by simp [RS.reach, hb, h1, h2]) hr

section
variable {ops : Array Oper} {rest : List Oper} {o : Oper} {a : Act} {Q : Exit → Act → World → Prop} {w : World} {G : List Nat}
/-- 'copy(b, s)' into the row of 64 bytes that was made last. -/
theorem wpL_copy5 {c : Int} {x y : Operand} {sv : Value} {q : Option (Array Value)} (hg : o.guard = none) (ho : o.op = .call { callee := .builtin .copy, args := #[x, y], argTypes := #[37, 37] })
    (hx : a.eval x = .slice (some ⟨w.heap.size, 0, none⟩) 64 64) (hy : a.eval y = sv) (hs : SecIs w G sv q) (hG : ∀ x ∈ G, x < w.heap.size)
    (h : ∀ u c', q.getD (fullA c) = fullA c' → wpList Try.prog ops Q rest (a.put o.dst u) (w.alloc (.cells (fullA c') 5))) : wpList Try.prog ops Q (o :: rest) a (w.alloc (.cells (fullA c) 5)) := by
  rcases hs with ⟨rfl, rfl⟩ | ⟨v, rfl, g, cap, c', rfl, hg', rfl, hcell⟩
  · have hr := run_copy_nil (P := Try.prog) (w.alloc (.cells (fullA c) 5)) 37 37 o.type 5 ⟨w.heap.size, 0, none⟩ 64 64 Try.underlying37 (by kernel_rfl)
    refine wpL_value hg ?_ (h (goInt 0) c rfl)
    unfold execOp
    simp only [ho, resolve, invoke, builtin, Sem.run_bind, Sem.run_pure, Result.andThen_ok, List.map_toArray, List.map_cons, List.map_nil, hx, hy, hr]
  · have hl : (fullA c').toList.length = 64 := by simp [fullA]
    have hr := run_copy_row (P := Try.prog) (w.alloc (.cells (fullA c) 5)) 37 37 o.type 5 w.heap.size 0 64 64 ⟨g, 0, none⟩ 64 cap (fullA c) 5 (fullA c').toList Try.underlying37 (by kernel_rfl) (heap_alloc_last w _) (by rw [hl]; rfl)
      (fun j u hu => by
        rw [Addr.add_mid, Nat.zero_add, World.cell?_alloc_lt _ _ _ (hG g hg')]
        have hj : j < 64 := by rw [← hl]; exact (List.getElem?_eq_some_iff.1 hu).1
        rw [hcell j hj, ← hu, Array.getElem?_toList]
        simp [fullA, hj]) (by rw [hl]; simp [fullA]) (fun u hu => (Array.all_eq_true_iff_forall_mem.1 (fullA_ok c').2) u (by simpa using hu))
    rw [hl] at hr
    have e : ((fullA c).toList.take 0 ++ (fullA c').toList ++ (fullA c).toList.drop (0 + 64)).toArray = fullA c' := by
      rw [List.take_zero, List.nil_append, List.drop_of_length_le (by simp [fullA]), List.append_nil, Array.toArray_toList]
    rw [e, World.setRow_alloc_new] at hr
    refine wpL_value hg ?_ (h (goInt ((64 : Nat) : Int)) c' rfl)
    unfold execOp
    simp only [ho, resolve, invoke, builtin, Sem.run_bind, Sem.run_pure, Result.andThen_ok, List.map_toArray, List.map_cons, List.map_nil, hx, hy, hr]
end

theorem make64f (w : World) : (Instr.makeSlice 37 (.int .i64 64) (.int .i64 64)).run Try.prog w = .ok (.slice (some ⟨w.heap.size, 0, none⟩) 64 64) (w.alloc (.cells (fullA 0) 5)) := make64 w

set_option maxHeartbeats 400000 in
theorem rread_ok {w : World} {r : Nat} {G : List Nat} {R : RS} (h : RAt w r G R) (i : Nat) (hoff : R.off = false) (hi : i < R.n) (hlen : R.L.length < 1000000000) :
    Calls Try.prog 39 #[.pointer (some ⟨r, 0, none⟩), .int .i64 i] w fun e w' => e = .returned (.tuple #[.slice (some ⟨w.heap.size, 0, none⟩) 64 64, .int .i64 0]) ∧ ∃ c, (replay R.B R.L i).getD Z = fullA c ∧ w' = w.alloc (.cells (fullA c) 5) := by
  obtain ⟨bv, lv, h⟩ := h
  obtain ⟨c0, c1, c2, c3, c4, c5, fz⟩ := h.cells
  rw [hoff] at c2
  have hr : r < w.heap.size := (Array.getElem?_eq_some_iff.1 h.row).1
  have n2 := h.ok.n2
  have HG := Lib.hid h.lt
  have HL := Lib.hid h.l
  obtain ⟨g, cap, rfl, hg, hB⟩ := h.b
  obtain ⟨sv, csv, hsv⟩ := hB i hi
  have hglt := h.lt g hg
  obtain ⟨la, lcap, rfl⟩ : ∃ a cap, lv = .slice a R.L.length cap := by
    rcases h.l with ⟨h1, h2⟩ | ⟨g, cap, h1, _⟩
    · exact ⟨none, 0, by rw [h1, h2]; rfl⟩
    · exact ⟨_, _, h1⟩
  have SV := Lib.hid hsv
  have hmk := make64f
  clear h hB hsv hoff
  go_enter Try.func39, Try.ntmps39
  go_wp2_with (refine wpL_copy5 rfl rfl rfl rfl SV.out HG.out ?_; intro u c hc)
  have HC := Lib.hid hc
  clear hc
  go_loopw [7] (fun q wr => ∃ k : Nat, k ≤ R.L.length ∧ q = .int .i64 k ∧ ∃ c, (replay R.B (R.L.take k) i).getD Z = fullA c ∧ wr = w.alloc (.cells (fullA c) 5)) (fun i _ => R.L.length - (intOf i).toNat)
  case atStart => exact ⟨0, by omega, rfl, c, HC.out, rfl⟩
  case round =>
    clear HC
    obtain ⟨k, hk, rfl, c, hc, rfl⟩ := hrel
    by_cases hlt : k < R.L.length
    · obtain ⟨p, hp⟩ : ∃ p, R.L[k]? = some p := ⟨R.L[k], List.getElem?_eq_getElem hlt⟩
      rcases HL.out with ⟨_, h2⟩ | ⟨lg, lcap', hlv, hlg, hput⟩
      · rw [h2] at hlt; simp at hlt
      cases hlv
      obtain ⟨p1, psv, p2, p3⟩ := hput k p hp
      have hlglt := HG.out lg hlg
      have RT := Lib.hid (replay_take (B := R.B) hp)
      have HC := Lib.hid hc
      have P3 := Lib.hid p3
      clear hc hput hp p3
      by_cases he : p.1 = i
      · have heq : (p.1 == (i : Int)) = true := by simpa using he
        have HE := Lib.hid he
        clear he
        go_wp2_with (refine wpL_copy5 rfl rfl rfl rfl (.inr ⟨_, rfl, P3.out⟩) HG.out ?_; intro u c hc)
        have HC2 := Lib.hid hc
        clear hc
        go_roundw
        case rel => exact ⟨k + 1, by omega, by go_num, c, by rw [RT.out]; simp only [updF]; rw [if_pos HE.out.symm]; exact HC2.out, rfl⟩
        case measure => simp [intOf]; omega
      · have heq : (p.1 == (i : Int)) = false := by simpa using he
        have HE := Lib.hid he
        clear he
        go_wp2
        go_roundw
        case rel => exact ⟨k + 1, by omega, by go_num, c, by rw [RT.out]; simp only [updF]; rw [if_neg (fun e => HE.out e.symm)]; exact HC.out, rfl⟩
        case measure => simp [intOf]; omega
    · have : k = R.L.length := by omega
      subst this
      rw [List.take_length] at hc
      go_wp2
      go_ret2
      exact ⟨rfl, c, hc, rfl⟩

end Go.Proofs.Ytabddepidhfelaa
