/- Proved: CacheCrashes returns true for every input, and each argument reads afterwards as it read before. No condition beyond the row's own. -/
import Derived.Test.YtoccnaebckcfmaaG6
import Derived.Test.YtoccnaebckcfmaaG3
import Derived.Laws.Externs
import Derived.Deep.DeepCutAuto
section
set_option linter.unusedSimpArgs false
set_option linter.unusedVariables false
set_option maxRecDepth 8000
namespace Go.Proofs.Ytoccnaebckcfmaa
open Go.RowKit

def updI (g : Int → Int) (x c : Int) : Int → Int := fun y => if y = x then c else g y

/-- No transaction is open; what is held is what old says. -/
structure Clean (C : CaS) (old : Int → Int) : Prop where
  opn : C.opn = false
  pin : C.pin = []
  hl : ∀ x v, C.held x = some v → v = fullA (old x)
/-- A transaction is open: it has written at most i sectors; behind it nxt is to be there, ahead of it old was. -/
structure Tx (C : CaS) (old nxt : Int → Int) (i : Nat) : Prop where
  opn : C.opn = true
  pr : ∀ x ∈ C.pin, 40 ≤ x ∧ x < 100
  pl : C.pin.length ≤ i
  pin : ∀ x ∈ C.pin, C.held x = some (fullA (nxt x))
  cln : ∀ x v, C.held x = some v → x ∉ C.pin → v = fullA (old x)
  same : ∀ x, x ∉ C.pin → nxt x = old x
/-- What is on the disk outside the log. -/
def Dk (f : Int → Option (Array Value)) (old : Int → Int) : Prop := ∀ x, 40 ≤ x → x < 100 → (f x).getD Z = fullA (old x)

theorem evict_held {C : CaS} {x : Int} {v : Array Value} (h : C.evict.held x = some v) : C.held x = some v := by
  unfold CaS.evict at h
  split at h
  · exact h
  · simp only [cutF] at h
    split at h
    · cases h
    · exact h
theorem evict_opn (C : CaS) : C.evict.opn = C.opn := by unfold CaS.evict; split <;> rfl
theorem evict_pin (C : CaS) : C.evict.pin = C.pin := by unfold CaS.evict; split <;> rfl
theorem Clean.new (most : Int) : Clean (CaS.new most) (fun _ => 0) := ⟨rfl, rfl, by simp [CaS.new]⟩
theorem Clean.begin {C : CaS} {old : Int → Int} (h : Clean C old) : Tx { C with opn := true } old old 0 :=
  ⟨rfl, by simp [h.pin], by simp [h.pin], by simp [h.pin], fun x v hx _ => h.hl x v hx, fun _ _ => rfl⟩
theorem Tx.write {C : CaS} {old nxt : Int → Int} {i : Nat} (h : Tx C old nxt i) {x : Int} (h0 : 40 ≤ x) (h1 : x < 100) (c : Int) : Tx (C.write x (fullA c)) old (updI nxt x c) (i + 1) := by
  have hmem : ∀ y, y ∈ pinL C.pin x ↔ y ∈ C.pin ∨ y = x := fun y => by
    unfold pinL
    split
    · rename_i hx
      constructor
      · exact .inl
      · rintro (h | rfl)
        · exact h
        · exact hx
    · simp
  refine ⟨h.opn, fun y hy => ?_, ?_, fun y hy => ?_, fun y v hv hn => ?_, fun y hy => ?_⟩
  · rcases (hmem y).1 hy with hy | rfl
    · exact h.pr y hy
    · exact ⟨h0, h1⟩
  · have := h.pl
    simp only [CaS.write, pinL]
    split
    · omega
    · simp; omega
  · show updF C.held x (fullA c) y = _
    unfold updF updI
    by_cases hyx : y = x
    · simp [hyx]
    · rw [if_neg hyx, if_neg hyx]
      rcases (hmem y).1 hy with hy | hy
      · exact h.pin y hy
      · exact absurd hy hyx
  · have hn' : ¬ (y ∈ C.pin ∨ y = x) := fun hh => hn ((hmem y).2 hh)
    have hyx : y ≠ x := fun e => hn' (.inr e)
    have hv' : updF C.held x (fullA c) y = some v := hv
    unfold updF at hv'
    rw [if_neg hyx] at hv'
    exact h.cln y v hv' (fun hh => hn' (.inl hh))
  · have hn' : ¬ (y ∈ C.pin ∨ y = x) := fun hh => hy ((hmem y).2 hh)
    have hyx : y ≠ x := fun e => hn' (.inr e)
    unfold updI
    rw [if_neg hyx]
    exact h.same y (fun hh => hn' (.inl hh))
theorem Tx.committed {C : CaS} {old nxt : Int → Int} {i : Nat} (h : Tx C old nxt i) : Clean C.committed nxt := by
  refine ⟨by unfold CaS.committed; rw [evict_opn], by unfold CaS.committed; rw [evict_pin], fun x v hv => ?_⟩
  have hv' : C.held x = some v := evict_held (C := { C with opn := false, pin := [] }) hv
  by_cases hx : x ∈ C.pin
  · rw [h.pin x hx] at hv'
    exact (Option.some.inj hv').symm
  · rw [h.same x hx]
    exact h.cln x v hv' hx
theorem Tx.abort {C : CaS} {old nxt : Int → Int} {i : Nat} (ok : CaOk C) (h : Tx C old nxt i) : Clean C.abort old := by
  refine ⟨rfl, rfl, fun x v hv => ?_⟩
  have hv' : cutF C.held C.ord (C.ord.filter (fun x => !decide (x ∈ C.pin))) x = some v := hv
  unfold cutF at hv'
  split at hv'
  · cases hv'
  · rename_i hn
    refine h.cln x v hv' (fun hp => hn ⟨ok.ps x hp, fun hm => ?_⟩)
    have := (List.mem_filter.1 hm).2
    simp [hp] at this
theorem Clean.got {C : CaS} {old : Int → Int} (h : Clean C old) {S : St} (hd : Dk S.now old) {x : Int} (h0 : 40 ≤ x) (h1 : x < 100) : C.got S x = fullA (old x) := by
  unfold CaS.got
  cases hh : C.held x with
  | none => exact hd x h0 h1
  | some v => exact h.hl x v hh
theorem Clean.read {C : CaS} {old : Int → Int} (h : Clean C old) {S : St} (hd : Dk S.now old) {x : Int} (h0 : 40 ≤ x) (h1 : x < 100) : Clean (C.read S x) old := by
  have hg := h.got hd h0 h1
  have key : ∀ C' : CaS, Clean C' old → Clean ((C'.use x (fullA (old x))).evict) old := fun C' h' => by
    refine ⟨by rw [evict_opn]; exact h'.opn, by rw [evict_pin]; exact h'.pin, fun y v hv => ?_⟩
    have hv' : updF C'.held x (fullA (old x)) y = some v := evict_held hv
    unfold updF at hv'
    split at hv'
    · rename_i e
      rw [e]
      exact (Option.some.inj hv').symm
    · exact h'.hl y v hv'
  unfold CaS.read
  rw [hg]
  split
  · exact key C h
  · exact key _ ⟨h.opn, h.pin, h.hl⟩
theorem Tx.group {C : CaS} {old nxt : Int → Int} {i : Nat} (ok : CaOk C) (h : Tx C old nxt i) (hi : i ≤ 37) : GroupOk 0 40 100 (rawsOf (putsC C)) := by
  have hl := h.pl
  refine ⟨?_, ?_, ?_⟩
  · rw [room40]
    simp only [rawsOf, List.length_map, putsC_len]
    omega
  · intro r hr
    obtain ⟨p, hp, rfl⟩ := List.mem_map.1 hr
    obtain ⟨x, hx, rfl⟩ := List.mem_map.1 hp
    have := h.pr x (sorted_mem.1 hx)
    exact ⟨by simp only; omega, by simp only; omega, by simp only; omega, rfl⟩
  · have : (rawsOf (putsC C)).map (·.1) = sorted C.pin := by
      simp only [rawsOf, putsC, List.map_map]
      exact (List.map_congr_left (fun _ _ => rfl)).trans (List.map_id _)
    rw [this]
    exact (sorted_perm C.pin).nodup_iff.2 ok.pn
theorem Dk.new : Dk f00 (fun _ => 0) := fun x h0 h1 => by
  unfold f00 updF
  rw [if_neg (by omega)]
  kernel_rfl
theorem Tx.disk {C : CaS} {old nxt : Int → Int} {i : Nat} {f : Int → Option (Array Value)} {g : Int} (h : Tx C old nxt i) (hd : Dk f old) (hok : GroupOk 0 40 100 (rawsOf (putsC C))) : Dk (putLog f 0 40 g (putsC C)) nxt := fun x h0 h1 => by
  by_cases hx : x ∈ C.pin
  · have hp : (x, (C.held x).getD Z) ∈ putsC C := List.mem_map.2 ⟨x, sorted_mem.2 hx, rfl⟩
    have := putLog_at (f := f) (g := g) (by omega) hok hp
    simp only at this
    rw [this, h.pin x hx]
    rfl
  · rw [putLog_other (by omega) hok (.inr (by omega)) (fun p hp => ?_), hd x h0 h1, h.same x hx]
    obtain ⟨y, hy, rfl⟩ := List.mem_map.1 hp
    exact fun e => hx (e ▸ sorted_mem.1 hy)

/-- A hundred bytes in a row. -/
def bytesA (f : Int → Int) : Array Value := ((List.range 100).map (fun j : Nat => Value.int .u8 (f j))).toArray
theorem bytesA_size (f : Int → Int) : (bytesA f).size = 100 := by simp [bytesA]
theorem bytesA_at {f : Int → Int} {j : Nat} (h : j < 100) : (bytesA f)[j]? = some (.int .u8 (f j)) := by simp [bytesA, h]
theorem bytesA_set {f : Int → Int} {j : Nat} (h : j < 100) (c : Int) : (bytesA f).setIfInBounds j (.int .u8 c) = bytesA (updI f j c) := by
  apply Array.ext_getElem?
  intro k
  rw [Array.getElem?_setIfInBounds]
  by_cases hk : k < 100
  · rw [bytesA_at hk, bytesA_at hk]
    by_cases hjk : j = k
    · subst hjk
      rw [if_pos rfl, if_pos (by rw [bytesA_size]; exact h)]
      simp [updI]
    · rw [if_neg hjk]
      simp only [updI]
      rw [if_neg (by omega)]
  · rw [if_neg (by omega), Array.getElem?_eq_none (by rw [bytesA_size]; omega), Array.getElem?_eq_none (by rw [bytesA_size]; omega)]
theorem bytesA_zero : bytesA (fun _ => 0) = Array.replicate 100 (.int .u8 0) := by kernel_rfl

section
variable {ops : Array Oper} {rest : List Oper} {o : Oper} {a : Act} {Q : Exit → Act → World → Prop} {w : World}
/-- An array of nothing but noughts, made and stored. -/
theorem wpL_build0 {t : TypeId} {c : Array Value} (hb : ∀ w, (Instr.build t #[]).run Try.prog w = .ok (.agg c) w) (hg : o.guard = none) (ho : o.op = .build t #[])
    (h : wpList Try.prog ops Q rest (a.put o.dst (.agg c)) w) : wpList Try.prog ops Q (o :: rest) a w := by
  refine wpL_value hg ?_ h
  unfold execOp
  simp only [ho, List.map_toArray, List.map_nil, Sem.run_bind, hb w, Result.andThen_ok, Sem.run_pure]
end
theorem build52 (w : World) : (Instr.build 52 #[]).run Try.prog w = .ok (.agg (bytesA (fun _ => 0))) w := by kernel_rfl
theorem zero52 (w : World) : (zeroValue 52).run Try.prog w = .ok (.agg (bytesA (fun _ => 0))) w := by kernel_rfl
theorem info52 : (Try.prog.info? 52).map (·.size) = some 100 := by kernel_rfl
theorem bytesA_one (f : Int → Int) : (bytesA f).all (·.oneCell') = true := by
  rw [Array.all_eq_true_iff_forall_mem]; intro x hx; simp [bytesA] at hx; obtain ⟨j, _, rfl⟩ := hx; rfl
end Go.Proofs.Ytoccnaebckcfmaa
end

section
set_option linter.unusedSimpArgs false
set_option linter.unusedVariables false
set_option maxRecDepth 8000
namespace Go.Proofs.Ytoccnaebckcfmaa
open Go.RowKit
open Go.ChangeMaps (setBlock)

theorem Has.perm {w0 w : World} {L L' : List Res} (h : Has w0 w L) (p : L.Perm L') : Has w0 w L' :=
  ⟨h.only, fun q hq => h.each q (p.mem_iff.2 hq), p.pairwise h.apart (fun hab x hx hy => hab x hy hx)⟩
theorem Has.last {w0 w : World} {L : List Res} {x : Res} (h : Has w0 w (x :: L)) : Has w0 w (L ++ [x]) := h.perm (List.perm_append_comm (l₁ := [x]) (l₂ := L))
theorem Has.fst {w0 w : World} {L : List Res} {x : Res} (h : Has w0 w (L ++ [x])) : Has w0 w (x :: L) := h.perm (List.perm_append_comm (l₁ := L) (l₂ := [x]))

section
variable {o : Oper} {a : Act} {w : World}
theorem run_index22 {x y : Operand} {g off j n cap : Nat} (hj : j < n) (ho : o.op = .indexAddr 22 x y) (hx : a.eval x = .slice (some ⟨g, off, none⟩) n cap) (hy : a.eval y = .int .i64 j) : ∀ w, (execOp a.eval o).run Try.prog w = .ok (.value (.pointer (some ⟨g, off + j * 4, none⟩))) w := by
  intro w
  unfold execOp
  simp only [ho, hx, hy]
  go_simp
theorem run_index52 {x y : Operand} {g j : Nat} (hj : j < 100) (ho : o.op = .indexAddr 52 x y) (hx : a.eval x = .pointer (some ⟨g, 0, none⟩)) (hy : a.eval y = .int .i64 j) : ∀ w, (execOp a.eval o).run Try.prog w = .ok (.value (.pointer (some ⟨g, j, none⟩))) w := by
  intro w
  unfold execOp
  simp only [ho, hx, hy]
  go_simp
  intro h
  omega
theorem run_fieldo32 {x : Operand} {b off k : Nat} (hk : k < 4) (ho : o.op = .fieldAddr 32 x k) (hx : a.eval x = .pointer (some ⟨b, off, none⟩)) :
    ∀ w, (execOp a.eval o).run Try.prog w = .ok (.value (.pointer (some ⟨b, off + k, none⟩))) w := by
  intro w
  have : k = 0 ∨ k = 1 ∨ k = 2 ∨ k = 3 := by omega
  unfold execOp
  simp only [ho, hx]
  rcases this with rfl | rfl | rfl | rfl <;> go_simp
theorem run_neq33 {x y : Operand} {i j : Int} (ho : o.op = .binOp .neq 33 x y 33) (hx : a.eval x = .int .i64 i) (hy : a.eval y = .int .i64 j) : ∀ w, (execOp a.eval o).run Try.prog w = .ok (.value (.bool (i != j))) w := by
  intro w
  unfold execOp
  simp only [ho, hx, hy]
  go_simp
theorem run_neqS {x y : Operand} {s t : ByteArray} (ho : o.op = .binOp .neq 9 x y 9) (hx : a.eval x = .string s) (hy : a.eval y = .string t) : ∀ w, (execOp a.eval o).run Try.prog w = .ok (.value (.bool (!(s.toList == t.toList)))) w := by
  intro w
  unfold execOp
  simp only [ho, hx, hy]
  go_simp
theorem does_kind60 {x : Operand} {c z : Int} {ts : Array TypeId} (h0 : -9223372036854775808 ≤ c) (h1 : c ≤ 9223372036854775807) (hz : amongF c 60 = z) (ho : o.op = .call { callee := .value (.func 9), args := #[x, .const (.int .i64 60)], argTypes := ts }) (hx : a.eval x = .int .i64 c) : Does Try.prog o a w (.int .i64 z) w :=
  .inr (.inr ⟨9, _, run_enter2 Try.call9 ho hx rfl, (kind_any c 60 w h0 h1 (by omega) (by omega)).mono fun e w' h => ⟨by rw [h.1, hz], h.2.symm⟩⟩)
end

section
variable {w0 w : World} {cb d wb : Nat} {F FD : List Nat} {C : CaS} {k : Int} {f : Int → Option (Array Value)} {Rs : List Res} {old nxt : Int → Int} {i : Nat}
theorem tx_write (h : Has w0 w (CRes cb d wb F C :: DRes d FD (quiet 100 k f) :: Rs)) (ht : Tx C old nxt i) (x c : Int) (h0 : 40 ≤ x) (h1 : x < 100) :
    Calls Try.prog 16 #[pp cb, .int .i64 x, .slice (some ⟨w.heap.size, 0, none⟩) 64 64] (w.alloc (.cells (fullA c) 5)) fun e w' => ∃ F', e = .returned (.int .i64 0) ∧ Has w0 w' (CRes cb d wb F' (C.write x (fullA c)) :: DRes d FD (quiet 100 k f) :: Rs) := by
  have hz : wcode C (quiet 100 k f).n x = 0 := by
    unfold wcode
    rw [if_neg (by rw [ht.opn]; simp), if_neg (by simp only [quiet]; omega)]
  refine (has_cwrite (h.alloc' (.cells (fullA c) 5)) (by simp [quiet]) x (bytes_of (fullA_ok c))).mono ?_
  rintro e w' ⟨F', rfl, hh⟩
  rw [hz, if_pos rfl] at hh
  exact ⟨F', by rw [hz], hh⟩
theorem tx_commit {g : Int} (h : Has w0 w (CRes cb d wb F C :: DRes d FD (quiet 100 k f) :: WRes wb d 0 40 g :: Rs)) (ht : Tx C old nxt i) (hi : i ≤ 37) (hd : Dk f old) (hg : 0 ≤ g) (hg1 : g ≤ 1000000) (hk0 : 0 ≤ k) (hk : k ≤ 900000000) :
    Calls Try.prog 19 #[pp cb] w fun e w' => ∃ k' FD' F' f', k' ≤ k + 200 ∧ 0 ≤ k' ∧ Dk f' nxt ∧ f' 0 = some (headA 0 40 (g + 1) 0) ∧ e = .returned (.int .i64 0) ∧ Has w0 w' (CRes cb d wb F' C.committed :: DRes d FD' (quiet 100 k' f') :: WRes wb d 0 40 (g + 1) :: Rs) := by
  have hok := ht.group h.cok hi
  refine (has_ccommit h (by omega) (by omega) (by omega) hg hg1 hk0 hk).mono ?_
  rintro e w' (⟨_, _, k', FD', F', hk1, hk2, rfl, hh⟩ | ⟨hno, _⟩)
  · have := putsC_len C
    have := ht.pl
    exact ⟨k', FD', F', _, by omega, by omega, ht.disk hd hok, putLog_head _ _ _ _ _, rfl, hh⟩
  · exact absurd ⟨ht.opn, hok⟩ hno
theorem has_cabort_op {Rs : List Res} (h : Has w0 w (CRes cb d wb F C :: Rs)) (ho : C.opn = true) : Calls Try.prog 21 #[pp cb] w fun e w' => ∃ F', e = .returned (.int .i64 0) ∧ Has w0 w' (CRes cb d wb F' C.abort :: Rs) := by
  refine (has_cabort h).mono ?_
  rintro e w' ⟨F', rfl, hh⟩
  rw [ho] at hh ⊢
  exact ⟨F', rfl, hh⟩
theorem has_cbegin_cl {Rs : List Res} (h : Has w0 w (CRes cb d wb F C :: Rs)) (ho : C.opn = false) : Calls Try.prog 17 #[pp cb] w fun e w' => ∃ F', e = .returned (.int .i64 0) ∧ Has w0 w' (CRes cb d wb F' { C with opn := true } :: Rs) := by
  refine (has_cbegin h).mono ?_
  rintro e w' ⟨F', rfl, hh⟩
  rw [ho]
  exact ⟨F', rfl, hh⟩
end
theorem write_miss (C : CaS) (x : Int) (v : Array Value) : (C.write x v).miss = C.miss := rfl

set_option maxHeartbeats 8000000 in
theorem aborts_any (w : World) (ad : Option Addr) (len cap : Nat) (K A M B : Nat → Int) (ad2 : Option Addr) (len2 cap2 : Nat) (K2 A2 M2 B2 : Nat → Int) (hin : Ops3 w ad len K A M B) (hin2 : Ops3 w ad2 len2 K2 A2 M2 B2) :
    Calls Try.prog 5 #[.slice ad len cap, .slice ad2 len2 cap2] w fun e w' => e = .returned (.bool true) ∧ Only [] w w' := by
  have SH := Lib.hid (shown3_any w)
  have hsm := hin.small
  have hsm2 := hin2.small
  have HIN := Lib.hid hin
  have HIN2 := Lib.hid hin2
  clear hin hin2
  go_enter Try.func5, Try.ntmps5
  go_wp2_with fail
  refine SH.out.mono ?_
  rintro e w1 ⟨rfl, o1⟩
  have G := Lib.hid (ground3_any ((Has.start w).later o1) (most := 5) (by omega) (by omega))
  clear SH o1
  go_wp2_with fail
  refine G.out.mono ?_
  rintro e w2 ⟨d, FD, wb, cb, F0, rfl, h0⟩
  have BG := Lib.hid (has_cbegin (h0.alloc (.cells (bytesA (fun _ => 0)) 52)).last)
  clear G h0
  unfold pp at *
  go_wp2_with (first | (refine wpL_build0 build52 rfl rfl ?_) | (refine wpL_alloc0 zero52 rfl rfl ?_) | (refine wpL_store0 info52 (bytesA_size _) (bytesA_size _) (bytesA_one _) rfl rfl rfl rfl ?_))
  generalize w2.heap.size = sb at *
  refine BG.out.mono ?_
  rintro e w3 ⟨F3, rfl, h3⟩
  have C0 := Lib.hid h3
  clear BG h3
  go_wp2
  go_loopw [9] (fun x wr => ∃ (i : Nat) (C : CaS) (F : List Nat) (wt : Int → Int), i ≤ min len 30 ∧ x = .int .i64 i ∧ Tx C (fun _ => 0) wt i ∧ C.miss = 0 ∧ Has w wr [CRes cb d wb F C, DRes d FD (quiet 100 2 f00), WRes wb d 0 40 0, BRes sb (.cells (bytesA wt) 52)]) (fun x _ => min len 30 - (RowKit.intOf x).toNat)
  case atStart => exact ⟨0, _, F3, _, by omega, rfl, (Clean.new 5).begin, rfl, C0.out⟩
  case round =>
    clear C0
    obtain ⟨i, C, F, wt, hi, rfl, hT, hms, hH⟩ := hrel
    by_cases hlt : i < min len 30
    · as_aux_lemma =>
      have hil : i < len := by omega
      have hi30 : i < 30 := by omega
      obtain ⟨g, o, rfl, hg, q0, q1, q2, q3⟩ := HIN.out.each i hil
      obtain ⟨ab0, ab1⟩ := HIN.out.ab i hil
      have KH := Lib.hid (fun x => kind_any (A i) 60 x ab0 ab1 (by omega) (by omega))
      obtain ⟨xb0, xb1⟩ := amongF_bd (A i) 60 (by omega)
      generalize amongF (A i) 60 = x at *
      have bl := hH.only.block g hg (by simp)
      have p1 := (World.cell?_of_block (w := w) (a := ⟨g, o + i * 4 + 1, none⟩) bl).trans q1
      have p3 := (World.cell?_of_block (w := w) (a := ⟨g, o + i * 4 + 3, none⟩) bl).trans q3
      have WR := Lib.hid (tx_write hH hT (40 + x) (B i) (by omega) (by omega))
      have HT := Lib.hid (hT.write (x := 40 + x) (by omega) (by omega) (B i))
      have HMS := Lib.hid hms
      clear hH hT bl q0 q1 q2 hms
      unfold pp at *
      go_wp2_with (first | (go_at_call 9; refine (KH.out _).mono ?_; rintro e w' ⟨rfl, rfl⟩) | (go_at_call 14; refine (full1_any _ _).mono ?_; rintro e w' ⟨rfl, rfl⟩))
      refine WR.out.mono ?_
      rintro e w6 ⟨F6, rfl, h6⟩
      have bl6 := h6.only.block g hg (by simp)
      have p36 := (World.cell?_of_block (w := w) (a := ⟨g, o + i * 4 + 3, none⟩) bl6).trans q3
      have hb6 : w6.heap[sb]? = some (.cells (bytesA wt) 52 (0, 0)) := h6.blk (by simp)
      obtain ⟨y, hy, hy1⟩ : ∃ y : Nat, 40 + x = (y : Int) ∧ y < 100 := ⟨(40 + x).toNat, by omega, by omega⟩
      have cs : w6.cell? ⟨sb, y, none⟩ = some (.int .u8 (wt y)) := by rw [cell_of_row _ _ _ _ _ _ hb6]; exact bytesA_at hy1
      have fs : w6.frozen? ⟨sb, y, none⟩ = false := by simp [World.frozen?, hb6]
      have h7 := ((h6.fst (L := [_, _, _])).setb y (.int .u8 (B i))).last
      rw [bytesA_set hy1] at h7
      have H7 := Lib.hid h7
      clear KH WR p1 p3 bl6 h6 hb6 h7 q3
      rw [hy] at HT H7 ⊢
      clear hy xb0 xb1
      go_wp2
      go_roundw
      case rel => exact ⟨i + 1, _, F6, _, by omega, by go_num, HT.out, HMS.out, H7.out⟩
      case measure => simp [RowKit.intOf]; omega
    · have hi30 : i ≤ 30 := by omega
      have CO := Lib.hid (tx_commit hH hT (by omega) Dk.new (by omega) (by omega) (by omega) (by omega))
      have HC := Lib.hid hT.committed
      have HMS := Lib.hid hms
      clear hH hT hms
      unfold pp at *
      have EX : (i = len ∧ len ≤ 30) ∨ (i = 30 ∧ 30 < len) := by omega
      clear hlt hi
      rcases EX with ⟨rfl, hL⟩ | ⟨rfl, hL⟩
      · as_aux_lemma =>
        go_wp2_with fail
        refine CO.out.mono ?_
        rintro e w3 ⟨k3, FD3, F3, f3, hk31, hk30, hd3, _, rfl, h3⟩
        have BG := Lib.hid (has_cbegin_cl h3 HC.out.opn)
        have HD := Lib.hid hd3
        have hm3 := (commit_missed C).trans HMS.out
        clear CO h3 hd3 HMS
        unfold pp at *
        go_wp2_with fail
        refine BG.out.mono ?_
        rintro e w4 ⟨F4, rfl, h4⟩
        have C1 := Lib.hid (And.intro HC.out.begin (And.intro hm3 h4))
        clear BG h4 hm3 HC
        generalize C.committed = C5 at *
        go_wp2
        go_loopw [12] (fun x wr => ∃ (j : Nat) (C : CaS) (F : List Nat) (nx : Int → Int), j ≤ min len2 60 ∧ x = .int .i64 j ∧ Tx C wt nx j ∧ C.miss = 0 ∧ Has w wr [CRes cb d wb F C, DRes d FD3 (quiet 100 k3 f3), WRes wb d 0 40 1, BRes sb (.cells (bytesA wt) 52)]) (fun x _ => min len2 60 - (RowKit.intOf x).toNat)
        case atStart => exact ⟨0, _, F4, _, by omega, rfl, C1.out.1, C1.out.2.1, C1.out.2.2⟩
        case round =>
          clear C1
          obtain ⟨j, C, F, nx, hj, rfl, hT, hms, hH⟩ := hrel
          by_cases hlt2 : j < min len2 60
          · as_aux_lemma =>
            have hjl : j < len2 := by omega
            have hj60 : j < 60 := by omega
            obtain ⟨g, o, rfl, hg, q0, q1, q2, q3⟩ := HIN2.out.each j hjl
            obtain ⟨ab0, ab1⟩ := HIN2.out.ab j hjl
            obtain ⟨xb0, xb1⟩ := amongF_bd (A2 j) 60 (by omega)
            obtain ⟨x, hx⟩ : ∃ x, amongF (A2 j) 60 = x := ⟨_, rfl⟩
            rw [hx] at xb0 xb1
            have bl := hH.only.block g hg (by simp)
            have p1 : wr.drew.cell? ⟨g, o + j * 4 + 1, none⟩ = _ := (World.cell?_of_block (w := w) (a := ⟨g, o + j * 4 + 1, none⟩) bl).trans q1
            have p3 : wr.drew.cell? ⟨g, o + j * 4 + 3, none⟩ = _ := (World.cell?_of_block (w := w) (a := ⟨g, o + j * 4 + 3, none⟩) bl).trans q3
            have WR := Lib.hid (tx_write hH.drew hT (40 + x) (B2 j) (by omega) (by omega))
            have HT := Lib.hid (hT.write (x := 40 + x) (by omega) (by omega) (B2 j))
            have HMS := Lib.hid hms
            clear hH hT bl q0 q1 q2 q3 hms
            go_wp2_with fail
            refine wp_region_flowR Lat [0, 0, 0, 0, 0, 1, 1, 0, 0, 0, 0, 0, 1, 2, 3] (by kernel_rfl) (by kernel_rfl) Lat.refl Lat.trans ?_
            generalize wr.drew = w5 at *
            refine fr0 (u := .pointer (some ⟨cb, 0, none⟩)) rfl (fun _ => rfl) ?_
            simp only [Act.put, List.setIfInBounds_toArray, List.set_cons_succ, List.set_cons_zero]
            refine fr0 (u := .slice (some ⟨g, o, none⟩) len2 cap2) rfl (fun _ => rfl) ?_
            simp only [Act.put, List.setIfInBounds_toArray, List.set_cons_succ, List.set_cons_zero]
            refine fr0 (u := .int .i64 (j : Nat)) rfl (fun _ => rfl) ?_
            simp only [Act.put, List.setIfInBounds_toArray, List.set_cons_succ, List.set_cons_zero]
            refine fr0 (u := .pointer (some ⟨g, o + j * 4, none⟩)) rfl (run_index22 hjl rfl rfl rfl) ?_
            simp only [Act.put, List.setIfInBounds_toArray, List.set_cons_succ, List.set_cons_zero]
            refine fr0 (u := .pointer (some ⟨g, o + j * 4 + 1, none⟩)) rfl (run_fieldo32 (k := 1) (by omega) rfl rfl) ?_
            simp only [Act.put, List.setIfInBounds_toArray, List.set_cons_succ, List.set_cons_zero]
            refine fr1 (u := .int .i64 (A2 j)) rfl (fun x hx => run_load1 rfl rfl (hx.cell p1) isAgg3) ?_
            simp only [Act.put, List.setIfInBounds_toArray, List.set_cons_succ, List.set_cons_zero]
            refine fr1c (u := .int .i64 x) rfl (fun y hy => does_kind60 ab0 ab1 hx rfl rfl) ?_
            simp only [Act.put, List.setIfInBounds_toArray, List.set_cons_succ, List.set_cons_zero]
            refine fr0 (u := .int .i64 (40 + x)) rfl (run_add (by omega) (by omega) rfl rfl rfl) ?_
            simp only [Act.put, List.setIfInBounds_toArray, List.set_cons_succ, List.set_cons_zero]
            refine fr0 (u := .slice (some ⟨g, o, none⟩) len2 cap2) rfl (fun _ => rfl) ?_
            simp only [Act.put, List.setIfInBounds_toArray, List.set_cons_succ, List.set_cons_zero]
            refine fr0 (u := .int .i64 (j : Nat)) rfl (fun _ => rfl) ?_
            simp only [Act.put, List.setIfInBounds_toArray, List.set_cons_succ, List.set_cons_zero]
            refine fr0 (u := .pointer (some ⟨g, o + j * 4, none⟩)) rfl (run_index22 hjl rfl rfl rfl) ?_
            simp only [Act.put, List.setIfInBounds_toArray, List.set_cons_succ, List.set_cons_zero]
            refine fr0 (u := .pointer (some ⟨g, o + j * 4 + 3, none⟩)) rfl (run_fieldo32 (k := 3) (by omega) rfl rfl) ?_
            simp only [Act.put, List.setIfInBounds_toArray, List.set_cons_succ, List.set_cons_zero]
            refine fr1 (u := .int .u8 (B2 j)) rfl (fun x hx => run_load1 rfl rfl (hx.cell p3) isAgg5) ?_
            simp only [Act.put, List.setIfInBounds_toArray, List.set_cons_succ, List.set_cons_zero]
            refine fr2 (u := .slice (some ⟨w5.heap.size, 0, none⟩) 64 64) (w' := w5.alloc (.cells (fullA (B2 j)) 5)) rfl (Lat.alloc _ _) (does_full1 rfl rfl) ?_
            simp only [Act.put, List.setIfInBounds_toArray, List.set_cons_succ, List.set_cons_zero]
            refine fr3c rfl (run_enter3 Try.call16 rfl rfl rfl rfl) WR.out ?_
            rintro e w6 ⟨F6, rfl, h6⟩
            refine ⟨_, rfl, ?_⟩
            simp only [Act.put, List.setIfInBounds_toArray, List.set_cons_succ, List.set_cons_zero]
            refine frnil ?_
            have FIN := Lib.hid (And.intro HT.out (And.intro HMS.out h6))
            clear WR HT HMS h6 p1 p3 hx xb0 xb1
            go_wp2
            go_roundw
            case rel => exact ⟨j + 1, _, F6, _, by omega, by go_num, FIN.out.1, FIN.out.2.1, FIN.out.2.2⟩
            case measure => simp [RowKit.intOf]; omega
          · have AB := Lib.hid (has_cabort_op hH hT.opn)
            have HC := Lib.hid (hT.abort hH.cok)
            have HMS := Lib.hid hms
            clear hH hT hms
            unfold pp at *
            have EX : (j = len2 ∧ len2 ≤ 60) ∨ (j = 60 ∧ 60 < len2) := by omega
            clear hlt2 hj
            rcases EX with ⟨rfl, hL2⟩ | ⟨rfl, hL2⟩
            · go_wp2_with fail
              refine AB.out.mono ?_
              rintro e w6 ⟨F6, rfl, h6⟩
              have PI := Lib.hid (pinned_any h6.cat1)
              rw [HC.out.pin] at PI
              have C2 := Lib.hid (And.intro HC.out (And.intro (show C.abort.miss = 0 from HMS.out) h6))
              clear AB h6 HC HMS
              generalize C.abort = C7 at *
              unfold pp at *
              go_wp2_with (go_at_call 25; refine PI.out.mono ?_; rintro e w' ⟨rfl, rfl⟩)
              clear PI
              go_loopw [14] (fun x wr => ∃ (at_ : Nat) (C : CaS) (F : List Nat), 40 ≤ at_ ∧ at_ ≤ 100 ∧ x = .int .i64 at_ ∧ Clean C wt ∧ C.miss ≤ at_ ∧ Has w wr [CRes cb d wb F C, DRes d FD3 (quiet 100 k3 f3), WRes wb d 0 40 1, BRes sb (.cells (bytesA wt) 52)]) (fun x _ => 100 - (RowKit.intOf x).toNat)
              case atStart => exact ⟨40, _, F6, by omega, by omega, rfl, C2.out.1, by rw [C2.out.2.1]; omega, C2.out.2.2⟩
              case round =>
                clear C2
                obtain ⟨at_, C, F, ha0, ha1, rfl, hC, hms, hH⟩ := hrel
                by_cases hat : at_ < 100
                · as_aux_lemma =>
                  have RD := Lib.hid (read_in hH at_ (by omega) (by omega) (by omega))
                  have hgot := hC.got (S := quiet 100 k3 f3) HD.out (x := at_) (by omega) (by omega)
                  have HR := Lib.hid (hC.read (S := quiet 100 k3 f3) HD.out (x := at_) (by omega) (by omega))
                  have hmm := read_missed C (quiet 100 k3 f3) at_
                  rw [hgot] at RD
                  clear hH hC hgot
                  unfold pp at *
                  go_wp2_with fail
                  refine RD.out.mono ?_
                  rintro e w8 ⟨rb, F8, rfl, h8⟩
                  have h9 := h8.drew
                  have hyb : w8.drew.heap[rb]? = some (.cells (fullA (wt at_)) 69 (0, 0)) := h9.blk (by simp)
                  have hsb : w8.drew.heap[sb]? = some (.cells (bytesA wt) 52 (0, 0)) := h9.blk (by simp)
                  have cs : w8.drew.cell? ⟨sb, at_, none⟩ = some (.int .u8 (wt at_)) := by rw [cell_of_row _ _ _ _ _ _ hsb]; exact bytesA_at hat
                  have H9 := Lib.hid h9.drop
                  rw [fullA_sec] at hyb
                  clear RD h8 hsb h9
                  go_wp2_with fail
                  refine wp_region_flowR Lat [0, 0, 0, 0, 1, 0, 0, 1, 2, 1, 0, 0] (by kernel_rfl) (by kernel_rfl) Lat.refl Lat.trans ?_
                  generalize w8.drew = w9 at *
                  refine fr0 (u := .int .i64 0) rfl (fun _ => rfl) ?_
                  simp only [Act.put, List.setIfInBounds_toArray, List.set_cons_succ, List.set_cons_zero]
                  refine fr0 (u := .bool false) rfl (fun w => (run_neq33 rfl rfl rfl w).trans rfl) ?_
                  simp only [Act.put, List.setIfInBounds_toArray, List.set_cons_succ, List.set_cons_zero]
                  refine fr0 (u := .bool false) rfl (fun _ => rfl) ?_
                  simp only [Act.put, List.setIfInBounds_toArray, List.set_cons_succ, List.set_cons_zero]
                  refine fr0 (u := .slice (some ⟨rb, 0, none⟩) 64 64) (by kernel_rfl) (fun _ => rfl) ?_
                  simp only [Act.put, List.setIfInBounds_toArray, List.set_cons_succ, List.set_cons_zero]
                  refine fr1 (u := .string (strOf (List.replicate 64 (wt (at_ : Nat))))) (by kernel_rfl) (fun x hx => run_str (by simp) rfl rfl (hx.at hyb)) ?_
                  simp only [Act.put, List.setIfInBounds_toArray, List.set_cons_succ, List.set_cons_zero]
                  refine fr0 (u := .int .i64 (at_ : Nat)) (by kernel_rfl) (fun _ => rfl) ?_
                  simp only [Act.put, List.setIfInBounds_toArray, List.set_cons_succ, List.set_cons_zero]
                  refine fr0 (u := .pointer (some ⟨sb, at_, none⟩)) (by kernel_rfl) (run_index52 hat rfl rfl rfl) ?_
                  simp only [Act.put, List.setIfInBounds_toArray, List.set_cons_succ, List.set_cons_zero]
                  refine fr1 (u := .int .u8 (wt (at_ : Nat))) (by kernel_rfl) (fun x hx => run_load1 rfl rfl (hx.cell cs) isAgg5) ?_
                  simp only [Act.put, List.setIfInBounds_toArray, List.set_cons_succ, List.set_cons_zero]
                  refine fr2 (u := .slice (some ⟨w9.heap.size, 0, none⟩) 64 64) (w' := w9.alloc (.cells (fullA (wt (at_ : Nat))) 5)) (by kernel_rfl) (Lat.alloc _ _) (does_full1 rfl rfl) ?_
                  have hzz := heap_alloc_last w9 (.cells (fullA (wt (at_ : Nat))) 5)
                  rw [fullA_sec] at hzz ⊢
                  simp only [Act.put, List.setIfInBounds_toArray, List.set_cons_succ, List.set_cons_zero]
                  refine fr1 (u := .string (strOf (List.replicate 64 (wt (at_ : Nat))))) (by kernel_rfl) (fun x hx => run_str (by simp) rfl rfl (hx.at hzz)) ?_
                  simp only [Act.put, List.setIfInBounds_toArray, List.set_cons_succ, List.set_cons_zero]
                  refine fr0 (u := .bool false) (by kernel_rfl) (fun w => (run_neqS rfl rfl rfl w).trans (by simp)) ?_
                  simp only [Act.put, List.setIfInBounds_toArray, List.set_cons_succ, List.set_cons_zero]
                  refine fr0 (u := .bool false) rfl (fun _ => rfl) ?_
                  simp only [Act.put, List.setIfInBounds_toArray, List.set_cons_succ, List.set_cons_zero]
                  refine frnil ?_
                  show Exit.then _ _ _ _ _
                  have FIN := Lib.hid (H9.out.alloc' (.cells (sec (List.replicate 64 (wt at_))) 5))
                  have HMM := Lib.hid hmm
                  clear H9 hyb cs hzz hmm
                  go_wp2
                  go_roundw
                  case rel => exact ⟨at_ + 1, _, F8, by omega, by omega, by go_num, HR.out, by have := HMM.out; omega, FIN.out⟩
                  case measure => simp [RowKit.intOf]; omega
                · have hh : at_ = 100 := by omega
                  subst hh
                  have HO := Lib.hid hH.only
                  clear hH hC
                  go_wp2
                  go_ret
                  exact ⟨rfl, HO.out⟩
            · go_wp2_with fail
              refine AB.out.mono ?_
              rintro e w6 ⟨F6, rfl, h6⟩
              have PI := Lib.hid (pinned_any h6.cat1)
              rw [HC.out.pin] at PI
              have C2 := Lib.hid (And.intro HC.out (And.intro (show C.abort.miss = 0 from HMS.out) h6))
              clear AB h6 HC HMS
              generalize C.abort = C7 at *
              unfold pp at *
              go_wp2_with (go_at_call 25; refine PI.out.mono ?_; rintro e w' ⟨rfl, rfl⟩)
              clear PI
              go_loopw [14] (fun x wr => ∃ (at_ : Nat) (C : CaS) (F : List Nat), 40 ≤ at_ ∧ at_ ≤ 100 ∧ x = .int .i64 at_ ∧ Clean C wt ∧ C.miss ≤ at_ ∧ Has w wr [CRes cb d wb F C, DRes d FD3 (quiet 100 k3 f3), WRes wb d 0 40 1, BRes sb (.cells (bytesA wt) 52)]) (fun x _ => 100 - (RowKit.intOf x).toNat)
              case atStart => exact ⟨40, _, F6, by omega, by omega, rfl, C2.out.1, by rw [C2.out.2.1]; omega, C2.out.2.2⟩
              case round =>
                clear C2
                obtain ⟨at_, C, F, ha0, ha1, rfl, hC, hms, hH⟩ := hrel
                by_cases hat : at_ < 100
                · as_aux_lemma =>
                  have RD := Lib.hid (read_in hH at_ (by omega) (by omega) (by omega))
                  have hgot := hC.got (S := quiet 100 k3 f3) HD.out (x := at_) (by omega) (by omega)
                  have HR := Lib.hid (hC.read (S := quiet 100 k3 f3) HD.out (x := at_) (by omega) (by omega))
                  have hmm := read_missed C (quiet 100 k3 f3) at_
                  rw [hgot] at RD
                  clear hH hC hgot
                  unfold pp at *
                  go_wp2_with fail
                  refine RD.out.mono ?_
                  rintro e w8 ⟨rb, F8, rfl, h8⟩
                  have h9 := h8.drew
                  have hyb : w8.drew.heap[rb]? = some (.cells (fullA (wt at_)) 69 (0, 0)) := h9.blk (by simp)
                  have hsb : w8.drew.heap[sb]? = some (.cells (bytesA wt) 52 (0, 0)) := h9.blk (by simp)
                  have cs : w8.drew.cell? ⟨sb, at_, none⟩ = some (.int .u8 (wt at_)) := by rw [cell_of_row _ _ _ _ _ _ hsb]; exact bytesA_at hat
                  have H9 := Lib.hid h9.drop
                  rw [fullA_sec] at hyb
                  clear RD h8 hsb h9
                  go_wp2_with fail
                  refine wp_region_flowR Lat [0, 0, 0, 0, 1, 0, 0, 1, 2, 1, 0, 0] (by kernel_rfl) (by kernel_rfl) Lat.refl Lat.trans ?_
                  generalize w8.drew = w9 at *
                  refine fr0 (u := .int .i64 0) rfl (fun _ => rfl) ?_
                  simp only [Act.put, List.setIfInBounds_toArray, List.set_cons_succ, List.set_cons_zero]
                  refine fr0 (u := .bool false) rfl (fun w => (run_neq33 rfl rfl rfl w).trans rfl) ?_
                  simp only [Act.put, List.setIfInBounds_toArray, List.set_cons_succ, List.set_cons_zero]
                  refine fr0 (u := .bool false) rfl (fun _ => rfl) ?_
                  simp only [Act.put, List.setIfInBounds_toArray, List.set_cons_succ, List.set_cons_zero]
                  refine fr0 (u := .slice (some ⟨rb, 0, none⟩) 64 64) (by kernel_rfl) (fun _ => rfl) ?_
                  simp only [Act.put, List.setIfInBounds_toArray, List.set_cons_succ, List.set_cons_zero]
                  refine fr1 (u := .string (strOf (List.replicate 64 (wt (at_ : Nat))))) (by kernel_rfl) (fun x hx => run_str (by simp) rfl rfl (hx.at hyb)) ?_
                  simp only [Act.put, List.setIfInBounds_toArray, List.set_cons_succ, List.set_cons_zero]
                  refine fr0 (u := .int .i64 (at_ : Nat)) (by kernel_rfl) (fun _ => rfl) ?_
                  simp only [Act.put, List.setIfInBounds_toArray, List.set_cons_succ, List.set_cons_zero]
                  refine fr0 (u := .pointer (some ⟨sb, at_, none⟩)) (by kernel_rfl) (run_index52 hat rfl rfl rfl) ?_
                  simp only [Act.put, List.setIfInBounds_toArray, List.set_cons_succ, List.set_cons_zero]
                  refine fr1 (u := .int .u8 (wt (at_ : Nat))) (by kernel_rfl) (fun x hx => run_load1 rfl rfl (hx.cell cs) isAgg5) ?_
                  simp only [Act.put, List.setIfInBounds_toArray, List.set_cons_succ, List.set_cons_zero]
                  refine fr2 (u := .slice (some ⟨w9.heap.size, 0, none⟩) 64 64) (w' := w9.alloc (.cells (fullA (wt (at_ : Nat))) 5)) (by kernel_rfl) (Lat.alloc _ _) (does_full1 rfl rfl) ?_
                  have hzz := heap_alloc_last w9 (.cells (fullA (wt (at_ : Nat))) 5)
                  rw [fullA_sec] at hzz ⊢
                  simp only [Act.put, List.setIfInBounds_toArray, List.set_cons_succ, List.set_cons_zero]
                  refine fr1 (u := .string (strOf (List.replicate 64 (wt (at_ : Nat))))) (by kernel_rfl) (fun x hx => run_str (by simp) rfl rfl (hx.at hzz)) ?_
                  simp only [Act.put, List.setIfInBounds_toArray, List.set_cons_succ, List.set_cons_zero]
                  refine fr0 (u := .bool false) (by kernel_rfl) (fun w => (run_neqS rfl rfl rfl w).trans (by simp)) ?_
                  simp only [Act.put, List.setIfInBounds_toArray, List.set_cons_succ, List.set_cons_zero]
                  refine fr0 (u := .bool false) rfl (fun _ => rfl) ?_
                  simp only [Act.put, List.setIfInBounds_toArray, List.set_cons_succ, List.set_cons_zero]
                  refine frnil ?_
                  show Exit.then _ _ _ _ _
                  have FIN := Lib.hid (H9.out.alloc' (.cells (sec (List.replicate 64 (wt at_))) 5))
                  have HMM := Lib.hid hmm
                  clear H9 hyb cs hzz hmm
                  go_wp2
                  go_roundw
                  case rel => exact ⟨at_ + 1, _, F8, by omega, by omega, by go_num, HR.out, by have := HMM.out; omega, FIN.out⟩
                  case measure => simp [RowKit.intOf]; omega
                · have hh : at_ = 100 := by omega
                  subst hh
                  have HO := Lib.hid hH.only
                  clear hH hC
                  go_wp2
                  go_ret
                  exact ⟨rfl, HO.out⟩
      · as_aux_lemma =>
        go_wp2_with fail
        refine CO.out.mono ?_
        rintro e w3 ⟨k3, FD3, F3, f3, hk31, hk30, hd3, _, rfl, h3⟩
        have BG := Lib.hid (has_cbegin_cl h3 HC.out.opn)
        have HD := Lib.hid hd3
        have hm3 := (commit_missed C).trans HMS.out
        clear CO h3 hd3 HMS
        unfold pp at *
        go_wp2_with fail
        refine BG.out.mono ?_
        rintro e w4 ⟨F4, rfl, h4⟩
        have C1 := Lib.hid (And.intro HC.out.begin (And.intro hm3 h4))
        clear BG h4 hm3 HC
        generalize C.committed = C5 at *
        go_wp2
        go_loopw [12] (fun x wr => ∃ (j : Nat) (C : CaS) (F : List Nat) (nx : Int → Int), j ≤ min len2 60 ∧ x = .int .i64 j ∧ Tx C wt nx j ∧ C.miss = 0 ∧ Has w wr [CRes cb d wb F C, DRes d FD3 (quiet 100 k3 f3), WRes wb d 0 40 1, BRes sb (.cells (bytesA wt) 52)]) (fun x _ => min len2 60 - (RowKit.intOf x).toNat)
        case atStart => exact ⟨0, _, F4, _, by omega, rfl, C1.out.1, C1.out.2.1, C1.out.2.2⟩
        case round =>
          clear C1
          obtain ⟨j, C, F, nx, hj, rfl, hT, hms, hH⟩ := hrel
          by_cases hlt2 : j < min len2 60
          · as_aux_lemma =>
            have hjl : j < len2 := by omega
            have hj60 : j < 60 := by omega
            obtain ⟨g, o, rfl, hg, q0, q1, q2, q3⟩ := HIN2.out.each j hjl
            obtain ⟨ab0, ab1⟩ := HIN2.out.ab j hjl
            obtain ⟨xb0, xb1⟩ := amongF_bd (A2 j) 60 (by omega)
            obtain ⟨x, hx⟩ : ∃ x, amongF (A2 j) 60 = x := ⟨_, rfl⟩
            rw [hx] at xb0 xb1
            have bl := hH.only.block g hg (by simp)
            have p1 : wr.drew.cell? ⟨g, o + j * 4 + 1, none⟩ = _ := (World.cell?_of_block (w := w) (a := ⟨g, o + j * 4 + 1, none⟩) bl).trans q1
            have p3 : wr.drew.cell? ⟨g, o + j * 4 + 3, none⟩ = _ := (World.cell?_of_block (w := w) (a := ⟨g, o + j * 4 + 3, none⟩) bl).trans q3
            have WR := Lib.hid (tx_write hH.drew hT (40 + x) (B2 j) (by omega) (by omega))
            have HT := Lib.hid (hT.write (x := 40 + x) (by omega) (by omega) (B2 j))
            have HMS := Lib.hid hms
            clear hH hT bl q0 q1 q2 q3 hms
            go_wp2_with fail
            refine wp_region_flowR Lat [0, 0, 0, 0, 0, 1, 1, 0, 0, 0, 0, 0, 1, 2, 3] (by kernel_rfl) (by kernel_rfl) Lat.refl Lat.trans ?_
            generalize wr.drew = w5 at *
            refine fr0 (u := .pointer (some ⟨cb, 0, none⟩)) rfl (fun _ => rfl) ?_
            simp only [Act.put, List.setIfInBounds_toArray, List.set_cons_succ, List.set_cons_zero]
            refine fr0 (u := .slice (some ⟨g, o, none⟩) len2 cap2) rfl (fun _ => rfl) ?_
            simp only [Act.put, List.setIfInBounds_toArray, List.set_cons_succ, List.set_cons_zero]
            refine fr0 (u := .int .i64 (j : Nat)) rfl (fun _ => rfl) ?_
            simp only [Act.put, List.setIfInBounds_toArray, List.set_cons_succ, List.set_cons_zero]
            refine fr0 (u := .pointer (some ⟨g, o + j * 4, none⟩)) rfl (run_index22 hjl rfl rfl rfl) ?_
            simp only [Act.put, List.setIfInBounds_toArray, List.set_cons_succ, List.set_cons_zero]
            refine fr0 (u := .pointer (some ⟨g, o + j * 4 + 1, none⟩)) rfl (run_fieldo32 (k := 1) (by omega) rfl rfl) ?_
            simp only [Act.put, List.setIfInBounds_toArray, List.set_cons_succ, List.set_cons_zero]
            refine fr1 (u := .int .i64 (A2 j)) rfl (fun x hx => run_load1 rfl rfl (hx.cell p1) isAgg3) ?_
            simp only [Act.put, List.setIfInBounds_toArray, List.set_cons_succ, List.set_cons_zero]
            refine fr1c (u := .int .i64 x) rfl (fun y hy => does_kind60 ab0 ab1 hx rfl rfl) ?_
            simp only [Act.put, List.setIfInBounds_toArray, List.set_cons_succ, List.set_cons_zero]
            refine fr0 (u := .int .i64 (40 + x)) rfl (run_add (by omega) (by omega) rfl rfl rfl) ?_
            simp only [Act.put, List.setIfInBounds_toArray, List.set_cons_succ, List.set_cons_zero]
            refine fr0 (u := .slice (some ⟨g, o, none⟩) len2 cap2) rfl (fun _ => rfl) ?_
            simp only [Act.put, List.setIfInBounds_toArray, List.set_cons_succ, List.set_cons_zero]
            refine fr0 (u := .int .i64 (j : Nat)) rfl (fun _ => rfl) ?_
            simp only [Act.put, List.setIfInBounds_toArray, List.set_cons_succ, List.set_cons_zero]
            refine fr0 (u := .pointer (some ⟨g, o + j * 4, none⟩)) rfl (run_index22 hjl rfl rfl rfl) ?_
            simp only [Act.put, List.setIfInBounds_toArray, List.set_cons_succ, List.set_cons_zero]
            refine fr0 (u := .pointer (some ⟨g, o + j * 4 + 3, none⟩)) rfl (run_fieldo32 (k := 3) (by omega) rfl rfl) ?_
            simp only [Act.put, List.setIfInBounds_toArray, List.set_cons_succ, List.set_cons_zero]
            refine fr1 (u := .int .u8 (B2 j)) rfl (fun x hx => run_load1 rfl rfl (hx.cell p3) isAgg5) ?_
            simp only [Act.put, List.setIfInBounds_toArray, List.set_cons_succ, List.set_cons_zero]
            refine fr2 (u := .slice (some ⟨w5.heap.size, 0, none⟩) 64 64) (w' := w5.alloc (.cells (fullA (B2 j)) 5)) rfl (Lat.alloc _ _) (does_full1 rfl rfl) ?_
            simp only [Act.put, List.setIfInBounds_toArray, List.set_cons_succ, List.set_cons_zero]
            refine fr3c rfl (run_enter3 Try.call16 rfl rfl rfl rfl) WR.out ?_
            rintro e w6 ⟨F6, rfl, h6⟩
            refine ⟨_, rfl, ?_⟩
            simp only [Act.put, List.setIfInBounds_toArray, List.set_cons_succ, List.set_cons_zero]
            refine frnil ?_
            have FIN := Lib.hid (And.intro HT.out (And.intro HMS.out h6))
            clear WR HT HMS h6 p1 p3 hx xb0 xb1
            go_wp2
            go_roundw
            case rel => exact ⟨j + 1, _, F6, _, by omega, by go_num, FIN.out.1, FIN.out.2.1, FIN.out.2.2⟩
            case measure => simp [RowKit.intOf]; omega
          · have AB := Lib.hid (has_cabort_op hH hT.opn)
            have HC := Lib.hid (hT.abort hH.cok)
            have HMS := Lib.hid hms
            clear hH hT hms
            unfold pp at *
            have EX : (j = len2 ∧ len2 ≤ 60) ∨ (j = 60 ∧ 60 < len2) := by omega
            clear hlt2 hj
            rcases EX with ⟨rfl, hL2⟩ | ⟨rfl, hL2⟩
            · go_wp2_with fail
              refine AB.out.mono ?_
              rintro e w6 ⟨F6, rfl, h6⟩
              have PI := Lib.hid (pinned_any h6.cat1)
              rw [HC.out.pin] at PI
              have C2 := Lib.hid (And.intro HC.out (And.intro (show C.abort.miss = 0 from HMS.out) h6))
              clear AB h6 HC HMS
              generalize C.abort = C7 at *
              unfold pp at *
              go_wp2_with (go_at_call 25; refine PI.out.mono ?_; rintro e w' ⟨rfl, rfl⟩)
              clear PI
              go_loopw [14] (fun x wr => ∃ (at_ : Nat) (C : CaS) (F : List Nat), 40 ≤ at_ ∧ at_ ≤ 100 ∧ x = .int .i64 at_ ∧ Clean C wt ∧ C.miss ≤ at_ ∧ Has w wr [CRes cb d wb F C, DRes d FD3 (quiet 100 k3 f3), WRes wb d 0 40 1, BRes sb (.cells (bytesA wt) 52)]) (fun x _ => 100 - (RowKit.intOf x).toNat)
              case atStart => exact ⟨40, _, F6, by omega, by omega, rfl, C2.out.1, by rw [C2.out.2.1]; omega, C2.out.2.2⟩
              case round =>
                clear C2
                obtain ⟨at_, C, F, ha0, ha1, rfl, hC, hms, hH⟩ := hrel
                by_cases hat : at_ < 100
                · as_aux_lemma =>
                  have RD := Lib.hid (read_in hH at_ (by omega) (by omega) (by omega))
                  have hgot := hC.got (S := quiet 100 k3 f3) HD.out (x := at_) (by omega) (by omega)
                  have HR := Lib.hid (hC.read (S := quiet 100 k3 f3) HD.out (x := at_) (by omega) (by omega))
                  have hmm := read_missed C (quiet 100 k3 f3) at_
                  rw [hgot] at RD
                  clear hH hC hgot
                  unfold pp at *
                  go_wp2_with fail
                  refine RD.out.mono ?_
                  rintro e w8 ⟨rb, F8, rfl, h8⟩
                  have h9 := h8.drew
                  have hyb : w8.drew.heap[rb]? = some (.cells (fullA (wt at_)) 69 (0, 0)) := h9.blk (by simp)
                  have hsb : w8.drew.heap[sb]? = some (.cells (bytesA wt) 52 (0, 0)) := h9.blk (by simp)
                  have cs : w8.drew.cell? ⟨sb, at_, none⟩ = some (.int .u8 (wt at_)) := by rw [cell_of_row _ _ _ _ _ _ hsb]; exact bytesA_at hat
                  have H9 := Lib.hid h9.drop
                  rw [fullA_sec] at hyb
                  clear RD h8 hsb h9
                  go_wp2_with fail
                  refine wp_region_flowR Lat [0, 0, 0, 0, 1, 0, 0, 1, 2, 1, 0, 0] (by kernel_rfl) (by kernel_rfl) Lat.refl Lat.trans ?_
                  generalize w8.drew = w9 at *
                  refine fr0 (u := .int .i64 0) rfl (fun _ => rfl) ?_
                  simp only [Act.put, List.setIfInBounds_toArray, List.set_cons_succ, List.set_cons_zero]
                  refine fr0 (u := .bool false) rfl (fun w => (run_neq33 rfl rfl rfl w).trans rfl) ?_
                  simp only [Act.put, List.setIfInBounds_toArray, List.set_cons_succ, List.set_cons_zero]
                  refine fr0 (u := .bool false) rfl (fun _ => rfl) ?_
                  simp only [Act.put, List.setIfInBounds_toArray, List.set_cons_succ, List.set_cons_zero]
                  refine fr0 (u := .slice (some ⟨rb, 0, none⟩) 64 64) (by kernel_rfl) (fun _ => rfl) ?_
                  simp only [Act.put, List.setIfInBounds_toArray, List.set_cons_succ, List.set_cons_zero]
                  refine fr1 (u := .string (strOf (List.replicate 64 (wt (at_ : Nat))))) (by kernel_rfl) (fun x hx => run_str (by simp) rfl rfl (hx.at hyb)) ?_
                  simp only [Act.put, List.setIfInBounds_toArray, List.set_cons_succ, List.set_cons_zero]
                  refine fr0 (u := .int .i64 (at_ : Nat)) (by kernel_rfl) (fun _ => rfl) ?_
                  simp only [Act.put, List.setIfInBounds_toArray, List.set_cons_succ, List.set_cons_zero]
                  refine fr0 (u := .pointer (some ⟨sb, at_, none⟩)) (by kernel_rfl) (run_index52 hat rfl rfl rfl) ?_
                  simp only [Act.put, List.setIfInBounds_toArray, List.set_cons_succ, List.set_cons_zero]
                  refine fr1 (u := .int .u8 (wt (at_ : Nat))) (by kernel_rfl) (fun x hx => run_load1 rfl rfl (hx.cell cs) isAgg5) ?_
                  simp only [Act.put, List.setIfInBounds_toArray, List.set_cons_succ, List.set_cons_zero]
                  refine fr2 (u := .slice (some ⟨w9.heap.size, 0, none⟩) 64 64) (w' := w9.alloc (.cells (fullA (wt (at_ : Nat))) 5)) (by kernel_rfl) (Lat.alloc _ _) (does_full1 rfl rfl) ?_
                  have hzz := heap_alloc_last w9 (.cells (fullA (wt (at_ : Nat))) 5)
                  rw [fullA_sec] at hzz ⊢
                  simp only [Act.put, List.setIfInBounds_toArray, List.set_cons_succ, List.set_cons_zero]
                  refine fr1 (u := .string (strOf (List.replicate 64 (wt (at_ : Nat))))) (by kernel_rfl) (fun x hx => run_str (by simp) rfl rfl (hx.at hzz)) ?_
                  simp only [Act.put, List.setIfInBounds_toArray, List.set_cons_succ, List.set_cons_zero]
                  refine fr0 (u := .bool false) (by kernel_rfl) (fun w => (run_neqS rfl rfl rfl w).trans (by simp)) ?_
                  simp only [Act.put, List.setIfInBounds_toArray, List.set_cons_succ, List.set_cons_zero]
                  refine fr0 (u := .bool false) rfl (fun _ => rfl) ?_
                  simp only [Act.put, List.setIfInBounds_toArray, List.set_cons_succ, List.set_cons_zero]
                  refine frnil ?_
                  show Exit.then _ _ _ _ _
                  have FIN := Lib.hid (H9.out.alloc' (.cells (sec (List.replicate 64 (wt at_))) 5))
                  have HMM := Lib.hid hmm
                  clear H9 hyb cs hzz hmm
                  go_wp2
                  go_roundw
                  case rel => exact ⟨at_ + 1, _, F8, by omega, by omega, by go_num, HR.out, by have := HMM.out; omega, FIN.out⟩
                  case measure => simp [RowKit.intOf]; omega
                · have hh : at_ = 100 := by omega
                  subst hh
                  have HO := Lib.hid hH.only
                  clear hH hC
                  go_wp2
                  go_ret
                  exact ⟨rfl, HO.out⟩
            · go_wp2_with fail
              refine AB.out.mono ?_
              rintro e w6 ⟨F6, rfl, h6⟩
              have PI := Lib.hid (pinned_any h6.cat1)
              rw [HC.out.pin] at PI
              have C2 := Lib.hid (And.intro HC.out (And.intro (show C.abort.miss = 0 from HMS.out) h6))
              clear AB h6 HC HMS
              generalize C.abort = C7 at *
              unfold pp at *
              go_wp2_with (go_at_call 25; refine PI.out.mono ?_; rintro e w' ⟨rfl, rfl⟩)
              clear PI
              go_loopw [14] (fun x wr => ∃ (at_ : Nat) (C : CaS) (F : List Nat), 40 ≤ at_ ∧ at_ ≤ 100 ∧ x = .int .i64 at_ ∧ Clean C wt ∧ C.miss ≤ at_ ∧ Has w wr [CRes cb d wb F C, DRes d FD3 (quiet 100 k3 f3), WRes wb d 0 40 1, BRes sb (.cells (bytesA wt) 52)]) (fun x _ => 100 - (RowKit.intOf x).toNat)
              case atStart => exact ⟨40, _, F6, by omega, by omega, rfl, C2.out.1, by rw [C2.out.2.1]; omega, C2.out.2.2⟩
              case round =>
                clear C2
                obtain ⟨at_, C, F, ha0, ha1, rfl, hC, hms, hH⟩ := hrel
                by_cases hat : at_ < 100
                · as_aux_lemma =>
                  have RD := Lib.hid (read_in hH at_ (by omega) (by omega) (by omega))
                  have hgot := hC.got (S := quiet 100 k3 f3) HD.out (x := at_) (by omega) (by omega)
                  have HR := Lib.hid (hC.read (S := quiet 100 k3 f3) HD.out (x := at_) (by omega) (by omega))
                  have hmm := read_missed C (quiet 100 k3 f3) at_
                  rw [hgot] at RD
                  clear hH hC hgot
                  unfold pp at *
                  go_wp2_with fail
                  refine RD.out.mono ?_
                  rintro e w8 ⟨rb, F8, rfl, h8⟩
                  have h9 := h8.drew
                  have hyb : w8.drew.heap[rb]? = some (.cells (fullA (wt at_)) 69 (0, 0)) := h9.blk (by simp)
                  have hsb : w8.drew.heap[sb]? = some (.cells (bytesA wt) 52 (0, 0)) := h9.blk (by simp)
                  have cs : w8.drew.cell? ⟨sb, at_, none⟩ = some (.int .u8 (wt at_)) := by rw [cell_of_row _ _ _ _ _ _ hsb]; exact bytesA_at hat
                  have H9 := Lib.hid h9.drop
                  rw [fullA_sec] at hyb
                  clear RD h8 hsb h9
                  go_wp2_with fail
                  refine wp_region_flowR Lat [0, 0, 0, 0, 1, 0, 0, 1, 2, 1, 0, 0] (by kernel_rfl) (by kernel_rfl) Lat.refl Lat.trans ?_
                  generalize w8.drew = w9 at *
                  refine fr0 (u := .int .i64 0) rfl (fun _ => rfl) ?_
                  simp only [Act.put, List.setIfInBounds_toArray, List.set_cons_succ, List.set_cons_zero]
                  refine fr0 (u := .bool false) rfl (fun w => (run_neq33 rfl rfl rfl w).trans rfl) ?_
                  simp only [Act.put, List.setIfInBounds_toArray, List.set_cons_succ, List.set_cons_zero]
                  refine fr0 (u := .bool false) rfl (fun _ => rfl) ?_
                  simp only [Act.put, List.setIfInBounds_toArray, List.set_cons_succ, List.set_cons_zero]
                  refine fr0 (u := .slice (some ⟨rb, 0, none⟩) 64 64) (by kernel_rfl) (fun _ => rfl) ?_
                  simp only [Act.put, List.setIfInBounds_toArray, List.set_cons_succ, List.set_cons_zero]
                  refine fr1 (u := .string (strOf (List.replicate 64 (wt (at_ : Nat))))) (by kernel_rfl) (fun x hx => run_str (by simp) rfl rfl (hx.at hyb)) ?_
                  simp only [Act.put, List.setIfInBounds_toArray, List.set_cons_succ, List.set_cons_zero]
                  refine fr0 (u := .int .i64 (at_ : Nat)) (by kernel_rfl) (fun _ => rfl) ?_
                  simp only [Act.put, List.setIfInBounds_toArray, List.set_cons_succ, List.set_cons_zero]
                  refine fr0 (u := .pointer (some ⟨sb, at_, none⟩)) (by kernel_rfl) (run_index52 hat rfl rfl rfl) ?_
                  simp only [Act.put, List.setIfInBounds_toArray, List.set_cons_succ, List.set_cons_zero]
                  refine fr1 (u := .int .u8 (wt (at_ : Nat))) (by kernel_rfl) (fun x hx => run_load1 rfl rfl (hx.cell cs) isAgg5) ?_
                  simp only [Act.put, List.setIfInBounds_toArray, List.set_cons_succ, List.set_cons_zero]
                  refine fr2 (u := .slice (some ⟨w9.heap.size, 0, none⟩) 64 64) (w' := w9.alloc (.cells (fullA (wt (at_ : Nat))) 5)) (by kernel_rfl) (Lat.alloc _ _) (does_full1 rfl rfl) ?_
                  have hzz := heap_alloc_last w9 (.cells (fullA (wt (at_ : Nat))) 5)
                  rw [fullA_sec] at hzz ⊢
                  simp only [Act.put, List.setIfInBounds_toArray, List.set_cons_succ, List.set_cons_zero]
                  refine fr1 (u := .string (strOf (List.replicate 64 (wt (at_ : Nat))))) (by kernel_rfl) (fun x hx => run_str (by simp) rfl rfl (hx.at hzz)) ?_
                  simp only [Act.put, List.setIfInBounds_toArray, List.set_cons_succ, List.set_cons_zero]
                  refine fr0 (u := .bool false) (by kernel_rfl) (fun w => (run_neqS rfl rfl rfl w).trans (by simp)) ?_
                  simp only [Act.put, List.setIfInBounds_toArray, List.set_cons_succ, List.set_cons_zero]
                  refine fr0 (u := .bool false) rfl (fun _ => rfl) ?_
                  simp only [Act.put, List.setIfInBounds_toArray, List.set_cons_succ, List.set_cons_zero]
                  refine frnil ?_
                  show Exit.then _ _ _ _ _
                  have FIN := Lib.hid (H9.out.alloc' (.cells (sec (List.replicate 64 (wt at_))) 5))
                  have HMM := Lib.hid hmm
                  clear H9 hyb cs hzz hmm
                  go_wp2
                  go_roundw
                  case rel => exact ⟨at_ + 1, _, F8, by omega, by omega, by go_num, HR.out, by have := HMM.out; omega, FIN.out⟩
                  case measure => simp [RowKit.intOf]; omega
                · have hh : at_ = 100 := by omega
                  subst hh
                  have HO := Lib.hid hH.only
                  clear hH hC
                  go_wp2
                  go_ret
                  exact ⟨rfl, HO.out⟩
end Go.Proofs.Ytoccnaebckcfmaa
end

section
set_option linter.unusedSimpArgs false
set_option maxRecDepth 8000
namespace Go.Proofs.Ytoccnaebckcfmaa
open Go.RowKit
open Go.ChangeMaps (setBlock)

theorem run_map_eql_nil (w : World) (p : Option Nat) : (binOp .eql 88 (.map p) (.map none)).run Try.prog w = .ok (.bool p.isNone) w := by
  have h : ∀ d, (Op.equalIn (d + 1) 88 (.map p) (.map none)).run Try.prog w = .ok p.isNone w := fun d => by cases p <;> simp [Op.equalIn, run_underlying Try.underlying88]
  simp only [binOp]
  simp [show Op.equal 88 (.map p) (.map none) = Op.equalIn (9999 + 1) 88 (.map p) (.map none) from rfl, h 9999]

theorem run_assert55 (w : World) (v : Value) : (Instr.typeAssert (.iface 88 v) 20 88 false).run Try.prog w = .ok v w := by
  simp [Instr.typeAssert, run_underlying Try.underlying88, go_sem, Result.andThen]

theorem run_mclone (w : World) {r : Nat} {es : Array MapEntry} {clock : Nat} (hb : w.heap[r]? = some (.map es clock)) :
    (Extern.MapsClone.clone #[.iface 88 (.map (some r))]).run Try.prog w = .ok (.iface 88 (.map (some w.heap.size))) (w.alloc (.map es clock)) := by
  have e : Extern.MapsClone.clone #[.iface 88 (.map (some r))] = Sem.bind (getObj r) (fun o => match o with | .map entries c => Sem.bind (newObj (.map entries c)) (fun n => Sem.pure (.iface 88 (.map (some n)))) | _ => stuck "maps.clone: a map expected") := rfl
  rw [e]
  change (getObj r >>= _).run Try.prog w = _
  rw [Sem.run_bind, Go.MapKept.run_getObj_map hb]
  simp only [Result.andThen]
  rfl

set_option maxHeartbeats 400000 in
theorem mclone_any {w : World} {r : Nat} {es : Array MapEntry} {clock : Nat} (hb : w.heap[r]? = some (.map es clock)) :
    Calls Try.prog 54 #[.map (some r)] w fun e w' => e = .returned (.map (some w.heap.size)) ∧ w' = w.alloc (.map es clock) := by
  have hq := fun w => run_map_eql_nil w (some r)
  have HB := Lib.hid hb
  clear hb
  go_enter Try.func54, Try.ntmps54
  go_wp2
  rw [run_callFunc_extern Try.func78 (by kernel_rfl) (by kernel_rfl) (by kernel_rfl) (e := Extern.MapsClone.clone) (by kernel_rfl), run_mclone w HB.out]
  simp only [Result.andThen]
  rw [Oper.upon_value]
  go_wp2
  rw [run_assert55]
  simp only [Result.andThen]
  rw [Oper.upon_value]
  go_wp2
  go_ret
  exact ⟨rfl, rfl⟩

set_option maxHeartbeats 400000 in
theorem sclone_nil (w : World) : Calls Try.prog 55 #[.slice none 0 0] w fun e w' => e = .returned (.slice none 0 0) ∧ w = w' := by
  have hq : ∀ w, (binOp .eql 89 (.slice none 0 0) (.slice none 0 0)).run Try.prog w = .ok (.bool true) w := fun w => by kernel_rfl
  go_enter Try.func55, Try.ntmps55
  go_wp2
  go_ret
  exact ⟨rfl, rfl⟩

theorem run_build0 (w : World) : (Instr.buildSlice 89 0 #[]).run Try.prog w = .ok (.slice (some ⟨w.heap.size, 0, none⟩) 0 0) (w.alloc (.cells #[] 96)) := by kernel_rfl

set_option maxHeartbeats 400000 in
theorem sclone_some (w : World) (g n cap : Nat) (pend : List (Int × Array Value)) (hn : n = pend.length) (hok : ∀ p ∈ pend, SecOk p.2) (hlen : pend.length < 1000000000) (hr : w.rangeAt g 0 (pend.flatMap wcells)) :
    Calls Try.prog 55 #[.slice (some ⟨g, 0, none⟩) n cap] w fun e w' => ∃ v', e = .returned v' ∧ w'.ownsRow 0 96 65 v' pend.length (pend.flatMap wcells) ∧ Only [] w w' ∧ ∀ x, v'.ownBlock = some x → w.heap.size ≤ x := by
  have hq : ∀ w, (binOp .eql 89 (.slice (some ⟨g, 0, none⟩) n cap) (.slice none 0 0)).run Try.prog w = .ok (.bool false) w := fun w => by kernel_rfl
  obtain ⟨i0, hi, hz0, hz1, hz2⟩ := info_parts info90a
  have hown0 : (w.alloc (.cells #[] 96)).ownsRow 0 96 65 (.slice (some ⟨w.heap.size, 0, none⟩) 0 0) 0 [] := ⟨rfl, .inr ⟨w.heap.size, 0, #[], rfl, Nat.zero_le _, heap_alloc_last w _, Nat.le_refl _, Nat.zero_le _, rfl, rfl⟩⟩
  have hfl : ∀ l : List (Int × Array Value), (∀ p ∈ l, SecOk p.2) → (l.flatMap wcells).length = l.length * 65 := by
    intro l
    induction l with
    | nil => intro _; rfl
    | cons p l ih =>
      intro hl
      have hp : (wcells p).length = 65 := by simp [wcells, (hl p (by simp)).1]
      rw [List.flatMap_cons, List.length_append, ih (fun q hq => hl q (by simp [hq])), hp, List.length_cons]
      omega
  have hone : ∀ u ∈ pend.flatMap wcells, u.oneCell' = true := by
    intro u hu
    obtain ⟨p, hp, hu⟩ := List.mem_flatMap.1 hu
    simp only [wcells, List.mem_cons] at hu
    rcases hu with rfl | hu
    · rfl
    · exact (Array.all_eq_true_iff_forall_mem.1 (hok p hp).2) u (by simpa using hu)
  obtain ⟨v', w', hrun, hown, hgrow, hnil, hloc⟩ := run_append_own_at (P := Try.prog) (w.alloc (.cells #[] 96)) 0 89 89 96 i0 _ 65 72 Try.underlying89 hi hz0 hz1 hz2 (by simp [Value.cells, Z]) (by omega)
    (.slice (some ⟨w.heap.size, 0, none⟩) 0 0) 0 [] hown0 ⟨g, 0, none⟩ n cap (pend.flatMap wcells) (by rw [hfl pend hok, hn]) (fun j u hu => by rw [Addr.add_mid]; exact (World.rangeAt_alloc hr _) j u hu) hone (by unfold maxLen; omega) (by omega) (Nat.zero_le _)
  rw [Nat.zero_add, List.nil_append] at hown
  have HRUN := Lib.hid hrun
  have hb0 := run_build0
  have HN := Lib.hid hn
  clear hrun hn hi hz0 hz1 hz2
  go_enter Try.func55, Try.ntmps55
  go_wp2_with (refine wpL_value rfl (run_builtin_append rfl rfl rfl HRUN.out) ?_)
  go_ret
  refine ⟨v', rfl, by rw [← HN.out]; exact hown, ((Only.refl [] w).alloc (.cells #[] 96)).grown hgrow (fun k hk => ?_), fun x hx => ?_⟩
  · simp [Value.ownBlock] at hk
    exact .inr (by omega)
  · rcases hloc with h | h
    · rw [h] at hx
      simp [Value.ownBlock] at hx
      omega
    · rw [h] at hx
      simp at hx
      omega

set_option maxHeartbeats 1000000 in
theorem clone_any {w : World} {b : Nat} {F : List Nat} {S : St} (h : DAt w b F S) (hlen : S.pend.length < 1000000000) :
    Calls Try.prog 28 #[.pointer (some ⟨b, 0, none⟩)] w fun e w' => ∃ b' F', e = .returned (.pointer (some ⟨b', 0, none⟩)) ∧ DAt w' b' F' S ∧ Only [] w w' ∧ ∀ x ∈ F', w.heap.size ≤ x := by
  obtain ⟨mn, ms, pv, h, rfl⟩ := h
  obtain ⟨c0, c1, c2, c3, c4, c5, c6, fz⟩ := h.cells
  have hb := diskAt_lt h b (by simp [foot])
  obtain ⟨pa, pcap, hpv⟩ : ∃ a cap, pv = .slice a S.pend.length cap := by
    rcases h.pend.2 with ⟨h1, h2⟩ | ⟨g, cap, cur, h1, _⟩
    · exact ⟨none, 0, by rw [h1, h2]⟩
    · exact ⟨_, _, h1⟩
  subst hpv
  obtain ⟨es1, ck1, hb1, ok1⟩ := h.now
  obtain ⟨es2, ck2, hb2, ok2⟩ := h.sure
  have lt := diskAt_lt h
  have hmn := lt mn (by simp [foot])
  have hms := lt ms (by simp [foot])
  have H := Lib.hid h
  have HB1 := Lib.hid hb1
  have HB2 := Lib.hid hb2
  have LT := Lib.hid lt
  clear h hb1 hb2 lt
  go_enter Try.func28, Try.ntmps28
  go_wp2_with fail
  refine (mclone_any (es := es1) (clock := ck1) ?_).mono ?_
  · rw [Below.heap_alloc _ _ _ hmn]; exact HB1.out
  rintro e w' ⟨rfl, rfl⟩
  -- the copy's row at cb, and the first map's copy
  have o1 : Only [] w ((w.alloc (.cells (drow S mn ms (.slice pa S.pend.length pcap)) 91)).alloc (.map es1 ck1)) := ((Only.refl [] w).alloc _).alloc _
  have r1 : ((w.alloc (.cells (drow S mn ms (.slice pa S.pend.length pcap)) 91)).alloc (.map es1 ck1)).heap[w.heap.size]? = some (.cells (drow S mn ms (.slice pa S.pend.length pcap)) 91 (0, 0)) := by
    rw [Below.heap_alloc _ _ _ (by simp)]; exact heap_alloc_last w _
  have m1 : ((w.alloc (.cells (drow S mn ms (.slice pa S.pend.length pcap)) 91)).alloc (.map es1 ck1)).heap[w.heap.size + 1]? = some (.map es1 ck1) := by
    have := heap_alloc_last (w.alloc (.cells (drow S mn ms (.slice pa S.pend.length pcap)) 91)) (.map es1 ck1)
    rw [World.size_alloc] at this
    exact this
  have z1 : ((w.alloc (.cells (drow S mn ms (.slice pa S.pend.length pcap)) 91)).alloc (.map es1 ck1)).heap.size = w.heap.size + 2 := by simp
  rw [show (w.alloc (Obj.cells #[Value.int IntKind.i64 S.n, Value.bool S.on, Value.int IntKind.i64 S.fuse, Value.int IntKind.i64 S.steps, Value.map (some mn), Value.map (some ms), Value.slice pa S.pend.length pcap] 91)) = w.alloc (.cells (drow S mn ms (.slice pa S.pend.length pcap)) 91) from rfl, World.size_alloc]
  generalize (w.alloc (.cells (drow S mn ms (.slice pa S.pend.length pcap)) 91)).alloc (.map es1 ck1) = W1 at *
  have cellOf : ∀ (x : World) (k : Nat) (v : Value), Only [] w x → w.cell? ⟨b, k, none⟩ = some v → x.cell? ⟨b, k, none⟩ = some v := fun x k v ho hc => (World.cell?_of_block (w := w) (ho.block b hb (by simp))).trans hc
  have CELL := Lib.hid cellOf
  have C5 := Lib.hid c5
  have C6 := Lib.hid c6
  clear c0 c1 c2 c3 c4 c5 c6 fz cellOf
  have MS := Lib.hid (fun (x : World) (ho : Only [] w x) => (ho.block ms hms (by simp)).trans HB2.out)
  have LEN := Lib.hid hlen
  clear hlen
  generalize hcb : w.heap.size = cb at *
  -- the first store
  have q4 : W1.cell? ⟨cb, 4, none⟩ = some (.map (some mn)) := by rw [cell_of_row _ _ _ _ _ _ r1]; rfl
  have f4 : W1.frozen? ⟨cb, 4, none⟩ = false := by simp [World.frozen?, r1]
  have o2 : Only [] w (W1.setCell ⟨cb, 4, none⟩ (.map (some (cb + 1)))) := o1.setCell (.inr (by show w.heap.size ≤ cb; omega)) _
  have r2 := heap_setCell_row r1 4 (.map (some (cb + 1)))
  have m2 : (W1.setCell ⟨cb, 4, none⟩ (.map (some (cb + 1)))).heap[cb + 1]? = some (.map es1 ck1) := (Below.heap_setCell _ _ _ _ (by simp)).trans m1
  have z2 : (W1.setCell ⟨cb, 4, none⟩ (.map (some (cb + 1)))).heap.size = cb + 2 := by rw [World.size_setCell]; exact z1
  have d5 := CELL.out _ 5 _ o2 C5.out
  have MC := Lib.hid (mclone_any (MS.out _ o2))
  have O2 := Lib.hid o2
  have R2 := Lib.hid r2
  have M2 := Lib.hid m2
  have Z2 := Lib.hid z2
  have CB := Lib.hid hcb
  clear r1 m1 z1 o1 o2 r2 m2 z2 hcb MS
  go_wp2_with fail
  refine MC.out.mono ?_
  rintro e w' ⟨rfl, rfl⟩
  rw [Z2.out]
  -- the second map's copy
  have o3 := O2.out.alloc (.map es2 ck2)
  have r3 := (Below.heap_alloc _ (.map es2 ck2) _ (by rw [Z2.out]; omega)).trans R2.out
  have m3 := (Below.heap_alloc _ (.map es2 ck2) _ (by rw [Z2.out]; omega)).trans M2.out
  have s3 := heap_alloc_last (W1.setCell ⟨cb, 4, none⟩ (.map (some (cb + 1)))) (.map es2 ck2)
  rw [Z2.out] at s3
  have z3 : ((W1.setCell ⟨cb, 4, none⟩ (.map (some (cb + 1)))).alloc (.map es2 ck2)).heap.size = cb + 3 := by rw [World.size_alloc, Z2.out]
  clear MC O2 R2 M2 Z2 q4 f4 d5
  generalize (W1.setCell ⟨cb, 4, none⟩ (.map (some (cb + 1)))).alloc (.map es2 ck2) = W3 at *
  have q5 : W3.cell? ⟨cb, 5, none⟩ = some (.map (some ms)) := by rw [cell_of_row _ _ _ _ _ _ r3]; rfl
  have f5 : W3.frozen? ⟨cb, 5, none⟩ = false := by simp [World.frozen?, r3]
  have o4 : Only [] w (W3.setCell ⟨cb, 5, none⟩ (.map (some (cb + 2)))) := o3.setCell (.inr (by show w.heap.size ≤ cb; rw [CB.out]; omega)) _
  have r4 := heap_setCell_row r3 5 (.map (some (cb + 2)))
  have m4 : (W3.setCell ⟨cb, 5, none⟩ (.map (some (cb + 2)))).heap[cb + 1]? = some (.map es1 ck1) := (Below.heap_setCell _ _ _ _ (by simp)).trans m3
  have s4 : (W3.setCell ⟨cb, 5, none⟩ (.map (some (cb + 2)))).heap[cb + 2]? = some (.map es2 ck2) := (Below.heap_setCell _ _ _ _ (by simp)).trans s3
  have z4 : (W3.setCell ⟨cb, 5, none⟩ (.map (some (cb + 2)))).heap.size = cb + 3 := by rw [World.size_setCell]; exact z3
  have d6 := CELL.out _ 6 _ o4 C6.out
  -- the pending writes
  have SC : Hid (Calls Try.prog 55 #[.slice pa S.pend.length pcap] (W3.setCell ⟨cb, 5, none⟩ (.map (some (cb + 2)))) fun e w' => ∃ v', e = .returned v' ∧ w'.ownsRow 0 96 65 v' S.pend.length (S.pend.flatMap wcells) ∧ Only [] (W3.setCell ⟨cb, 5, none⟩ (.map (some (cb + 2)))) w' ∧ ∀ x, v'.ownBlock = some x → (W3.setCell ⟨cb, 5, none⟩ (.map (some (cb + 2)))).heap.size ≤ x) := by
    rcases H.out.pend with ⟨hl1, ⟨hnil, hl2⟩ | ⟨g, cap, cur, hv, _, hh, h3, h4, h5, h6⟩⟩
    · simp only [Value.slice.injEq] at hnil
      obtain ⟨rfl, hl3, rfl⟩ := hnil
      have hpe : S.pend = [] := List.eq_nil_of_length_eq_zero hl2
      rw [hl3]
      refine (sclone_nil _).mono ?_
      rintro e w' ⟨rfl, rfl⟩
      exact ⟨_, rfl, by rw [hpe]; exact World.ownsRow_nil _ _ _ _, Only.refl _ _, by simp [Value.ownBlock]⟩
    · simp only [Value.slice.injEq] at hv
      obtain ⟨rfl, _, rfl⟩ := hv
      refine sclone_some _ g S.pend.length _ S.pend rfl H.out.ok.pend LEN.out (fun j u hu => ?_)
      have hlt : g < w.heap.size := by rw [CB.out]; exact LT.out g (by simp [foot, Value.ownBlock])
      rw [World.cell?_of_block (w := w) (o4.block g hlt (by simp)), Nat.zero_add, cell_of_row _ _ _ _ _ _ hh, ← Array.getElem?_toList]
      rw [← h6] at hu
      have hj : j < S.pend.length * 65 := by
        rcases Nat.lt_or_ge j (S.pend.length * 65) with h | h
        · exact h
        · rw [List.getElem?_eq_none (by simp; omega)] at hu; cases hu
      rw [List.getElem?_take_of_lt hj] at hu
      exact hu
  have O4 := Lib.hid o4
  have R4 := Lib.hid r4
  have M4 := Lib.hid m4
  have S4 := Lib.hid s4
  have Z4 := Lib.hid z4
  clear r3 m3 s3 z3 o3 o4 r4 m4 s4 z4
  go_wp2_with fail
  refine SC.out.mono ?_
  rintro e w5 ⟨v', rfl, hown, o5, hnew⟩
  have lt4 : ∀ x, x < cb + 3 → w5.heap[x]? = (W3.setCell ⟨cb, 5, none⟩ (.map (some (cb + 2)))).heap[x]? := fun x hx => o5.block x (by rw [Z4.out]; exact hx) (by simp)
  have r5 := (lt4 cb (by omega)).trans R4.out
  have m5 := (lt4 (cb + 1) (by omega)).trans M4.out
  have s5 := (lt4 (cb + 2) (by omega)).trans S4.out
  have o6 := O4.out.trans o5 (by simp)
  have hnew' : ∀ x, v'.ownBlock = some x → cb + 3 ≤ x := fun x hx => by have := hnew x hx; rw [Z4.out] at this; exact this
  have hv1 : v'.oneCell' = true ∧ v'.cells = #[v'] := by
    rcases hown.2 with ⟨h1, _⟩ | ⟨g', cap', cur', h1, _⟩ <;> rw [h1] <;> exact ⟨rfl, rfl⟩
  obtain ⟨va, vc, hvs⟩ : ∃ a c, v' = .slice a S.pend.length c := by
    rcases hown.2 with ⟨h1, h2⟩ | ⟨g', cap', cur', h1, _⟩
    · exact ⟨none, 0, by rw [h1, h2]⟩
    · exact ⟨_, _, h1⟩
  subst hvs
  have q6 : w5.cell? ⟨cb, 6, none⟩ = some (.slice pa S.pend.length pcap) := by rw [cell_of_row _ _ _ _ _ _ r5]; rfl
  have f6 : w5.frozen? ⟨cb, 6, none⟩ = false := by simp [World.frozen?, r5]
  have R5 := Lib.hid r5
  have M5 := Lib.hid m5
  have S5 := Lib.hid s5
  clear SC lt4 r5 m5 s5 O4 R4 M4 S4 Z4 d6 q5 f5 hnew hv1
  go_wp2
  go_ret
  have hsz : cb + 3 ≤ w5.heap.size := by
    have := (Array.getElem?_eq_some_iff.1 S5.out).1
    omega
  refine ⟨cb, foot cb (cb + 1) (cb + 2) (.slice va S.pend.length vc), rfl, ⟨cb + 1, cb + 2, _, ⟨?_, ?_, ?_, ?_, by omega, H.out.ok⟩, rfl⟩, o6.setCell (.inr (by show w.heap.size ≤ cb; rw [CB.out]; omega)) _, fun x hx => ?_⟩
  · rw [heap_setCell_row R5.out]
    rfl
  · exact ⟨es1, ck1, (Below.heap_setCell _ _ _ _ (by simp)).trans M5.out, ok1⟩
  · exact ⟨es2, ck2, (Below.heap_setCell _ _ _ _ (by simp)).trans S5.out, ok2⟩
  · exact ownsRow_congr hown (fun x hx => Below.heap_setCell _ _ _ _ (by have := hnew' x hx; show x ≠ cb; omega))
  · rw [CB.out]
    simp only [foot, List.mem_cons, Option.mem_toList] at hx
    rcases hx with rfl | rfl | rfl | hx
    · omega
    · omega
    · omega
    · have := hnew' x hx; omega

theorem has_clone {w0 w : World} {b : Nat} {F : List Nat} {S : St} {Rs : List Res} (h : Has w0 w (DRes b F S :: Rs)) (hlen : S.pend.length < 1000000000) :
    Calls Try.prog 28 #[.pointer (some ⟨b, 0, none⟩)] w fun e w' => ∃ b' F', e = .returned (.pointer (some ⟨b', 0, none⟩)) ∧ Has w0 w' (DRes b' F' S :: DRes b F S :: Rs) := by
  refine (clone_any h.dat hlen).mono ?_
  rintro e w' ⟨b', F', rfl, d, o, f⟩
  exact ⟨b', F', rfl, h.more o (DRes b' F' S) d (fun x hx => ⟨f x hx, dAt_lt d x hx⟩)⟩

end Go.Proofs.Ytoccnaebckcfmaa
end

section
set_option linter.unusedSimpArgs false
set_option linter.unusedVariables false
set_option maxRecDepth 8000
namespace Go.Proofs.Ytoccnaebckcfmaa
open Go.RowKit
open Go.ChangeMaps (setBlock)

theorem writes_fuse : ∀ (ps : List (Int × Array Value)) (S : St), S.on = true → S.fuse = -1 → (∀ p ∈ ps, 0 ≤ p.1 ∧ p.1 < S.n) → (S.writeAll ps).1 = 0 ∧ (S.writeAll ps).2.on = true ∧ (S.writeAll ps).2.fuse = -1 ∧ (S.writeAll ps).2.n = S.n := by
  intro ps S h1 h2 h3
  obtain ⟨e1, e2, e3, e4, e5, e6⟩ := writes_live ps S h1 h2 h3
  unfold St.writeAll
  rw [if_pos e1]
  unfold St.doBarrier
  rw [if_neg (by simp [e3]), if_neg (by omega)]
  refine ⟨rfl, ?_, ?_, ?_⟩ <;> simp [St.stepped, St.settled, e2, e3, e4]
theorem finish_fuse {S : St} {a s g : Int} {ps : List (Int × Array Value)} (h1 : S.on = true) (h2 : S.fuse = -1) (h3 : ∀ p ∈ ps, 0 ≤ p.1 ∧ p.1 < S.n) (ha : 0 ≤ a ∧ a < S.n) : (S.finish a s ps g).1 = 0 := by
  obtain ⟨e1, e2, e3, e4⟩ := writes_fuse ps S h1 h2 h3
  unfold St.finish
  rw [if_pos e1]
  exact (writes_fuse [_] _ e2 e3 (fun p hp => by rw [List.mem_singleton.1 hp, e4]; exact ha)).1


section
variable {w0 w : World} {b : Nat} {F : List Nat} {S : St} {a n : Int} {f : Int → Array Value} {Rs : List Res} {ps : List (Int × Array Value)}
theorem has_openD {s N : Int} (h : Has w0 w (DRes b F S :: Rs)) (hS : LogBusy S a s n N f ps) (hfu : S.fuse = -1) (ha : 0 ≤ a) (hs : 3 ≤ s) (has : a + s ≤ N) (hn : 0 ≤ n) (hn1 : n ≤ 1000000) (hok : GroupOk a s N (rawsOf ps)) (hpb : ∀ p ∈ ps, SecOk p.2) (hne : 0 < ps.length) (hk : S.steps ≤ 900000000) :
    Calls Try.prog 29 #[.pointer (some ⟨b, 0, none⟩), .int .i64 a, .int .i64 s] w fun e w' => ∃ wb F' S', e = .returned (.tuple #[.pointer (some ⟨wb, 0, none⟩), .int .i64 0]) ∧ S'.steps ≤ S.steps + ps.length + 3 ∧ LogIs S' a s (n + 1) N (updL f ps) ∧ Has w0 w' (WRes wb b a s (n + 1) :: DRes b F' S' :: Rs) := by
  have n1 : S.n ≤ 8192 := by obtain ⟨_, _, _, h, _⟩ := h.dat; exact h.ok.n1
  have hN := hS.dn
  have hlr : (ps.length : Int) ≤ roomF s := by have := hok.1; simpa [rawsOf] using this
  have hlen : ps.length ≤ 8192 := by have h2 := roomF_bd hs; omega
  have hg := gfits_of ha hs has hok
  obtain ⟨e1, e2, e3, e4⟩ := rd_head (a := a) (s := s) (g := n + 1) (p := (ps.length : Int)) ⟨ha, by omega⟩ ⟨by omega, by omega⟩ ⟨by omega, by omega⟩ ⟨by omega, by omega⟩
  have hbd := finish_bd S a s ps (n + 1)
  rw [hS.calm.pend] at hbd
  simp only [List.length_nil] at hbd
  have hv : (S.now a).getD Z = sec (headLs a s (n + 1) (ps.length : Int)) := by rw [← headA_sec]; exact hS.head
  have hpd : S.pend.length + ps.length + 100 < 1000000000 := by rw [hS.calm.pend]; simp only [List.length_nil]; omega
  have hz : (S.finish a s ps (n + 1)).1 = 0 := finish_fuse hS.calm.on hfu (fun p hp => by have := hg.outside p hp; rw [hN]; omega) (by rw [hN]; omega)
  have := open_resumed (ps := ps) h.dat hS.calm.on (by omega) (by omega) ⟨hs, ha, by omega⟩ (headLs_len _ _ _ _) (headLs_bd _ _ _ _) hv (by rw [e1, e2, e3, e4]; simp) (by rw [e1]; simp) (by rw [e2]; simp) e4 (by rw [e4]; exact hlr) (by rw [hN]; exact hok) hS.holds hpb hne (by omega) hpd (by rw [e3]; exact hz)
  rw [e3] at this
  refine this.mono ?_
  rintro e w' ⟨hd, hcase⟩
  rcases finish_out hg hS with ⟨z, lg⟩ | ⟨z, off, lg⟩
  · rcases hcase with ⟨_, wb, he, hwb, hw'⟩ | ⟨hz', _⟩
    · obtain ⟨F', hh⟩ := h.disk hd
      refine ⟨wb, F', _, he, by omega, lg, ?_⟩
      have hlt := hw'.lt
      refine ⟨hh.only, fun r hr => ?_, List.pairwise_cons.2 ⟨fun r hr x hx hxr => ?_, hh.apart⟩⟩
      · rcases List.mem_cons.1 hr with rfl | hr
        · exact ⟨hw', fun x hx => by simp [WRes, BRes] at hx; subst hx; exact ⟨by have := h.only.size; omega, hlt⟩⟩
        · exact hh.each r hr
      · simp [WRes, BRes] at hx
        subst hx
        rcases List.mem_cons.1 hr with rfl | hr
        · exact wal_not_disk hh.dat hw' hxr
        · have := ((h.each r (by simp [hr])).2 x hxr).2
          omega
    · exact absurd z hz'
  · omega

end

/-- What is there behind a crash: of the old and the new. -/
def Behind (S : St) (z : Int) (f : Int → Array Value) (ps : List (Int × Array Value)) : Prop := (z = 0 ∧ LogIs S 0 40 2 100 (updL f ps)) ∨ (z = 2 ∧ LogOut S 0 40 1 100 f ps)
def CCrash (w0 : World) (d : Nat) (k : Int) (f : Int → Array Value) (ps : List (Int × Array Value)) (Rs : List Res) (e : Ending) (w' : World) : Prop :=
  ∃ z FD' S', e = .returned (.int .i64 z) ∧ S'.steps ≤ k + 1000 ∧ S'.pend.length ≤ 1000 ∧ (∀ keep, Behind (S'.booted keep) z f ps) ∧ Has w0 w' (DRes d FD' S' :: Rs)

theorem has_ccrash {w0 w : World} {cb d wb : Nat} {F FD : List Nat} {C : CaS} {S : St} {f : Int → Array Value} {Rs : List Res} (h : Has w0 w (CRes cb d wb F C :: DRes d FD S :: WRes wb d 0 40 1 :: Rs)) (ho : C.opn = true) (hS : LogIs S 0 40 1 100 f) (hok : GroupOk 0 40 100 (rawsOf (putsC C))) (hk : S.steps ≤ 900000000) :
    Calls Try.prog 19 #[pp cb] w fun e w' => CCrash w0 d S.steps f (putsC C) Rs e w' := by
  have hlen : (putsC C).length ≤ 37 := by
    have := hok.1
    rw [room40] at this
    simp only [rawsOf, List.length_map] at this
    omega
  have hd := h.swap.dat
  refine (ccommit_any (FD := FD) (Q := fun z Rs' => ∃ FD' S' wr, Rs' = DRes d FD' S' :: wr :: Rs ∧ S'.steps ≤ S.steps + 1000 ∧ S'.pend.length ≤ 1000 ∧ ∀ keep, Behind (S'.booted keep) z f (putsC C)) h ho (fun x hx => dAt_lt hd x hx) (fun w1 lv h1 hpu => ?_)).mono ?_
  · have h2 := (h1.pull (L1 := [_]) (L2 := _ :: Rs)).pull (L1 := [_, _]) (L2 := Rs)
    have h3 := h2.swap
    refine (has_commitL h3 hS hpu (by omega) (by omega) (by omega) (by omega) (by omega) hok hk).mono ?_
    rintro e w2 ⟨F', S', st, pd, ⟨rfl, lg, hh⟩ | ⟨rfl, off, lg, hh⟩⟩
    · exact ⟨0, _, rfl, ⟨F', S', _, rfl, by omega, by omega, fun keep => .inl ⟨rfl, lg.boot keep⟩⟩, hh.pull (L1 := [_, _]) (L2 := Rs)⟩
    · exact ⟨2, _, rfl, ⟨F', S', _, rfl, by omega, by omega, fun keep => .inr ⟨rfl, lg keep⟩⟩, hh.pull (L1 := [_, _]) (L2 := Rs)⟩
  · rintro e w' ⟨z, Rs', F', rfl, ⟨FD', S', wr, rfl, st, pd, hb⟩, hh⟩
    exact ⟨z, FD', S', rfl, st, pd, hb, hh.drop.swap.drop⟩

theorem updL_nil' (f : Int → Array Value) : updL f [] = f := by
  funext x
  exact updL_other (by simp)

/-- Open behind the boot: the old or the new. -/
def OpenBehind (w0 : World) (b : Nat) (z : Int) (f : Int → Array Value) (ps : List (Int × Array Value)) (Rs : List Res) (e : Ending) (w' : World) : Prop :=
  ∃ wb F' S' f', e = .returned (.tuple #[.pointer (some ⟨wb, 0, none⟩), .int .i64 0]) ∧ S'.on = true ∧ S'.n = 100 ∧ (∀ x, 40 ≤ x → S'.look x = f' x) ∧ (f' = updL f ps ∨ (z = 2 ∧ f' = f)) ∧ Has w0 w' (DRes b F' S' :: Rs)
theorem has_openCr {w0 w : World} {b : Nat} {F : List Nat} {S : St} {f : Int → Array Value} {Rs : List Res} {ps : List (Int × Array Value)} {z : Int} (h : Has w0 w (DRes b F S :: Rs)) (hS : Behind S z f ps) (hfu : S.fuse = -1) (hok : GroupOk 0 40 100 (rawsOf ps)) (hpb : ∀ p ∈ ps, SecOk p.2) (hk : S.steps ≤ 900000000) :
    Calls Try.prog 29 #[.pointer (some ⟨b, 0, none⟩), .int .i64 0, .int .i64 40] w fun e w' => OpenBehind w0 b z f ps Rs e w' := by
  have key : ∀ q g, LogIs S 0 40 q 100 g → 0 ≤ q → q ≤ 2 → (g = updL f ps ∨ (z = 2 ∧ g = f)) → Calls Try.prog 29 #[.pointer (some ⟨b, 0, none⟩), .int .i64 0, .int .i64 40] w fun e w' => OpenBehind w0 b z f ps Rs e w' := by
    intro q g hq q0 q1 hg
    refine (has_openL h hq (by omega) (by omega) (by omega) q0 (by omega)).mono ?_
    rintro e w' ⟨wb, rfl, hh⟩
    exact ⟨wb, F, S, g, rfl, hq.calm.on, hq.dn, fun x hx => hq.rest x (.inr (by omega)), hg, hh.drop⟩
  rcases hS with ⟨_, hq⟩ | ⟨hz, hq | hq | hq⟩
  · exact key 2 _ hq (by omega) (by omega) (.inl rfl)
  · exact key 1 _ hq (by omega) (by omega) (.inr ⟨hz, rfl⟩)
  · by_cases hne : 0 < ps.length
    · refine (has_openD h hq hfu (by omega) (by omega) (by omega) (by omega) (by omega) hok hpb hne hk).mono ?_
      rintro e w' ⟨wb, F', S', rfl, _, lg, hh⟩
      exact ⟨wb, F', S', _, rfl, lg.calm.on, lg.dn, fun x hx => lg.rest x (.inr (by omega)), .inl rfl, hh.drop⟩
    · have hp : ps = [] := List.eq_nil_of_length_eq_zero (by omega)
      subst hp
      exact key 2 f hq.none (by omega) (by omega) (.inl (updL_nil' f).symm)
  · exact key 2 _ hq (by omega) (by omega) (.inl rfl)

/-- What the sectors hold. -/
theorem Tx.updL {C : CaS} {old nxt : Int → Int} {i : Nat} {f : Int → Array Value} (h : Tx C old nxt i) (hok : GroupOk 0 40 100 (rawsOf (putsC C))) (hf : ∀ x, 40 ≤ x → x < 100 → f x = fullA (old x)) {x : Int} (h0 : 40 ≤ x) (h1 : x < 100) : Go.Proofs.Ytoccnaebckcfmaa.updL f (putsC C) x = fullA (nxt x) := by
  have hn : ((putsC C).map (·.1)).Nodup := by have := hok.2.2; rw [rawsOf, List.map_map] at this; exact this
  by_cases hx : x ∈ C.pin
  · have hp : (x, (C.held x).getD Z) ∈ putsC C := List.mem_map.2 ⟨x, sorted_mem.2 hx, rfl⟩
    have := updL_at (f := f) hn hp
    simp only at this
    rw [this, h.pin x hx]
    rfl
  · rw [updL_other (fun p hp => ?_), hf x h0 h1, h.same x hx]
    obtain ⟨y, hy, rfl⟩ := List.mem_map.1 hp
    exact fun e => hx (e ▸ sorted_mem.1 hy)
theorem putsC_ok {C : CaS} (ok : CaOk C) : ∀ p ∈ putsC C, SecOk p.2 := fun p hp => by
  obtain ⟨y, hy, rfl⟩ := List.mem_map.1 hp
  exact secOk_getD ok.sec y
theorem logis_quiet {k : Int} {f : Int → Option (Array Value)} {g : Int} (hf : f 0 = some (headA 0 40 g 0)) : LogIs (quiet 100 k f) 0 40 g 100 (fun x => (f x).getD Z) :=
  ⟨calm_quiet _ _ _, rfl, by unfold St.look; show (f 0).getD Z = _; rw [hf, Option.getD_some], fun x _ => rfl⟩
end Go.Proofs.Ytoccnaebckcfmaa
end

section
set_option linter.unusedSimpArgs false
set_option linter.unusedVariables false
set_option maxRecDepth 8000
namespace Go.Proofs.Ytoccnaebckcfmaa
open Go.RowKit
open Go.ChangeMaps (setBlock)

section
variable {o : Oper} {a : Act} {w : World}
theorem run_load52 {x : Operand} {g : Nat} {v : Array Value} {t : TypeId} (ho : o.op = .load 52 x) (hx : a.eval x = .pointer (some ⟨g, 0, none⟩)) (hb : w.heap[g]? = some (.cells v t (0, 0))) (hv : v.size = 100) :
    (execOp a.eval o).run Try.prog w = .ok (.value (.agg v)) w := by
  unfold execOp
  simp only [ho, hx, Instr.loadAt, Instr.sureAddr, Sem.run_bind, Sem.run_pure, Result.andThen_ok, run_loadVar_row (P := Try.prog) w g t 52 v (0, 0) (.array 100 5) hb Try.underlying52 rfl (by rw [info52, hv])]
end
theorem Clean.newA (most : Int) (old : Int → Int) : Clean (CaS.new most) old := ⟨rfl, rfl, by simp [CaS.new]⟩
theorem read_at {w0 w : World} {b : Nat} {F : List Nat} {S : St} {Rs : List Res} {val : Int → Int} (h : Has w0 w (DRes b F S :: Rs)) (hon : S.on = true) (hn : S.n = 100) (hl : ∀ x, 40 ≤ x → x < 100 → S.look x = fullA (val x)) (i : Int) (h0 : 40 ≤ i) (h1 : i < 100) :
    Calls Try.prog 33 #[.pointer (some ⟨b, 0, none⟩), .int .i64 i] w fun e w' => ∃ rb, e = .returned (.tuple #[.slice (some ⟨rb, 0, none⟩) 64 64, .int .i64 0]) ∧ Has w0 w' (BRes rb (.cells (fullA (val i)) 93) :: DRes b F S :: Rs) := by
  refine (has_read h i (by rw [St.reach, if_neg (by simp [hon]), if_neg (by omega)])).mono ?_
  rintro e w' ⟨rfl, rfl⟩
  have e1 : (S.now i).getD Z = fullA (val i) := hl i h0 h1
  rw [e1]
  exact ⟨_, rfl, h.alloc _⟩
theorem Has.two {w0 w : World} {a b c d : Res} (h : Has w0 w [a, b, c, d]) : Has w0 w [b, c] := h.drop.firsts (L := [_, _]) (L2 := [_])

/-- Behind the first transaction. -/
def CR1 (w : World) (d sb : Nat) (wt : Int → Int) (wr : World) : Prop := ∃ FD k f, 0 ≤ k ∧ k ≤ 1000 ∧ Dk f wt ∧ f 0 = some (headA 0 40 1 0) ∧ Has w wr [DRes d FD (quiet 100 k f), BRes sb (.cells (bytesA wt) 52)]
/-- Within the second one. -/
def CR3 (w : World) (yb c wbc d sb nb : Nat) (Fc FD : List Nat) (k : Int) (f : Int → Option (Array Value)) (wt : Int → Int) (wr : World) : Prop :=
  ∃ j C F nx, j ≤ 20 ∧ Tx C wt nx j ∧ Has w wr [CRes yb c wbc F C, DRes c Fc (quiet 100 k f), WRes wbc c 0 40 1, DRes d FD (quiet 100 k f), BRes sb (.cells (bytesA wt) 52), BRes nb (.cells (bytesA nx) 52)]
def BvIs (val wt nx : Int → Int) (b4 b5 : Bool) : Prop := (val = wt → b4 = true) ∧ (val = nx → b5 = true)

set_option maxHeartbeats 16000000 in
theorem crashes_any (w : World) (ad : Option Addr) (len cap : Nat) (K A M B : Nat → Int) (ad2 : Option Addr) (len2 cap2 : Nat) (K2 A2 M2 B2 : Nat → Int) (kv : Value) (keep : List Int) (hin : Ops3 w ad len K A M B) (hin2 : Ops3 w ad2 len2 K2 A2 M2 B2) (hkeep : ∀ F : List Nat, (∀ y ∈ F, w.heap.size ≤ y) → KeepAt w F kv keep) :
    Calls Try.prog 6 #[.slice ad len cap, .slice ad2 len2 cap2, kv] w fun e w' => e = .returned (.bool true) ∧ Only [] w w' := by
  have SH := Lib.hid (shown3_any w)
  have hsm := hin.small
  have hsm2 := hin2.small
  have HIN := Lib.hid hin
  have HIN2 := Lib.hid hin2
  have HKE := Lib.hid hkeep
  clear hin hin2 hkeep
  go_enter Try.func6, Try.ntmps6
  go_wp2_with fail
  refine SH.out.mono ?_
  rintro e w1 ⟨rfl, o1⟩
  have G := Lib.hid (ground3_any ((Has.start w).later o1) (most := 7) (by omega) (by omega))
  clear SH o1
  go_wp2_with fail
  refine G.out.mono ?_
  rintro e w2 ⟨d, FD, wb, cb, F0, rfl, h0⟩
  have BG := Lib.hid (has_cbegin_cl (h0.alloc (.cells (bytesA (fun _ => 0)) 52)).last rfl)
  clear G h0
  unfold pp at *
  go_wp2_with (first | (refine wpL_build0 build52 rfl rfl ?_) | (refine wpL_alloc0 zero52 rfl rfl ?_) | (refine wpL_store0 info52 (bytesA_size _) (bytesA_size _) (bytesA_one _) rfl rfl rfl rfl ?_))
  generalize w2.heap.size = sb at *
  refine BG.out.mono ?_
  rintro e w3 ⟨F3, rfl, h3⟩
  have C0 := Lib.hid h3
  clear BG h3
  go_upto_block 0 with fail
  go_cut [11] (fun _ wx => ∃ (i : Nat) (C : CaS) (F : List Nat) (wt : Int → Int), i ≤ 20 ∧ Tx C (fun _ => 0) wt i ∧ Has w wx [CRes cb d wb F C, DRes d FD (quiet 100 2 f00), WRes wb d 0 40 0, BRes sb (.cells (bytesA wt) 52)])
  case first =>
    as_aux_lemma =>
    go_wp2_with fail
    go_loopw [11] (fun x wr => ∃ (i : Nat) (C : CaS) (F : List Nat) (wt : Int → Int), i ≤ min len 20 ∧ x = .int .i64 i ∧ Tx C (fun _ => 0) wt i ∧ Has w wr [CRes cb d wb F C, DRes d FD (quiet 100 2 f00), WRes wb d 0 40 0, BRes sb (.cells (bytesA wt) 52)]) (fun x _ => min len 20 - (RowKit.intOf x).toNat)
    case atStart => exact ⟨0, _, F3, _, by omega, rfl, (Clean.new 7).begin, C0.out⟩
    case round =>
      clear C0
      obtain ⟨i, C, F, wt, hi, rfl, hT, hH⟩ := hrel
      by_cases hlt : i < min len 20
      · as_aux_lemma =>
        have hil : i < len := by omega
        have hi30 : i < 20 := by omega
        obtain ⟨g, o, rfl, hg, q0, q1, q2, q3⟩ := HIN.out.each i hil
        obtain ⟨ab0, ab1⟩ := HIN.out.ab i hil
        have KH := Lib.hid (fun x => kind_any (A i) 60 x ab0 ab1 (by omega) (by omega))
        obtain ⟨xb0, xb1⟩ := amongF_bd (A i) 60 (by omega)
        generalize amongF (A i) 60 = x at *
        have bl := hH.only.block g hg (by simp)
        have p1 := (World.cell?_of_block (w := w) (a := ⟨g, o + i * 4 + 1, none⟩) bl).trans q1
        have p3 := (World.cell?_of_block (w := w) (a := ⟨g, o + i * 4 + 3, none⟩) bl).trans q3
        have WR := Lib.hid (tx_write hH hT (40 + x) (B i) (by omega) (by omega))
        have HT := Lib.hid (hT.write (x := 40 + x) (by omega) (by omega) (B i))
        clear hH hT bl q0 q1 q2
        unfold pp at *
        go_wp2_with (first | (go_at_call 9; refine (KH.out _).mono ?_; rintro e w' ⟨rfl, rfl⟩) | (go_at_call 14; refine (full1_any _ _).mono ?_; rintro e w' ⟨rfl, rfl⟩))
        refine WR.out.mono ?_
        rintro e w6 ⟨F6, rfl, h6⟩
        have bl6 := h6.only.block g hg (by simp)
        have p36 := (World.cell?_of_block (w := w) (a := ⟨g, o + i * 4 + 3, none⟩) bl6).trans q3
        have hb6 : w6.heap[sb]? = some (.cells (bytesA wt) 52 (0, 0)) := h6.blk (by simp)
        obtain ⟨y, hy, hy1⟩ : ∃ y : Nat, 40 + x = (y : Int) ∧ y < 100 := ⟨(40 + x).toNat, by omega, by omega⟩
        have cs : w6.cell? ⟨sb, y, none⟩ = some (.int .u8 (wt y)) := by rw [cell_of_row _ _ _ _ _ _ hb6]; exact bytesA_at hy1
        have fs : w6.frozen? ⟨sb, y, none⟩ = false := by simp [World.frozen?, hb6]
        have h7 := ((h6.fst (L := [_, _, _])).setb y (.int .u8 (B i))).last
        rw [bytesA_set hy1] at h7
        have H7 := Lib.hid h7
        clear KH WR p1 p3 bl6 h6 hb6 h7 q3
        rw [hy] at HT H7 ⊢
        clear hy xb0 xb1
        go_wp2
        go_roundw
        case rel => exact ⟨i + 1, _, F6, _, by omega, by go_num, HT.out, H7.out⟩
        case measure => simp [RowKit.intOf]; omega
      · have FIN : Hid (∃ (i : Nat) (C : CaS) (F : List Nat) (wt : Int → Int), i ≤ 20 ∧ Tx C (fun _ => 0) wt i ∧ Has w wr [CRes cb d wb F C, DRes d FD (quiet 100 2 f00), WRes wb d 0 40 0, BRes sb (.cells (bytesA wt) 52)]) := (⟨i, C, F, wt, by omega, hT, hH⟩ : ∃ (i : Nat) (C : CaS) (F : List Nat) (wt : Int → Int), i ≤ 20 ∧ Tx C (fun _ => 0) wt i ∧ Has w wr [CRes cb d wb F C, DRes d FD (quiet 100 2 f00), WRes wb d 0 40 0, BRes sb (.cells (bytesA wt) 52)])
        clear hH hT
        have EX : (i = len ∧ len ≤ 20) ∨ (i = 20 ∧ 20 < len) := by omega
        clear hlt hi
        rcases EX with ⟨rfl, hL⟩ | ⟨rfl, hL⟩
        · go_wp2
          go_meet
          exact FIN.out
        · go_wp2
          go_meet
          exact FIN.out
  case rest =>
    clear C0
    obtain ⟨i, C, F, wt, hi20, hT, hH⟩ := hcut
    have CO := Lib.hid (tx_commit hH hT (by omega) Dk.new (by omega) (by omega) (by omega) (by omega))
    clear hH hT
    rename World => wP
    unfold pp at *
    go_wp2_with fail
    refine CO.out.mono ?_
    rintro e w3 ⟨k3, FD3, F3, f3, hk31, hk30, hd3, hf3, rfl, h3⟩
    have C1 := Lib.hid (h3.drop.swap.drop)
    have HD := Lib.hid hd3
    have HF := Lib.hid hf3
    clear CO h3 hd3 hf3
    go_wp2
    go_loopw [14] (fun x wr => ∃ t : Nat, t ≤ 27 ∧ x = .int .i64 (3 * (t : Int)) ∧ Has w wr [DRes d FD3 (quiet 100 k3 f3), BRes sb (.cells (bytesA wt) 52)]) (fun x _ => 81 - (RowKit.intOf x).toNat)
    case atStart => exact ⟨0, by omega, rfl, C1.out⟩
    case round =>
      clear C1
      rename World => wA
      obtain ⟨t, ht, rfl, hH⟩ := hrel
      by_cases htl : t < 27
      · as_aux_lemma =>
        have CL := Lib.hid (has_clone hH (by simp [quiet]))
        have hf27 : (3 * (t : Int)) < 80 := by omega
        clear hH
        go_wp2_with fail
        refine CL.out.mono ?_
        rintro e wB ⟨c, Fc, rfl, hB⟩
        have OP := Lib.hid (has_openL hB (logis_quiet HF.out) (by omega) (by omega) (by omega) (by omega) (by omega))
        clear CL hB
        go_wp2_with fail
        refine OP.out.mono ?_
        rintro e wC ⟨wbc, rfl, hC⟩
        have CN := Lib.hid (has_cnew hC.swap c wbc (most := 7) (by omega) (by omega))
        clear OP hC
        unfold pp at *
        go_wp2_with fail
        refine CN.out.mono ?_
        rintro e wD ⟨yb, Fy, rfl, hD⟩
        have hbs : wD.heap[sb]? = some (.cells (bytesA wt) 52 (0, 0)) := hD.blk (by simp)
        have HBS := Lib.hid hbs
        have BG := Lib.hid (has_cbegin_cl (hD.alloc (.cells (bytesA wt) 52)).last rfl)
        clear CN hD hbs
        unfold pp at *
        go_wp2_with (first | (refine wpL_value rfl (run_load52 rfl rfl HBS.out (bytesA_size _)) ?_) | (refine wpL_alloc0 zero52 rfl rfl ?_) | (refine wpL_store0 info52 (bytesA_size _) (bytesA_size _) (bytesA_one _) rfl rfl rfl rfl ?_))
        generalize wD.heap.size = nb at *
        refine BG.out.mono ?_
        rintro e wE ⟨Fy2, rfl, hE⟩
        have C2 := Lib.hid hE
        clear BG hE HBS
        go_upto_block 4 with fail
        go_cut [21] (fun _ wx => CR3 w yb c wbc d sb nb Fc FD3 k3 f3 wt wx)
        case first =>
          as_aux_lemma =>
          go_wp2_with fail
          go_loopw [21] (fun x wr => ∃ (j : Nat) (C : CaS) (F : List Nat) (nx : Int → Int), j ≤ min len2 20 ∧ x = .int .i64 j ∧ Tx C wt nx j ∧ Has w wr [CRes yb c wbc F C, DRes c Fc (quiet 100 k3 f3), WRes wbc c 0 40 1, DRes d FD3 (quiet 100 k3 f3), BRes sb (.cells (bytesA wt) 52), BRes nb (.cells (bytesA nx) 52)]) (fun x _ => min len2 20 - (RowKit.intOf x).toNat)
          case atStart => exact ⟨0, _, Fy2, _, by omega, rfl, (Clean.newA 7 wt).begin, C2.out⟩
          case round =>
            clear C2
            obtain ⟨j, C, F, nx, hj, rfl, hT, hH⟩ := hrel
            by_cases hlt : j < min len2 20
            · as_aux_lemma =>
              have hil : j < len2 := by omega
              have hi30 : j < 20 := by omega
              obtain ⟨g, o, rfl, hg, q0, q1, q2, q3⟩ := HIN2.out.each j hil
              obtain ⟨ab0, ab1⟩ := HIN2.out.ab j hil
              have KH := Lib.hid (fun x => kind_any (A2 j) 60 x ab0 ab1 (by omega) (by omega))
              obtain ⟨xb0, xb1⟩ := amongF_bd (A2 j) 60 (by omega)
              generalize amongF (A2 j) 60 = x at *
              have bl := hH.only.block g hg (by simp)
              have p1 := (World.cell?_of_block (w := w) (a := ⟨g, o + j * 4 + 1, none⟩) bl).trans q1
              have p3 := (World.cell?_of_block (w := w) (a := ⟨g, o + j * 4 + 3, none⟩) bl).trans q3
              have WR := Lib.hid (tx_write hH hT (40 + x) (B2 j) (by omega) (by omega))
              have HT := Lib.hid (hT.write (x := 40 + x) (by omega) (by omega) (B2 j))
              clear hH hT bl q0 q1 q2
              unfold pp at *
              go_wp2_with (first | (go_at_call 9; refine (KH.out _).mono ?_; rintro e w' ⟨rfl, rfl⟩) | (go_at_call 14; refine (full1_any _ _).mono ?_; rintro e w' ⟨rfl, rfl⟩))
              refine WR.out.mono ?_
              rintro e w6 ⟨F6, rfl, h6⟩
              have bl6 := h6.only.block g hg (by simp)
              have p36 := (World.cell?_of_block (w := w) (a := ⟨g, o + j * 4 + 3, none⟩) bl6).trans q3
              have hb6 : w6.heap[nb]? = some (.cells (bytesA nx) 52 (0, 0)) := h6.blk (by simp)
              obtain ⟨y, hy, hy1⟩ : ∃ y : Nat, 40 + x = (y : Int) ∧ y < 100 := ⟨(40 + x).toNat, by omega, by omega⟩
              have cs : w6.cell? ⟨nb, y, none⟩ = some (.int .u8 (nx y)) := by rw [cell_of_row _ _ _ _ _ _ hb6]; exact bytesA_at hy1
              have fs : w6.frozen? ⟨nb, y, none⟩ = false := by simp [World.frozen?, hb6]
              have h7 := ((h6.fst (L := [_, _, _, _, _])).setb y (.int .u8 (B2 j))).last
              rw [bytesA_set hy1] at h7
              have H7 := Lib.hid h7
              clear KH WR p1 p3 bl6 h6 hb6 h7 q3
              rw [hy] at HT H7 ⊢
              clear hy xb0 xb1
              go_wp2
              go_roundw
              case rel => exact ⟨j + 1, _, F6, _, by omega, by go_num, HT.out, H7.out⟩
              case measure => simp [RowKit.intOf]; omega
            · have fin : CR3 w yb c wbc d sb nb Fc FD3 k3 f3 wt wr := ⟨j, C, F, nx, by omega, hT, hH⟩
              have FIN := Lib.hid fin
              clear hH hT fin
              have EX : (j = len2 ∧ len2 ≤ 20) ∨ (j = 20 ∧ 20 < len2) := by omega
              clear hlt hj
              rcases EX with ⟨rfl, hL⟩ | ⟨rfl, hL⟩
              · go_wp2
                go_meet
                exact FIN.out
              · go_wp2
                go_meet
                exact FIN.out
        case rest =>
          as_aux_lemma =>
          clear C2
          obtain ⟨j, C, F, nx, hj20, hT, hH⟩ := hcut
          rename World => wF
          have hok := hT.group hH.cok (by omega)
          have FU := Lib.hid (has_fuse (hH.pull (L1 := [_]) (L2 := [_, _, _, _])) (3 * (t : Int)) (by omega))
          have HT := Lib.hid hT
          have HOK := Lib.hid hok
          have HPB := Lib.hid (putsC_ok hH.cok)
          clear hT hok hH
          go_wp2_with fail
          refine FU.out.mono ?_
          rintro e wG ⟨rfl, FG, hG⟩
          have hst : ((quiet 100 k3 f3).fused (3 * (t : Int))).steps ≤ 2000 := by simp [St.fused, quiet]; omega
          have CC := Lib.hid (has_ccrash (hG.swap) HT.out.opn ((logis_quiet HF.out).fuse (3 * (t : Int))) HOK.out (by omega))
          clear FU hG
          unfold pp at *
          go_wp2_with fail
          refine CC.out.mono ?_
          rintro e wH ⟨z, FH, SH, rfl, hst2, hpd2, hbh, hH⟩
          have BO := Lib.hid (has_boot hH ((HKE.out FH (fun y hy => ((hH.each (DRes c FH SH) (by simp)).2 y hy).1)).only hH.only (by simp)) (by omega))
          have HBH := Lib.hid hbh
          have hz : z = 0 ∨ z = 2 := by rcases hbh keep with ⟨h, _⟩ | ⟨h, _⟩; exact .inl h; exact .inr h
          clear CC hH hbh
          go_wp2_with fail
          refine BO.out.mono ?_
          rintro e wI ⟨rfl, FI, hI⟩
          have OP2 := Lib.hid (has_openCr hI (HBH.out keep) rfl HOK.out HPB.out (by show SH.steps ≤ _; omega))
          clear BO hI HBH HPB
          go_wp2_with fail
          refine OP2.out.mono ?_
          rintro e wJ ⟨wbj, FJ, SJ, fJ, rfl, hon, hnJ, hlk, hcase, hJ⟩
          obtain ⟨val, hval, hvc⟩ : ∃ val : Int → Int, (∀ x, 40 ≤ x → x < 100 → SJ.look x = fullA (val x)) ∧ (val = nx ∨ (z = 2 ∧ val = wt)) := by
            rcases hcase with rfl | ⟨hz2, rfl⟩
            · exact ⟨nx, fun x h0 h1 => by rw [hlk x h0]; exact HT.out.updL HOK.out HD.out h0 h1, .inl rfl⟩
            · exact ⟨wt, fun x h0 h1 => by rw [hlk x h0]; exact HD.out x h0 h1, .inr ⟨hz2, rfl⟩⟩
          have HV := Lib.hid (And.intro hon (And.intro hnJ hval))
          have HVC := Lib.hid hvc
          have C4 := Lib.hid hJ
          clear OP2 hJ hlk hcase hval hvc HT HOK hon hnJ
          go_wp2
          go_loopw [26, 24, 25] (fun x v4 v5 wr => ∃ (at_ : Nat) (b4 b5 : Bool), 40 ≤ at_ ∧ at_ ≤ 100 ∧ x = .int .i64 at_ ∧ v4 = .bool b4 ∧ v5 = .bool b5 ∧ BvIs val wt nx b4 b5 ∧ Has w wr [DRes c FJ SJ, DRes d FD3 (quiet 100 k3 f3), BRes sb (.cells (bytesA wt) 52), BRes nb (.cells (bytesA nx) 52)]) (fun x _ _ _ => 100 - (RowKit.intOf x).toNat)
          case atStart => exact ⟨40, true, true, by omega, by omega, rfl, rfl, rfl, ⟨fun _ => rfl, fun _ => rfl⟩, C4.out⟩
          case round =>
            clear C4
            obtain ⟨at_, b4, b5, ha0, ha1, rfl, rfl, rfl, hbv, hH⟩ := hrel
            by_cases hat : at_ < 100
            · as_aux_lemma =>
              have RD := Lib.hid (read_at hH HV.out.1 HV.out.2.1 HV.out.2.2 at_ (by omega) (by omega))
              have HBV := Lib.hid hbv
              clear hH hbv
              go_wp2_with fail
              refine RD.out.mono ?_
              rintro e w8 ⟨rb, rfl, h8⟩
              have H9 := Lib.hid h8.drew
              clear RD h8
              go_wp2_with fail
              cases b4
              · have hyb : w8.drew.heap[rb]? = some (.cells (fullA (val at_)) 93 (0, 0)) := H9.out.blk (by simp)
                have hsb : w8.drew.heap[sb]? = some (.cells (bytesA wt) 52 (0, 0)) := H9.out.blk (by simp)
                have cs : w8.drew.cell? ⟨sb, at_, none⟩ = some (.int .u8 (wt at_)) := by rw [cell_of_row _ _ _ _ _ _ hsb]; exact bytesA_at hat
                rw [fullA_sec] at hyb
                clear hsb
                refine wp_region_flowR Lat [0, 0, 0, 0, 0, 0, 0, 1, 0, 0, 1, 2, 1, 0, 0, 0] (by kernel_rfl) (by kernel_rfl) Lat.refl Lat.trans ?_
                generalize w8.drew = w9 at *
                refine fr0 (u := .bool false) rfl (fun _ => rfl) ?_
                simp only [Act.put, List.setIfInBounds_toArray, List.set_cons_succ, List.set_cons_zero]
                refine fr0 (u := .bool false) rfl (fun _ => rfl) ?_
                simp only [Act.put, List.setIfInBounds_toArray, List.set_cons_succ, List.set_cons_zero]
                refine frx (by kernel_rfl) ?_
                simp only [Act.put, List.setIfInBounds_toArray, List.set_cons_succ, List.set_cons_zero]
                refine frx (by kernel_rfl) ?_
                simp only [Act.put, List.setIfInBounds_toArray, List.set_cons_succ, List.set_cons_zero]
                refine fr0 (u := .bool false) rfl (fun _ => rfl) ?_
                simp only [Act.put, List.setIfInBounds_toArray, List.set_cons_succ, List.set_cons_zero]
                refine fr0 (u := .bool false) rfl (fun _ => rfl) ?_
                simp only [Act.put, List.setIfInBounds_toArray, List.set_cons_succ, List.set_cons_zero]
                refine frx (by kernel_rfl) ?_
                simp only [Act.put, List.setIfInBounds_toArray, List.set_cons_succ, List.set_cons_zero]
                refine frx (by kernel_rfl) ?_
                simp only [Act.put, List.setIfInBounds_toArray, List.set_cons_succ, List.set_cons_zero]
                refine frx (by kernel_rfl) ?_
                simp only [Act.put, List.setIfInBounds_toArray, List.set_cons_succ, List.set_cons_zero]
                refine frx (by kernel_rfl) ?_
                simp only [Act.put, List.setIfInBounds_toArray, List.set_cons_succ, List.set_cons_zero]
                refine frx (by kernel_rfl) ?_
                simp only [Act.put, List.setIfInBounds_toArray, List.set_cons_succ, List.set_cons_zero]
                refine frx (by kernel_rfl) ?_
                simp only [Act.put, List.setIfInBounds_toArray, List.set_cons_succ, List.set_cons_zero]
                refine frx (by kernel_rfl) ?_
                simp only [Act.put, List.setIfInBounds_toArray, List.set_cons_succ, List.set_cons_zero]
                refine frx (by kernel_rfl) ?_
                simp only [Act.put, List.setIfInBounds_toArray, List.set_cons_succ, List.set_cons_zero]
                refine fr0 (u := .bool false) rfl (fun _ => rfl) ?_
                simp only [Act.put, List.setIfInBounds_toArray, List.set_cons_succ, List.set_cons_zero]
                refine fr0 (u := .bool false) rfl (fun _ => rfl) ?_
                simp only [Act.put, List.setIfInBounds_toArray, List.set_cons_succ, List.set_cons_zero]
                refine frnil ?_
                show Exit.then _ _ _ _ _
                have H10 := Lib.hid H9.out
                clear H9 hyb cs
                generalize hwx : w9 = wx at *
                clear hwx
                have HR4 : Hid (val = wt → false = true) := (fun e => absurd (HBV.out.1 e) (by simp) : val = wt → false = true)
                have H11 := Lib.hid H10.out.drew
                clear H10
                go_wp2_with fail
                cases b5
                · have hyb : wx.drew.heap[rb]? = some (.cells (fullA (val at_)) 93 (0, 0)) := H11.out.blk (by simp)
                  have hsb : wx.drew.heap[nb]? = some (.cells (bytesA nx) 52 (0, 0)) := H11.out.blk (by simp)
                  have cs : wx.drew.cell? ⟨nb, at_, none⟩ = some (.int .u8 (nx at_)) := by rw [cell_of_row _ _ _ _ _ _ hsb]; exact bytesA_at hat
                  rw [fullA_sec] at hyb
                  clear hsb
                  refine wp_region_flowR Lat [0, 0, 0, 0, 0, 0, 0, 1, 0, 0, 1, 2, 1, 0, 0, 0] (by kernel_rfl) (by kernel_rfl) Lat.refl Lat.trans ?_
                  generalize wx.drew = w19 at *
                  refine fr0 (u := .bool false) rfl (fun _ => rfl) ?_
                  simp only [Act.put, List.setIfInBounds_toArray, List.set_cons_succ, List.set_cons_zero]
                  refine fr0 (u := .bool false) rfl (fun _ => rfl) ?_
                  simp only [Act.put, List.setIfInBounds_toArray, List.set_cons_succ, List.set_cons_zero]
                  refine frx (by kernel_rfl) ?_
                  simp only [Act.put, List.setIfInBounds_toArray, List.set_cons_succ, List.set_cons_zero]
                  refine frx (by kernel_rfl) ?_
                  simp only [Act.put, List.setIfInBounds_toArray, List.set_cons_succ, List.set_cons_zero]
                  refine fr0 (u := .bool false) rfl (fun _ => rfl) ?_
                  simp only [Act.put, List.setIfInBounds_toArray, List.set_cons_succ, List.set_cons_zero]
                  refine fr0 (u := .bool false) rfl (fun _ => rfl) ?_
                  simp only [Act.put, List.setIfInBounds_toArray, List.set_cons_succ, List.set_cons_zero]
                  refine frx (by kernel_rfl) ?_
                  simp only [Act.put, List.setIfInBounds_toArray, List.set_cons_succ, List.set_cons_zero]
                  refine frx (by kernel_rfl) ?_
                  simp only [Act.put, List.setIfInBounds_toArray, List.set_cons_succ, List.set_cons_zero]
                  refine frx (by kernel_rfl) ?_
                  simp only [Act.put, List.setIfInBounds_toArray, List.set_cons_succ, List.set_cons_zero]
                  refine frx (by kernel_rfl) ?_
                  simp only [Act.put, List.setIfInBounds_toArray, List.set_cons_succ, List.set_cons_zero]
                  refine frx (by kernel_rfl) ?_
                  simp only [Act.put, List.setIfInBounds_toArray, List.set_cons_succ, List.set_cons_zero]
                  refine frx (by kernel_rfl) ?_
                  simp only [Act.put, List.setIfInBounds_toArray, List.set_cons_succ, List.set_cons_zero]
                  refine frx (by kernel_rfl) ?_
                  simp only [Act.put, List.setIfInBounds_toArray, List.set_cons_succ, List.set_cons_zero]
                  refine frx (by kernel_rfl) ?_
                  simp only [Act.put, List.setIfInBounds_toArray, List.set_cons_succ, List.set_cons_zero]
                  refine fr0 (u := .bool false) rfl (fun _ => rfl) ?_
                  simp only [Act.put, List.setIfInBounds_toArray, List.set_cons_succ, List.set_cons_zero]
                  refine fr0 (u := .bool false) rfl (fun _ => rfl) ?_
                  simp only [Act.put, List.setIfInBounds_toArray, List.set_cons_succ, List.set_cons_zero]
                  refine frnil ?_
                  show Exit.inBlock _ _ _ _ _
                  have H12 := Lib.hid H11.out.drop
                  clear H11 hyb cs
                  have HR5 : Hid (val = nx → false = true) := (fun e => absurd (HBV.out.2 e) (by simp) : val = nx → false = true)
                  go_wp2
                  go_roundw
                  case rel => exact ⟨at_ + 1, _, _, by omega, by omega, by go_num, rfl, rfl, ⟨HR4.out, HR5.out⟩, H12.out⟩
                  case measure => simp [RowKit.intOf]; omega
                · have hyb : wx.drew.heap[rb]? = some (.cells (fullA (val at_)) 93 (0, 0)) := H11.out.blk (by simp)
                  have hsb : wx.drew.heap[nb]? = some (.cells (bytesA nx) 52 (0, 0)) := H11.out.blk (by simp)
                  have cs : wx.drew.cell? ⟨nb, at_, none⟩ = some (.int .u8 (nx at_)) := by rw [cell_of_row _ _ _ _ _ _ hsb]; exact bytesA_at hat
                  rw [fullA_sec] at hyb
                  clear hsb
                  refine wp_region_flowR Lat [0, 0, 0, 0, 0, 0, 0, 1, 0, 0, 1, 2, 1, 0, 0, 0] (by kernel_rfl) (by kernel_rfl) Lat.refl Lat.trans ?_
                  generalize wx.drew = w19 at *
                  refine fr0 (u := .bool true) rfl (fun _ => rfl) ?_
                  simp only [Act.put, List.setIfInBounds_toArray, List.set_cons_succ, List.set_cons_zero]
                  refine fr0 (u := .bool true) rfl (fun _ => rfl) ?_
                  simp only [Act.put, List.setIfInBounds_toArray, List.set_cons_succ, List.set_cons_zero]
                  refine fr0 (u := .int .i64 0) (by kernel_rfl) (fun _ => rfl) ?_
                  simp only [Act.put, List.setIfInBounds_toArray, List.set_cons_succ, List.set_cons_zero]
                  refine fr0 (u := .bool true) (by kernel_rfl) (fun w => (run_eql33 rfl rfl rfl w).trans rfl) ?_
                  simp only [Act.put, List.setIfInBounds_toArray, List.set_cons_succ, List.set_cons_zero]
                  refine fr0 (u := .bool true) rfl (fun _ => rfl) ?_
                  simp only [Act.put, List.setIfInBounds_toArray, List.set_cons_succ, List.set_cons_zero]
                  refine fr0 (u := .bool true) rfl (fun _ => rfl) ?_
                  simp only [Act.put, List.setIfInBounds_toArray, List.set_cons_succ, List.set_cons_zero]
                  refine fr0 (u := .slice (some ⟨rb, 0, none⟩) 64 64) (by kernel_rfl) (fun _ => rfl) ?_
                  simp only [Act.put, List.setIfInBounds_toArray, List.set_cons_succ, List.set_cons_zero]
                  refine fr1 (u := .string (strOf (List.replicate 64 (val (at_ : Nat))))) (by kernel_rfl) (fun x hx => run_str (by simp) rfl rfl (hx.at hyb)) ?_
                  simp only [Act.put, List.setIfInBounds_toArray, List.set_cons_succ, List.set_cons_zero]
                  refine fr0 (u := .int .i64 (at_ : Nat)) (by kernel_rfl) (fun _ => rfl) ?_
                  simp only [Act.put, List.setIfInBounds_toArray, List.set_cons_succ, List.set_cons_zero]
                  refine fr0 (u := .pointer (some ⟨nb, at_, none⟩)) (by kernel_rfl) (run_index52 hat rfl rfl rfl) ?_
                  simp only [Act.put, List.setIfInBounds_toArray, List.set_cons_succ, List.set_cons_zero]
                  refine fr1 (u := .int .u8 (nx (at_ : Nat))) (by kernel_rfl) (fun x hx => run_load1 rfl rfl (hx.cell cs) isAgg5) ?_
                  simp only [Act.put, List.setIfInBounds_toArray, List.set_cons_succ, List.set_cons_zero]
                  refine fr2 (u := .slice (some ⟨w19.heap.size, 0, none⟩) 64 64) (w' := w19.alloc (.cells (fullA (nx (at_ : Nat))) 5)) (by kernel_rfl) (Lat.alloc _ _) (does_full1 rfl rfl) ?_
                  have hzz := heap_alloc_last w19 (.cells (fullA (nx (at_ : Nat))) 5)
                  rw [fullA_sec] at hzz ⊢
                  simp only [Act.put, List.setIfInBounds_toArray, List.set_cons_succ, List.set_cons_zero]
                  refine fr1 (u := .string (strOf (List.replicate 64 (nx (at_ : Nat))))) (by kernel_rfl) (fun x hx => run_str (by simp) rfl rfl (hx.at hzz)) ?_
                  simp only [Act.put, List.setIfInBounds_toArray, List.set_cons_succ, List.set_cons_zero]
                  refine fr0 (u := .bool ((strOf (List.replicate 64 (val (at_ : Nat)))).toList == (strOf (List.replicate 64 (nx (at_ : Nat)))).toList)) (by kernel_rfl) (run_eqlS rfl rfl rfl) ?_
                  simp only [Act.put, List.setIfInBounds_toArray, List.set_cons_succ, List.set_cons_zero]
                  refine fr0 (u := .bool ((strOf (List.replicate 64 (val (at_ : Nat)))).toList == (strOf (List.replicate 64 (nx (at_ : Nat)))).toList)) rfl (fun _ => rfl) ?_
                  simp only [Act.put, List.setIfInBounds_toArray, List.set_cons_succ, List.set_cons_zero]
                  refine fr0 (u := .bool ((strOf (List.replicate 64 (val (at_ : Nat)))).toList == (strOf (List.replicate 64 (nx (at_ : Nat)))).toList)) rfl (fun _ => rfl) ?_
                  simp only [Act.put, List.setIfInBounds_toArray, List.set_cons_succ, List.set_cons_zero]
                  refine frnil ?_
                  show Exit.inBlock _ _ _ _ _
                  have H12 := Lib.hid (H11.out.alloc' (.cells (sec (List.replicate 64 (nx at_))) 5)).drop
                  clear H11 hyb cs hzz
                  obtain ⟨r5, hr5⟩ : ∃ r5 : Bool, (((strOf (List.replicate 64 (val (at_ : Nat)))).toList == (strOf (List.replicate 64 (nx (at_ : Nat)))).toList) = r5) := ⟨_, rfl⟩
                  rw [hr5]
                  have HR5 : Hid (val = nx → r5 = true) := (fun e => by rw [← hr5, e]; simp : val = nx → r5 = true)
                  clear hr5
                  go_wp2
                  go_roundw
                  case rel => exact ⟨at_ + 1, _, _, by omega, by omega, by go_num, rfl, rfl, ⟨HR4.out, HR5.out⟩, H12.out⟩
                  case measure => simp [RowKit.intOf]; omega
              · have hyb : w8.drew.heap[rb]? = some (.cells (fullA (val at_)) 93 (0, 0)) := H9.out.blk (by simp)
                have hsb : w8.drew.heap[sb]? = some (.cells (bytesA wt) 52 (0, 0)) := H9.out.blk (by simp)
                have cs : w8.drew.cell? ⟨sb, at_, none⟩ = some (.int .u8 (wt at_)) := by rw [cell_of_row _ _ _ _ _ _ hsb]; exact bytesA_at hat
                rw [fullA_sec] at hyb
                clear hsb
                refine wp_region_flowR Lat [0, 0, 0, 0, 0, 0, 0, 1, 0, 0, 1, 2, 1, 0, 0, 0] (by kernel_rfl) (by kernel_rfl) Lat.refl Lat.trans ?_
                generalize w8.drew = w9 at *
                refine fr0 (u := .bool true) rfl (fun _ => rfl) ?_
                simp only [Act.put, List.setIfInBounds_toArray, List.set_cons_succ, List.set_cons_zero]
                refine fr0 (u := .bool true) rfl (fun _ => rfl) ?_
                simp only [Act.put, List.setIfInBounds_toArray, List.set_cons_succ, List.set_cons_zero]
                refine fr0 (u := .int .i64 0) (by kernel_rfl) (fun _ => rfl) ?_
                simp only [Act.put, List.setIfInBounds_toArray, List.set_cons_succ, List.set_cons_zero]
                refine fr0 (u := .bool true) (by kernel_rfl) (fun w => (run_eql33 rfl rfl rfl w).trans rfl) ?_
                simp only [Act.put, List.setIfInBounds_toArray, List.set_cons_succ, List.set_cons_zero]
                refine fr0 (u := .bool true) rfl (fun _ => rfl) ?_
                simp only [Act.put, List.setIfInBounds_toArray, List.set_cons_succ, List.set_cons_zero]
                refine fr0 (u := .bool true) rfl (fun _ => rfl) ?_
                simp only [Act.put, List.setIfInBounds_toArray, List.set_cons_succ, List.set_cons_zero]
                refine fr0 (u := .slice (some ⟨rb, 0, none⟩) 64 64) (by kernel_rfl) (fun _ => rfl) ?_
                simp only [Act.put, List.setIfInBounds_toArray, List.set_cons_succ, List.set_cons_zero]
                refine fr1 (u := .string (strOf (List.replicate 64 (val (at_ : Nat))))) (by kernel_rfl) (fun x hx => run_str (by simp) rfl rfl (hx.at hyb)) ?_
                simp only [Act.put, List.setIfInBounds_toArray, List.set_cons_succ, List.set_cons_zero]
                refine fr0 (u := .int .i64 (at_ : Nat)) (by kernel_rfl) (fun _ => rfl) ?_
                simp only [Act.put, List.setIfInBounds_toArray, List.set_cons_succ, List.set_cons_zero]
                refine fr0 (u := .pointer (some ⟨sb, at_, none⟩)) (by kernel_rfl) (run_index52 hat rfl rfl rfl) ?_
                simp only [Act.put, List.setIfInBounds_toArray, List.set_cons_succ, List.set_cons_zero]
                refine fr1 (u := .int .u8 (wt (at_ : Nat))) (by kernel_rfl) (fun x hx => run_load1 rfl rfl (hx.cell cs) isAgg5) ?_
                simp only [Act.put, List.setIfInBounds_toArray, List.set_cons_succ, List.set_cons_zero]
                refine fr2 (u := .slice (some ⟨w9.heap.size, 0, none⟩) 64 64) (w' := w9.alloc (.cells (fullA (wt (at_ : Nat))) 5)) (by kernel_rfl) (Lat.alloc _ _) (does_full1 rfl rfl) ?_
                have hzz := heap_alloc_last w9 (.cells (fullA (wt (at_ : Nat))) 5)
                rw [fullA_sec] at hzz ⊢
                simp only [Act.put, List.setIfInBounds_toArray, List.set_cons_succ, List.set_cons_zero]
                refine fr1 (u := .string (strOf (List.replicate 64 (wt (at_ : Nat))))) (by kernel_rfl) (fun x hx => run_str (by simp) rfl rfl (hx.at hzz)) ?_
                simp only [Act.put, List.setIfInBounds_toArray, List.set_cons_succ, List.set_cons_zero]
                refine fr0 (u := .bool ((strOf (List.replicate 64 (val (at_ : Nat)))).toList == (strOf (List.replicate 64 (wt (at_ : Nat)))).toList)) (by kernel_rfl) (run_eqlS rfl rfl rfl) ?_
                simp only [Act.put, List.setIfInBounds_toArray, List.set_cons_succ, List.set_cons_zero]
                refine fr0 (u := .bool ((strOf (List.replicate 64 (val (at_ : Nat)))).toList == (strOf (List.replicate 64 (wt (at_ : Nat)))).toList)) rfl (fun _ => rfl) ?_
                simp only [Act.put, List.setIfInBounds_toArray, List.set_cons_succ, List.set_cons_zero]
                refine fr0 (u := .bool ((strOf (List.replicate 64 (val (at_ : Nat)))).toList == (strOf (List.replicate 64 (wt (at_ : Nat)))).toList)) rfl (fun _ => rfl) ?_
                simp only [Act.put, List.setIfInBounds_toArray, List.set_cons_succ, List.set_cons_zero]
                refine frnil ?_
                show Exit.then _ _ _ _ _
                have H10 := Lib.hid (H9.out.alloc' (.cells (sec (List.replicate 64 (wt at_))) 5))
                clear H9 hyb cs hzz
                generalize w9.alloc (.cells (sec (List.replicate 64 (wt at_))) 5) = wx at *
                obtain ⟨r4, hr4⟩ : ∃ r4 : Bool, (((strOf (List.replicate 64 (val (at_ : Nat)))).toList == (strOf (List.replicate 64 (wt (at_ : Nat)))).toList) = r4) := ⟨_, rfl⟩
                rw [hr4]
                have HR4 : Hid (val = wt → r4 = true) := (fun e => by rw [← hr4, e]; simp : val = wt → r4 = true)
                clear hr4
                have H11 := Lib.hid H10.out.drew
                clear H10
                go_wp2_with fail
                cases b5
                · have hyb : wx.drew.heap[rb]? = some (.cells (fullA (val at_)) 93 (0, 0)) := H11.out.blk (by simp)
                  have hsb : wx.drew.heap[nb]? = some (.cells (bytesA nx) 52 (0, 0)) := H11.out.blk (by simp)
                  have cs : wx.drew.cell? ⟨nb, at_, none⟩ = some (.int .u8 (nx at_)) := by rw [cell_of_row _ _ _ _ _ _ hsb]; exact bytesA_at hat
                  rw [fullA_sec] at hyb
                  clear hsb
                  refine wp_region_flowR Lat [0, 0, 0, 0, 0, 0, 0, 1, 0, 0, 1, 2, 1, 0, 0, 0] (by kernel_rfl) (by kernel_rfl) Lat.refl Lat.trans ?_
                  generalize wx.drew = w19 at *
                  refine fr0 (u := .bool false) rfl (fun _ => rfl) ?_
                  simp only [Act.put, List.setIfInBounds_toArray, List.set_cons_succ, List.set_cons_zero]
                  refine fr0 (u := .bool false) rfl (fun _ => rfl) ?_
                  simp only [Act.put, List.setIfInBounds_toArray, List.set_cons_succ, List.set_cons_zero]
                  refine frx (by kernel_rfl) ?_
                  simp only [Act.put, List.setIfInBounds_toArray, List.set_cons_succ, List.set_cons_zero]
                  refine frx (by kernel_rfl) ?_
                  simp only [Act.put, List.setIfInBounds_toArray, List.set_cons_succ, List.set_cons_zero]
                  refine fr0 (u := .bool false) rfl (fun _ => rfl) ?_
                  simp only [Act.put, List.setIfInBounds_toArray, List.set_cons_succ, List.set_cons_zero]
                  refine fr0 (u := .bool false) rfl (fun _ => rfl) ?_
                  simp only [Act.put, List.setIfInBounds_toArray, List.set_cons_succ, List.set_cons_zero]
                  refine frx (by kernel_rfl) ?_
                  simp only [Act.put, List.setIfInBounds_toArray, List.set_cons_succ, List.set_cons_zero]
                  refine frx (by kernel_rfl) ?_
                  simp only [Act.put, List.setIfInBounds_toArray, List.set_cons_succ, List.set_cons_zero]
                  refine frx (by kernel_rfl) ?_
                  simp only [Act.put, List.setIfInBounds_toArray, List.set_cons_succ, List.set_cons_zero]
                  refine frx (by kernel_rfl) ?_
                  simp only [Act.put, List.setIfInBounds_toArray, List.set_cons_succ, List.set_cons_zero]
                  refine frx (by kernel_rfl) ?_
                  simp only [Act.put, List.setIfInBounds_toArray, List.set_cons_succ, List.set_cons_zero]
                  refine frx (by kernel_rfl) ?_
                  simp only [Act.put, List.setIfInBounds_toArray, List.set_cons_succ, List.set_cons_zero]
                  refine frx (by kernel_rfl) ?_
                  simp only [Act.put, List.setIfInBounds_toArray, List.set_cons_succ, List.set_cons_zero]
                  refine frx (by kernel_rfl) ?_
                  simp only [Act.put, List.setIfInBounds_toArray, List.set_cons_succ, List.set_cons_zero]
                  refine fr0 (u := .bool false) rfl (fun _ => rfl) ?_
                  simp only [Act.put, List.setIfInBounds_toArray, List.set_cons_succ, List.set_cons_zero]
                  refine fr0 (u := .bool false) rfl (fun _ => rfl) ?_
                  simp only [Act.put, List.setIfInBounds_toArray, List.set_cons_succ, List.set_cons_zero]
                  refine frnil ?_
                  show Exit.inBlock _ _ _ _ _
                  have H12 := Lib.hid H11.out.drop
                  clear H11 hyb cs
                  have HR5 : Hid (val = nx → false = true) := (fun e => absurd (HBV.out.2 e) (by simp) : val = nx → false = true)
                  go_wp2
                  go_roundw
                  case rel => exact ⟨at_ + 1, _, _, by omega, by omega, by go_num, rfl, rfl, ⟨HR4.out, HR5.out⟩, H12.out⟩
                  case measure => simp [RowKit.intOf]; omega
                · have hyb : wx.drew.heap[rb]? = some (.cells (fullA (val at_)) 93 (0, 0)) := H11.out.blk (by simp)
                  have hsb : wx.drew.heap[nb]? = some (.cells (bytesA nx) 52 (0, 0)) := H11.out.blk (by simp)
                  have cs : wx.drew.cell? ⟨nb, at_, none⟩ = some (.int .u8 (nx at_)) := by rw [cell_of_row _ _ _ _ _ _ hsb]; exact bytesA_at hat
                  rw [fullA_sec] at hyb
                  clear hsb
                  refine wp_region_flowR Lat [0, 0, 0, 0, 0, 0, 0, 1, 0, 0, 1, 2, 1, 0, 0, 0] (by kernel_rfl) (by kernel_rfl) Lat.refl Lat.trans ?_
                  generalize wx.drew = w19 at *
                  refine fr0 (u := .bool true) rfl (fun _ => rfl) ?_
                  simp only [Act.put, List.setIfInBounds_toArray, List.set_cons_succ, List.set_cons_zero]
                  refine fr0 (u := .bool true) rfl (fun _ => rfl) ?_
                  simp only [Act.put, List.setIfInBounds_toArray, List.set_cons_succ, List.set_cons_zero]
                  refine fr0 (u := .int .i64 0) (by kernel_rfl) (fun _ => rfl) ?_
                  simp only [Act.put, List.setIfInBounds_toArray, List.set_cons_succ, List.set_cons_zero]
                  refine fr0 (u := .bool true) (by kernel_rfl) (fun w => (run_eql33 rfl rfl rfl w).trans rfl) ?_
                  simp only [Act.put, List.setIfInBounds_toArray, List.set_cons_succ, List.set_cons_zero]
                  refine fr0 (u := .bool true) rfl (fun _ => rfl) ?_
                  simp only [Act.put, List.setIfInBounds_toArray, List.set_cons_succ, List.set_cons_zero]
                  refine fr0 (u := .bool true) rfl (fun _ => rfl) ?_
                  simp only [Act.put, List.setIfInBounds_toArray, List.set_cons_succ, List.set_cons_zero]
                  refine fr0 (u := .slice (some ⟨rb, 0, none⟩) 64 64) (by kernel_rfl) (fun _ => rfl) ?_
                  simp only [Act.put, List.setIfInBounds_toArray, List.set_cons_succ, List.set_cons_zero]
                  refine fr1 (u := .string (strOf (List.replicate 64 (val (at_ : Nat))))) (by kernel_rfl) (fun x hx => run_str (by simp) rfl rfl (hx.at hyb)) ?_
                  simp only [Act.put, List.setIfInBounds_toArray, List.set_cons_succ, List.set_cons_zero]
                  refine fr0 (u := .int .i64 (at_ : Nat)) (by kernel_rfl) (fun _ => rfl) ?_
                  simp only [Act.put, List.setIfInBounds_toArray, List.set_cons_succ, List.set_cons_zero]
                  refine fr0 (u := .pointer (some ⟨nb, at_, none⟩)) (by kernel_rfl) (run_index52 hat rfl rfl rfl) ?_
                  simp only [Act.put, List.setIfInBounds_toArray, List.set_cons_succ, List.set_cons_zero]
                  refine fr1 (u := .int .u8 (nx (at_ : Nat))) (by kernel_rfl) (fun x hx => run_load1 rfl rfl (hx.cell cs) isAgg5) ?_
                  simp only [Act.put, List.setIfInBounds_toArray, List.set_cons_succ, List.set_cons_zero]
                  refine fr2 (u := .slice (some ⟨w19.heap.size, 0, none⟩) 64 64) (w' := w19.alloc (.cells (fullA (nx (at_ : Nat))) 5)) (by kernel_rfl) (Lat.alloc _ _) (does_full1 rfl rfl) ?_
                  have hzz := heap_alloc_last w19 (.cells (fullA (nx (at_ : Nat))) 5)
                  rw [fullA_sec] at hzz ⊢
                  simp only [Act.put, List.setIfInBounds_toArray, List.set_cons_succ, List.set_cons_zero]
                  refine fr1 (u := .string (strOf (List.replicate 64 (nx (at_ : Nat))))) (by kernel_rfl) (fun x hx => run_str (by simp) rfl rfl (hx.at hzz)) ?_
                  simp only [Act.put, List.setIfInBounds_toArray, List.set_cons_succ, List.set_cons_zero]
                  refine fr0 (u := .bool ((strOf (List.replicate 64 (val (at_ : Nat)))).toList == (strOf (List.replicate 64 (nx (at_ : Nat)))).toList)) (by kernel_rfl) (run_eqlS rfl rfl rfl) ?_
                  simp only [Act.put, List.setIfInBounds_toArray, List.set_cons_succ, List.set_cons_zero]
                  refine fr0 (u := .bool ((strOf (List.replicate 64 (val (at_ : Nat)))).toList == (strOf (List.replicate 64 (nx (at_ : Nat)))).toList)) rfl (fun _ => rfl) ?_
                  simp only [Act.put, List.setIfInBounds_toArray, List.set_cons_succ, List.set_cons_zero]
                  refine fr0 (u := .bool ((strOf (List.replicate 64 (val (at_ : Nat)))).toList == (strOf (List.replicate 64 (nx (at_ : Nat)))).toList)) rfl (fun _ => rfl) ?_
                  simp only [Act.put, List.setIfInBounds_toArray, List.set_cons_succ, List.set_cons_zero]
                  refine frnil ?_
                  show Exit.inBlock _ _ _ _ _
                  have H12 := Lib.hid (H11.out.alloc' (.cells (sec (List.replicate 64 (nx at_))) 5)).drop
                  clear H11 hyb cs hzz
                  obtain ⟨r5, hr5⟩ : ∃ r5 : Bool, (((strOf (List.replicate 64 (val (at_ : Nat)))).toList == (strOf (List.replicate 64 (nx (at_ : Nat)))).toList) = r5) := ⟨_, rfl⟩
                  rw [hr5]
                  have HR5 : Hid (val = nx → r5 = true) := (fun e => by rw [← hr5, e]; simp : val = nx → r5 = true)
                  clear hr5
                  go_wp2
                  go_roundw
                  case rel => exact ⟨at_ + 1, _, _, by omega, by omega, by go_num, rfl, rfl, ⟨HR4.out, HR5.out⟩, H12.out⟩
                  case measure => simp [RowKit.intOf]; omega
            · have hh : at_ = 100 := by omega
              subst hh
              have HO := Lib.hid hH.two
              have hb := hbv
              clear hH hbv
              rcases HVC.out with hv | ⟨hz2, hv⟩
              · obtain rfl := hb.2 hv
                clear hb hv
                rcases hz with rfl | rfl
                · cases b4
                  · go_wp2
                    go_roundw
                    case rel => exact ⟨t + 1, by omega, by rw [show (3 * ((t + 1 : Nat) : Int)) = 3 * (t : Int) + 3 by omega], HO.out⟩
                    case measure => simp [RowKit.intOf]; omega
                  · go_wp2
                    go_roundw
                    case rel => exact ⟨t + 1, by omega, by rw [show (3 * ((t + 1 : Nat) : Int)) = 3 * (t : Int) + 3 by omega], HO.out⟩
                    case measure => simp [RowKit.intOf]; omega
                · cases b4
                  · go_wp2
                    go_roundw
                    case rel => exact ⟨t + 1, by omega, by rw [show (3 * ((t + 1 : Nat) : Int)) = 3 * (t : Int) + 3 by omega], HO.out⟩
                    case measure => simp [RowKit.intOf]; omega
                  · go_wp2
                    go_roundw
                    case rel => exact ⟨t + 1, by omega, by rw [show (3 * ((t + 1 : Nat) : Int)) = 3 * (t : Int) + 3 by omega], HO.out⟩
                    case measure => simp [RowKit.intOf]; omega
              · obtain rfl := hb.1 hv
                clear hb hv hz
                subst hz2
                cases b5
                · go_wp2
                  go_roundw
                  case rel => exact ⟨t + 1, by omega, by rw [show (3 * ((t + 1 : Nat) : Int)) = 3 * (t : Int) + 3 by omega], HO.out⟩
                  case measure => simp [RowKit.intOf]; omega
                · go_wp2
                  go_roundw
                  case rel => exact ⟨t + 1, by omega, by rw [show (3 * ((t + 1 : Nat) : Int)) = 3 * (t : Int) + 3 by omega], HO.out⟩
                  case measure => simp [RowKit.intOf]; omega
      · have htt : t = 27 := by omega
        subst htt
        have HO := Lib.hid hH.only
        clear hH
        go_wp2
        go_ret
        exact ⟨rfl, HO.out⟩
end Go.Proofs.Ytoccnaebckcfmaa
end

section
set_option linter.unusedSimpArgs false
set_option linter.unusedVariables false
namespace Go.Proofs.Ytoccnaebckcfmaa
open Go.ChangeShapes Go.WideShapes Go.ChangeAt Go.RowKit

section
variable {H : Type} {enc : TypeId × Value → H} {w : World}
theorem ints_open {fuel : Nat} {cs : List Value} {x : DataW H × List MemPlace} (h : DataW.trod enc Try.prog w 0 (fun _ => true) true fuel 40 cs = some x) :
    ∃ kv keep, cs = [kv] ∧ ∀ F : List Nat, (∀ y ∈ F, w.heap.size ≤ y) → KeepAt w F kv keep := by
  rcases open_ints Try.underlying40 Try.underlying3 (by kernel_rfl) h with ⟨hcs, _⟩ | ⟨y, len, cap, zs, hcs, _, hl, hm, hz, _, hcell, hwz⟩
  · exact ⟨_, [], hcs, fun F _ => ⟨none, 0, rfl, by simp, fun hne => absurd rfl hne⟩⟩
  · simp at hz
    have hlen : (zs.take len).length = len := by simp; omega
    refine ⟨_, zs.take len, hcs, fun F hF => ⟨some y, cap, by rw [hlen], by rw [hlen]; unfold maxLen at hm; omega, fun hne => ?_⟩⟩
    have hpos : 0 < len := by
      cases len with
      | zero => simp at hne
      | succ n => omega
    have h0 := hcell 0 (by omega)
    rw [show y.add 0 = y by simp [Addr.add]] at h0
    have hy := spot_none h0
    have hlt := World.block_lt_of_cell? w y h0
    refine ⟨y.block, y.off, congrArg some hy, hlt, fun hx => by have := hF _ hx; omega, fun j z hz' => ?_⟩
    have hj : j < len := by have := (List.getElem?_eq_some_iff.1 hz').1; omega
    have hc := hcell j (by omega)
    rw [hy, Addr.add_mid] at hc
    rw [hc]
    rw [List.getElem?_take_of_lt hj] at hz'
    rw [List.getD_eq_getElem?_getD, hz']
    rfl
end


set_option maxRecDepth 100000 in
theorem cacheCrashes_lifted (os : Os) (started : os.Started) (H : Type) (enc : TypeId × Value → H) :
    ReturnsInHanded {} Try.checked os 6 .any (Rows.cacheCrashesSpec.pre6 enc Try.prog Try.f6 Rows.cacheCrashesRow.domain false) (Rows.cacheCrashesSpec.post enc Try.prog Try.f6 false true false false) := by
  refine returnsInHanded_of_change (C := Try.checked) ownK started (by kernel_rfl) Try.func6
    (ChangeSpec.witness6 (enc := enc) (C := Try.checked) false ⟨#[], #[.slice none 0 0, .slice none 0 0, .slice none 0 0], []⟩ 8 (by kernel_rfl) (by kernel_rfl) (by kernel_rfl) (by kernel_rfl)) ?_
  intro W base args ds gs before hval0 hW hcnd _
  have hval : ∀ (j : Nat) t v, Try.f6.params[j]? = some t → args[j]? = some v → Value.okWide Try.prog W .any base t v := hval0
  have hW' := hW
  obtain ⟨p, q, hA0, hV, rfl, hfz, hnd⟩ := hW
  have hA : DataW.TrodAll enc Try.prog W 0 (fun _ => true) true Try.f6.params.toList args.toList ds p := hA0
  rw [Try.params6] at hA hval
  obtain ⟨v0, vs0, d0, ds0, p0, q0, hargs, rfl, rfl, h0, r0⟩ := trodAll_cons hA
  obtain ⟨v1, vs1, d1, ds1, p1, q1, rfl, rfl, rfl, h1, r1⟩ := trodAll_cons r0
  obtain ⟨v2, vs2, d2, ds2, p2, q2, rfl, rfl, rfl, h2, r2⟩ := trodAll_cons r1
  obtain ⟨rfl, rfl, rfl⟩ := trodAll_nil r2
  obtain rfl : args = #[v0, v1, v2] := by cases args; simp_all
  obtain ⟨rfl, rfl⟩ := trodVars_none hV
  obtain ⟨a0, len0, cap0, rfl⟩ := okWide_slice Try.underlying22 (hval 0 22 v0 rfl rfl)
  have k0 := h0
  have lt0 : ∀ x ∈ p0, x.block < W.heap.size := by obtain ⟨m, hm⟩ := k0; exact DataW.trod_lt m _ _ _ hm
  obtain ⟨K0, A0, M0, B0, b0⟩ : ∃ K A M B, Ops3 W a0 len0 K A M B := by
    obtain ⟨fuel, hf⟩ := h0
    exact ops3_open hf
  obtain ⟨a1, len1, cap1, rfl⟩ := okWide_slice Try.underlying22 (hval 1 22 v1 rfl rfl)
  have k1 := h1
  have lt1 : ∀ x ∈ p1, x.block < W.heap.size := by obtain ⟨m, hm⟩ := k1; exact DataW.trod_lt m _ _ _ hm
  obtain ⟨K1, A1, M1, B1, b1⟩ : ∃ K A M B, Ops3 W a1 len1 K A M B := by
    obtain ⟨fuel, hf⟩ := h1
    exact ops3_open hf
  obtain ⟨a2, len2, cap2, rfl⟩ := okWide_slice Try.underlying40 (hval 2 40 v2 rfl rfl)
  have k2 := h2
  have lt2 : ∀ x ∈ p2, x.block < W.heap.size := by obtain ⟨m, hm⟩ := k2; exact DataW.trod_lt m _ _ _ hm
  obtain ⟨keep2, b2⟩ : ∃ keep : List Int, ∀ F : List Nat, (∀ y ∈ F, W.heap.size ≤ y) → KeepAt W F (.slice a2 len2 cap2) keep := by
    obtain ⟨fuel, hf⟩ := h2
    obtain ⟨kv, keep, hcs, hk⟩ := ints_open hf
    simp [Value.cells] at hcs
    rw [hcs]
    exact ⟨keep, hk⟩
  clear hA0 hval0
  refine (crashes_any W a0 len0 cap0 K0 A0 M0 B0 a1 len1 cap1 K1 A1 M1 B1 (.slice a2 len2 cap2) keep2 b0 b1 b2).mono fun e W' ⟨he, on⟩ => ?_
  subst he
  have bel : Below W.heap.size W W' := on.below (Nat.le_refl _) (by simp)
  exact ⟨_, rfl, _, _, _, [], _, [], hW', trodAll_mk1 (shut_bool Try.underlying4 _), (trodAll_cons_mk (Below.trod laidK (by kernel_rfl) (of_decide_eq_true (by kernel_rfl)) k0 bel lt0) (trodAll_cons_mk (Below.trod laidK (by kernel_rfl) (of_decide_eq_true (by kernel_rfl)) k1 bel lt1) (trodAll_cons_mk (Below.trod laidK (by kernel_rfl) (of_decide_eq_true (by kernel_rfl)) k2 bel lt2) trodAll_mk0))), rfl, bel.frame _, fun h => by cases h⟩

theorem cacheCrashes_holds : Rows.CacheCrashesSaid :=
  OpenClaim.holds_of_wide 6 Try.f6 rfl rfl rfl rfl rfl rfl rfl ⟨rfl, rfl, rfl, rfl, rfl⟩ rfl rfl rfl rfl rfl (by kernel_rfl) Try.func6 (by kernel_rfl)
    (of_decide_eq_true (by kernel_rfl)) (by unfold Func.isWrapper; first | (rw [if_pos (by decide +kernel)]; kernel_rfl) | (rw [if_neg (by decide +kernel)]; exact ⟨rfl, rfl⟩))
    (fun os started H enc _ => cacheCrashes_lifted os started H enc)
#print axioms cacheCrashes_holds
end Go.Proofs.Ytoccnaebckcfmaa
end
