/- Proved: CacheAborts returns true for every input, and each argument reads afterwards as it read before. No condition beyond the row's own. -/
import Derived.Test.YtoccnaebckcfmaaG6
section
set_option linter.unusedSimpArgs false
set_option linter.unusedVariables false
set_option maxRecDepth 8000
namespace Go.Proofs.Ytoccnaebckcfmaa
open Go.RowKit

def updI (g : Int → Int) (x c : Int) : Int → Int := fun y => if y = x then c else g y

/-- No transaction is open; what is held is what old says. -/
structure Clean (C : CaS) (old : Int → Int) : Prop where
  opn : C.opn = false
  pin : C.pin = []
  hl : ∀ x v, C.held x = some v → v = fullA (old x)
/-- A transaction is open: it has written at most i sectors; behind it nxt is to be there, ahead of it old was. -/
structure Tx (C : CaS) (old nxt : Int → Int) (i : Nat) : Prop where
  opn : C.opn = true
  pr : ∀ x ∈ C.pin, 40 ≤ x ∧ x < 100
  pl : C.pin.length ≤ i
  pin : ∀ x ∈ C.pin, C.held x = some (fullA (nxt x))
  cln : ∀ x v, C.held x = some v → x ∉ C.pin → v = fullA (old x)
  same : ∀ x, x ∉ C.pin → nxt x = old x
/-- What is on the disk outside the log. -/
def Dk (f : Int → Option (Array Value)) (old : Int → Int) : Prop := ∀ x, 40 ≤ x → x < 100 → (f x).getD Z = fullA (old x)

theorem evict_held {C : CaS} {x : Int} {v : Array Value} (h : C.evict.held x = some v) : C.held x = some v := by
  unfold CaS.evict at h
  split at h
  · exact h
  · simp only [cutF] at h
    split at h
    · cases h
    · exact h
theorem evict_opn (C : CaS) : C.evict.opn = C.opn := by unfold CaS.evict; split <;> rfl
theorem evict_pin (C : CaS) : C.evict.pin = C.pin := by unfold CaS.evict; split <;> rfl
theorem Clean.new (most : Int) : Clean (CaS.new most) (fun _ => 0) := ⟨rfl, rfl, by simp [CaS.new]⟩
theorem Clean.begin {C : CaS} {old : Int → Int} (h : Clean C old) : Tx { C with opn := true } old old 0 :=
  ⟨rfl, by simp [h.pin], by simp [h.pin], by simp [h.pin], fun x v hx _ => h.hl x v hx, fun _ _ => rfl⟩
theorem Tx.write {C : CaS} {old nxt : Int → Int} {i : Nat} (h : Tx C old nxt i) {x : Int} (h0 : 40 ≤ x) (h1 : x < 100) (c : Int) : Tx (C.write x (fullA c)) old (updI nxt x c) (i + 1) := by
  have hmem : ∀ y, y ∈ pinL C.pin x ↔ y ∈ C.pin ∨ y = x := fun y => by
    unfold pinL
    split
    · rename_i hx
      constructor
      · exact .inl
      · rintro (h | rfl)
        · exact h
        · exact hx
    · simp
  refine ⟨h.opn, fun y hy => ?_, ?_, fun y hy => ?_, fun y v hv hn => ?_, fun y hy => ?_⟩
  · rcases (hmem y).1 hy with hy | rfl
    · exact h.pr y hy
    · exact ⟨h0, h1⟩
  · have := h.pl
    simp only [CaS.write, pinL]
    split
    · omega
    · simp; omega
  · show updF C.held x (fullA c) y = _
    unfold updF updI
    by_cases hyx : y = x
    · simp [hyx]
    · rw [if_neg hyx, if_neg hyx]
      rcases (hmem y).1 hy with hy | hy
      · exact h.pin y hy
      · exact absurd hy hyx
  · have hn' : ¬ (y ∈ C.pin ∨ y = x) := fun hh => hn ((hmem y).2 hh)
    have hyx : y ≠ x := fun e => hn' (.inr e)
    have hv' : updF C.held x (fullA c) y = some v := hv
    unfold updF at hv'
    rw [if_neg hyx] at hv'
    exact h.cln y v hv' (fun hh => hn' (.inl hh))
  · have hn' : ¬ (y ∈ C.pin ∨ y = x) := fun hh => hy ((hmem y).2 hh)
    have hyx : y ≠ x := fun e => hn' (.inr e)
    unfold updI
    rw [if_neg hyx]
    exact h.same y (fun hh => hn' (.inl hh))
theorem Tx.committed {C : CaS} {old nxt : Int → Int} {i : Nat} (h : Tx C old nxt i) : Clean C.committed nxt := by
  refine ⟨by unfold CaS.committed; rw [evict_opn], by unfold CaS.committed; rw [evict_pin], fun x v hv => ?_⟩
  have hv' : C.held x = some v := evict_held (C := { C with opn := false, pin := [] }) hv
  by_cases hx : x ∈ C.pin
  · rw [h.pin x hx] at hv'
    exact (Option.some.inj hv').symm
  · rw [h.same x hx]
    exact h.cln x v hv' hx
theorem Tx.abort {C : CaS} {old nxt : Int → Int} {i : Nat} (ok : CaOk C) (h : Tx C old nxt i) : Clean C.abort old := by
  refine ⟨rfl, rfl, fun x v hv => ?_⟩
  have hv' : cutF C.held C.ord (C.ord.filter (fun x => !decide (x ∈ C.pin))) x = some v := hv
  unfold cutF at hv'
  split at hv'
  · cases hv'
  · rename_i hn
    refine h.cln x v hv' (fun hp => hn ⟨ok.ps x hp, fun hm => ?_⟩)
    have := (List.mem_filter.1 hm).2
    simp [hp] at this
theorem Clean.got {C : CaS} {old : Int → Int} (h : Clean C old) {S : St} (hd : Dk S.now old) {x : Int} (h0 : 40 ≤ x) (h1 : x < 100) : C.got S x = fullA (old x) := by
  unfold CaS.got
  cases hh : C.held x with
  | none => exact hd x h0 h1
  | some v => exact h.hl x v hh
theorem Clean.read {C : CaS} {old : Int → Int} (h : Clean C old) {S : St} (hd : Dk S.now old) {x : Int} (h0 : 40 ≤ x) (h1 : x < 100) : Clean (C.read S x) old := by
  have hg := h.got hd h0 h1
  have key : ∀ C' : CaS, Clean C' old → Clean ((C'.use x (fullA (old x))).evict) old := fun C' h' => by
    refine ⟨by rw [evict_opn]; exact h'.opn, by rw [evict_pin]; exact h'.pin, fun y v hv => ?_⟩
    have hv' : updF C'.held x (fullA (old x)) y = some v := evict_held hv
    unfold updF at hv'
    split at hv'
    · rename_i e
      rw [e]
      exact (Option.some.inj hv').symm
    · exact h'.hl y v hv'
  unfold CaS.read
  rw [hg]
  split
  · exact key C h
  · exact key _ ⟨h.opn, h.pin, h.hl⟩
theorem Tx.group {C : CaS} {old nxt : Int → Int} {i : Nat} (ok : CaOk C) (h : Tx C old nxt i) (hi : i ≤ 37) : GroupOk 0 40 100 (rawsOf (putsC C)) := by
  have hl := h.pl
  refine ⟨?_, ?_, ?_⟩
  · rw [room40]
    simp only [rawsOf, List.length_map, putsC_len]
    omega
  · intro r hr
    obtain ⟨p, hp, rfl⟩ := List.mem_map.1 hr
    obtain ⟨x, hx, rfl⟩ := List.mem_map.1 hp
    have := h.pr x (sorted_mem.1 hx)
    exact ⟨by simp only; omega, by simp only; omega, by simp only; omega, rfl⟩
  · have : (rawsOf (putsC C)).map (·.1) = sorted C.pin := by
      simp only [rawsOf, putsC, List.map_map]
      exact (List.map_congr_left (fun _ _ => rfl)).trans (List.map_id _)
    rw [this]
    exact (sorted_perm C.pin).nodup_iff.2 ok.pn
theorem Dk.new : Dk f00 (fun _ => 0) := fun x h0 h1 => by
  unfold f00 updF
  rw [if_neg (by omega)]
  kernel_rfl
theorem Tx.disk {C : CaS} {old nxt : Int → Int} {i : Nat} {f : Int → Option (Array Value)} {g : Int} (h : Tx C old nxt i) (hd : Dk f old) (hok : GroupOk 0 40 100 (rawsOf (putsC C))) : Dk (putLog f 0 40 g (putsC C)) nxt := fun x h0 h1 => by
  by_cases hx : x ∈ C.pin
  · have hp : (x, (C.held x).getD Z) ∈ putsC C := List.mem_map.2 ⟨x, sorted_mem.2 hx, rfl⟩
    have := putLog_at (f := f) (g := g) (by omega) hok hp
    simp only at this
    rw [this, h.pin x hx]
    rfl
  · rw [putLog_other (by omega) hok (.inr (by omega)) (fun p hp => ?_), hd x h0 h1, h.same x hx]
    obtain ⟨y, hy, rfl⟩ := List.mem_map.1 hp
    exact fun e => hx (e ▸ sorted_mem.1 hy)

/-- A hundred bytes in a row. -/
def bytesA (f : Int → Int) : Array Value := ((List.range 100).map (fun j : Nat => Value.int .u8 (f j))).toArray
theorem bytesA_size (f : Int → Int) : (bytesA f).size = 100 := by simp [bytesA]
theorem bytesA_at {f : Int → Int} {j : Nat} (h : j < 100) : (bytesA f)[j]? = some (.int .u8 (f j)) := by simp [bytesA, h]
theorem bytesA_set {f : Int → Int} {j : Nat} (h : j < 100) (c : Int) : (bytesA f).setIfInBounds j (.int .u8 c) = bytesA (updI f j c) := by
  apply Array.ext_getElem?
  intro k
  rw [Array.getElem?_setIfInBounds]
  by_cases hk : k < 100
  · rw [bytesA_at hk, bytesA_at hk]
    by_cases hjk : j = k
    · subst hjk
      rw [if_pos rfl, if_pos (by rw [bytesA_size]; exact h)]
      simp [updI]
    · rw [if_neg hjk]
      simp only [updI]
      rw [if_neg (by omega)]
  · rw [if_neg (by omega), Array.getElem?_eq_none (by rw [bytesA_size]; omega), Array.getElem?_eq_none (by rw [bytesA_size]; omega)]
theorem bytesA_zero : bytesA (fun _ => 0) = Array.replicate 100 (.int .u8 0) := by kernel_rfl

section
variable {ops : Array Oper} {rest : List Oper} {o : Oper} {a : Act} {Q : Exit → Act → World → Prop} {w : World}
/-- An array of nothing but noughts, made and stored. -/
theorem wpL_build0 {t : TypeId} {c : Array Value} (hb : ∀ w, (Instr.build t #[]).run Try.prog w = .ok (.agg c) w) (hg : o.guard = none) (ho : o.op = .build t #[])
    (h : wpList Try.prog ops Q rest (a.put o.dst (.agg c)) w) : wpList Try.prog ops Q (o :: rest) a w := by
  refine wpL_value hg ?_ h
  unfold execOp
  simp only [ho, List.map_toArray, List.map_nil, Sem.run_bind, hb w, Result.andThen_ok, Sem.run_pure]
end
theorem build52 (w : World) : (Instr.build 52 #[]).run Try.prog w = .ok (.agg (bytesA (fun _ => 0))) w := by kernel_rfl
theorem zero52 (w : World) : (zeroValue 52).run Try.prog w = .ok (.agg (bytesA (fun _ => 0))) w := by kernel_rfl
theorem info52 : (Try.prog.info? 52).map (·.size) = some 100 := by kernel_rfl
theorem bytesA_one (f : Int → Int) : (bytesA f).all (·.oneCell') = true := by
  rw [Array.all_eq_true_iff_forall_mem]; intro x hx; simp [bytesA] at hx; obtain ⟨j, _, rfl⟩ := hx; rfl
end Go.Proofs.Ytoccnaebckcfmaa
end

section
set_option linter.unusedSimpArgs false
set_option linter.unusedVariables false
set_option maxRecDepth 8000
namespace Go.Proofs.Ytoccnaebckcfmaa
open Go.RowKit
open Go.ChangeMaps (setBlock)

theorem Has.perm {w0 w : World} {L L' : List Res} (h : Has w0 w L) (p : L.Perm L') : Has w0 w L' :=
  ⟨h.only, fun q hq => h.each q (p.mem_iff.2 hq), p.pairwise h.apart (fun hab x hx hy => hab x hy hx)⟩
theorem Has.last {w0 w : World} {L : List Res} {x : Res} (h : Has w0 w (x :: L)) : Has w0 w (L ++ [x]) := h.perm (List.perm_append_comm (l₁ := [x]) (l₂ := L))
theorem Has.fst {w0 w : World} {L : List Res} {x : Res} (h : Has w0 w (L ++ [x])) : Has w0 w (x :: L) := h.perm (List.perm_append_comm (l₁ := L) (l₂ := [x]))

section
variable {o : Oper} {a : Act} {w : World}
theorem run_index22 {x y : Operand} {g off j n cap : Nat} (hj : j < n) (ho : o.op = .indexAddr 22 x y) (hx : a.eval x = .slice (some ⟨g, off, none⟩) n cap) (hy : a.eval y = .int .i64 j) : ∀ w, (execOp a.eval o).run Try.prog w = .ok (.value (.pointer (some ⟨g, off + j * 4, none⟩))) w := by
  intro w
  unfold execOp
  simp only [ho, hx, hy]
  go_simp
theorem run_index52 {x y : Operand} {g j : Nat} (hj : j < 100) (ho : o.op = .indexAddr 52 x y) (hx : a.eval x = .pointer (some ⟨g, 0, none⟩)) (hy : a.eval y = .int .i64 j) : ∀ w, (execOp a.eval o).run Try.prog w = .ok (.value (.pointer (some ⟨g, j, none⟩))) w := by
  intro w
  unfold execOp
  simp only [ho, hx, hy]
  go_simp
  intro h
  omega
theorem run_fieldo32 {x : Operand} {b off k : Nat} (hk : k < 4) (ho : o.op = .fieldAddr 32 x k) (hx : a.eval x = .pointer (some ⟨b, off, none⟩)) :
    ∀ w, (execOp a.eval o).run Try.prog w = .ok (.value (.pointer (some ⟨b, off + k, none⟩))) w := by
  intro w
  have : k = 0 ∨ k = 1 ∨ k = 2 ∨ k = 3 := by omega
  unfold execOp
  simp only [ho, hx]
  rcases this with rfl | rfl | rfl | rfl <;> go_simp
theorem run_neq33 {x y : Operand} {i j : Int} (ho : o.op = .binOp .neq 33 x y 33) (hx : a.eval x = .int .i64 i) (hy : a.eval y = .int .i64 j) : ∀ w, (execOp a.eval o).run Try.prog w = .ok (.value (.bool (i != j))) w := by
  intro w
  unfold execOp
  simp only [ho, hx, hy]
  go_simp
theorem run_neqS {x y : Operand} {s t : ByteArray} (ho : o.op = .binOp .neq 9 x y 9) (hx : a.eval x = .string s) (hy : a.eval y = .string t) : ∀ w, (execOp a.eval o).run Try.prog w = .ok (.value (.bool (!(s.toList == t.toList)))) w := by
  intro w
  unfold execOp
  simp only [ho, hx, hy]
  go_simp
theorem does_kind60 {x : Operand} {c z : Int} {ts : Array TypeId} (h0 : -9223372036854775808 ≤ c) (h1 : c ≤ 9223372036854775807) (hz : amongF c 60 = z) (ho : o.op = .call { callee := .value (.func 9), args := #[x, .const (.int .i64 60)], argTypes := ts }) (hx : a.eval x = .int .i64 c) : Does Try.prog o a w (.int .i64 z) w :=
  .inr (.inr ⟨9, _, run_enter2 Try.call9 ho hx rfl, (kind_any c 60 w h0 h1 (by omega) (by omega)).mono fun e w' h => ⟨by rw [h.1, hz], h.2.symm⟩⟩)
end

section
variable {w0 w : World} {cb d wb : Nat} {F FD : List Nat} {C : CaS} {k : Int} {f : Int → Option (Array Value)} {Rs : List Res} {old nxt : Int → Int} {i : Nat}
theorem tx_write (h : Has w0 w (CRes cb d wb F C :: DRes d FD (quiet 100 k f) :: Rs)) (ht : Tx C old nxt i) (x c : Int) (h0 : 40 ≤ x) (h1 : x < 100) :
    Calls Try.prog 16 #[pp cb, .int .i64 x, .slice (some ⟨w.heap.size, 0, none⟩) 64 64] (w.alloc (.cells (fullA c) 5)) fun e w' => ∃ F', e = .returned (.int .i64 0) ∧ Has w0 w' (CRes cb d wb F' (C.write x (fullA c)) :: DRes d FD (quiet 100 k f) :: Rs) := by
  have hz : wcode C (quiet 100 k f).n x = 0 := by
    unfold wcode
    rw [if_neg (by rw [ht.opn]; simp), if_neg (by simp only [quiet]; omega)]
  refine (has_cwrite (h.alloc' (.cells (fullA c) 5)) (by simp [quiet]) x (bytes_of (fullA_ok c))).mono ?_
  rintro e w' ⟨F', rfl, hh⟩
  rw [hz, if_pos rfl] at hh
  exact ⟨F', by rw [hz], hh⟩
theorem tx_commit {g : Int} (h : Has w0 w (CRes cb d wb F C :: DRes d FD (quiet 100 k f) :: WRes wb d 0 40 g :: Rs)) (ht : Tx C old nxt i) (hi : i ≤ 37) (hd : Dk f old) (hg : 0 ≤ g) (hg1 : g ≤ 1000000) (hk0 : 0 ≤ k) (hk : k ≤ 900000000) :
    Calls Try.prog 19 #[pp cb] w fun e w' => ∃ k' FD' F' f', k' ≤ k + 200 ∧ 0 ≤ k' ∧ Dk f' nxt ∧ f' 0 = some (headA 0 40 (g + 1) 0) ∧ e = .returned (.int .i64 0) ∧ Has w0 w' (CRes cb d wb F' C.committed :: DRes d FD' (quiet 100 k' f') :: WRes wb d 0 40 (g + 1) :: Rs) := by
  have hok := ht.group h.cok hi
  refine (has_ccommit h (by omega) (by omega) (by omega) hg hg1 hk0 hk).mono ?_
  rintro e w' (⟨_, _, k', FD', F', hk1, hk2, rfl, hh⟩ | ⟨hno, _⟩)
  · have := putsC_len C
    have := ht.pl
    exact ⟨k', FD', F', _, by omega, by omega, ht.disk hd hok, putLog_head _ _ _ _ _, rfl, hh⟩
  · exact absurd ⟨ht.opn, hok⟩ hno
theorem has_cabort_op {Rs : List Res} (h : Has w0 w (CRes cb d wb F C :: Rs)) (ho : C.opn = true) : Calls Try.prog 21 #[pp cb] w fun e w' => ∃ F', e = .returned (.int .i64 0) ∧ Has w0 w' (CRes cb d wb F' C.abort :: Rs) := by
  refine (has_cabort h).mono ?_
  rintro e w' ⟨F', rfl, hh⟩
  rw [ho] at hh ⊢
  exact ⟨F', rfl, hh⟩
theorem has_cbegin_cl {Rs : List Res} (h : Has w0 w (CRes cb d wb F C :: Rs)) (ho : C.opn = false) : Calls Try.prog 17 #[pp cb] w fun e w' => ∃ F', e = .returned (.int .i64 0) ∧ Has w0 w' (CRes cb d wb F' { C with opn := true } :: Rs) := by
  refine (has_cbegin h).mono ?_
  rintro e w' ⟨F', rfl, hh⟩
  rw [ho]
  exact ⟨F', rfl, hh⟩
end
theorem write_miss (C : CaS) (x : Int) (v : Array Value) : (C.write x v).miss = C.miss := rfl

set_option maxHeartbeats 8000000 in
theorem aborts_any (w : World) (ad : Option Addr) (len cap : Nat) (K A M B : Nat → Int) (ad2 : Option Addr) (len2 cap2 : Nat) (K2 A2 M2 B2 : Nat → Int) (hin : Ops3 w ad len K A M B) (hin2 : Ops3 w ad2 len2 K2 A2 M2 B2) :
    Calls Try.prog 5 #[.slice ad len cap, .slice ad2 len2 cap2] w fun e w' => e = .returned (.bool true) ∧ Only [] w w' := by
  have SH := Lib.hid (shown3_any w)
  have hsm := hin.small
  have hsm2 := hin2.small
  have HIN := Lib.hid hin
  have HIN2 := Lib.hid hin2
  clear hin hin2
  go_enter Try.func5, Try.ntmps5
  go_wp2_with fail
  refine SH.out.mono ?_
  rintro e w1 ⟨rfl, o1⟩
  have G := Lib.hid (ground3_any ((Has.start w).later o1) (most := 5) (by omega) (by omega))
  clear SH o1
  go_wp2_with fail
  refine G.out.mono ?_
  rintro e w2 ⟨d, FD, wb, cb, F0, rfl, h0⟩
  have BG := Lib.hid (has_cbegin (h0.alloc (.cells (bytesA (fun _ => 0)) 52)).last)
  clear G h0
  unfold pp at *
  go_wp2_with (first | (refine wpL_build0 build52 rfl rfl ?_) | (refine wpL_alloc0 zero52 rfl rfl ?_) | (refine wpL_store0 info52 (bytesA_size _) (bytesA_size _) (bytesA_one _) rfl rfl rfl rfl ?_))
  generalize w2.heap.size = sb at *
  refine BG.out.mono ?_
  rintro e w3 ⟨F3, rfl, h3⟩
  have C0 := Lib.hid h3
  clear BG h3
  go_wp2
  go_loopw [9] (fun x wr => ∃ (i : Nat) (C : CaS) (F : List Nat) (wt : Int → Int), i ≤ min len 30 ∧ x = .int .i64 i ∧ Tx C (fun _ => 0) wt i ∧ C.miss = 0 ∧ Has w wr [CRes cb d wb F C, DRes d FD (quiet 100 2 f00), WRes wb d 0 40 0, BRes sb (.cells (bytesA wt) 52)]) (fun x _ => min len 30 - (RowKit.intOf x).toNat)
  case atStart => exact ⟨0, _, F3, _, by omega, rfl, (Clean.new 5).begin, rfl, C0.out⟩
  case round =>
    clear C0
    obtain ⟨i, C, F, wt, hi, rfl, hT, hms, hH⟩ := hrel
    by_cases hlt : i < min len 30
    · as_aux_lemma =>
      have hil : i < len := by omega
      have hi30 : i < 30 := by omega
      obtain ⟨g, o, rfl, hg, q0, q1, q2, q3⟩ := HIN.out.each i hil
      obtain ⟨ab0, ab1⟩ := HIN.out.ab i hil
      have KH := Lib.hid (fun x => kind_any (A i) 60 x ab0 ab1 (by omega) (by omega))
      obtain ⟨xb0, xb1⟩ := amongF_bd (A i) 60 (by omega)
      generalize amongF (A i) 60 = x at *
      have bl := hH.only.block g hg (by simp)
      have p1 := (World.cell?_of_block (w := w) (a := ⟨g, o + i * 4 + 1, none⟩) bl).trans q1
      have p3 := (World.cell?_of_block (w := w) (a := ⟨g, o + i * 4 + 3, none⟩) bl).trans q3
      have WR := Lib.hid (tx_write hH hT (40 + x) (B i) (by omega) (by omega))
      have HT := Lib.hid (hT.write (x := 40 + x) (by omega) (by omega) (B i))
      have HMS := Lib.hid hms
      clear hH hT bl q0 q1 q2 hms
      unfold pp at *
      go_wp2_with (first | (go_at_call 9; refine (KH.out _).mono ?_; rintro e w' ⟨rfl, rfl⟩) | (go_at_call 14; refine (full1_any _ _).mono ?_; rintro e w' ⟨rfl, rfl⟩))
      refine WR.out.mono ?_
      rintro e w6 ⟨F6, rfl, h6⟩
      have bl6 := h6.only.block g hg (by simp)
      have p36 := (World.cell?_of_block (w := w) (a := ⟨g, o + i * 4 + 3, none⟩) bl6).trans q3
      have hb6 : w6.heap[sb]? = some (.cells (bytesA wt) 52 (0, 0)) := h6.blk (by simp)
      obtain ⟨y, hy, hy1⟩ : ∃ y : Nat, 40 + x = (y : Int) ∧ y < 100 := ⟨(40 + x).toNat, by omega, by omega⟩
      have cs : w6.cell? ⟨sb, y, none⟩ = some (.int .u8 (wt y)) := by rw [cell_of_row _ _ _ _ _ _ hb6]; exact bytesA_at hy1
      have fs : w6.frozen? ⟨sb, y, none⟩ = false := by simp [World.frozen?, hb6]
      have h7 := ((h6.fst (L := [_, _, _])).setb y (.int .u8 (B i))).last
      rw [bytesA_set hy1] at h7
      have H7 := Lib.hid h7
      clear KH WR p1 p3 bl6 h6 hb6 h7 q3
      rw [hy] at HT H7 ⊢
      clear hy xb0 xb1
      go_wp2
      go_roundw
      case rel => exact ⟨i + 1, _, F6, _, by omega, by go_num, HT.out, HMS.out, H7.out⟩
      case measure => simp [RowKit.intOf]; omega
    · have hi30 : i ≤ 30 := by omega
      have CO := Lib.hid (tx_commit hH hT (by omega) Dk.new (by omega) (by omega) (by omega) (by omega))
      have HC := Lib.hid hT.committed
      have HMS := Lib.hid hms
      clear hH hT hms
      unfold pp at *
      have EX : (i = len ∧ len ≤ 30) ∨ (i = 30 ∧ 30 < len) := by omega
      clear hlt hi
      rcases EX with ⟨rfl, hL⟩ | ⟨rfl, hL⟩
      · as_aux_lemma =>
        go_wp2_with fail
        refine CO.out.mono ?_
        rintro e w3 ⟨k3, FD3, F3, f3, hk31, hk30, hd3, _, rfl, h3⟩
        have BG := Lib.hid (has_cbegin_cl h3 HC.out.opn)
        have HD := Lib.hid hd3
        have hm3 := (commit_missed C).trans HMS.out
        clear CO h3 hd3 HMS
        unfold pp at *
        go_wp2_with fail
        refine BG.out.mono ?_
        rintro e w4 ⟨F4, rfl, h4⟩
        have C1 := Lib.hid (And.intro HC.out.begin (And.intro hm3 h4))
        clear BG h4 hm3 HC
        generalize C.committed = C5 at *
        go_wp2
        go_loopw [12] (fun x wr => ∃ (j : Nat) (C : CaS) (F : List Nat) (nx : Int → Int), j ≤ min len2 60 ∧ x = .int .i64 j ∧ Tx C wt nx j ∧ C.miss = 0 ∧ Has w wr [CRes cb d wb F C, DRes d FD3 (quiet 100 k3 f3), WRes wb d 0 40 1, BRes sb (.cells (bytesA wt) 52)]) (fun x _ => min len2 60 - (RowKit.intOf x).toNat)
        case atStart => exact ⟨0, _, F4, _, by omega, rfl, C1.out.1, C1.out.2.1, C1.out.2.2⟩
        case round =>
          clear C1
          obtain ⟨j, C, F, nx, hj, rfl, hT, hms, hH⟩ := hrel
          by_cases hlt2 : j < min len2 60
          · as_aux_lemma =>
            have hjl : j < len2 := by omega
            have hj60 : j < 60 := by omega
            obtain ⟨g, o, rfl, hg, q0, q1, q2, q3⟩ := HIN2.out.each j hjl
            obtain ⟨ab0, ab1⟩ := HIN2.out.ab j hjl
            obtain ⟨xb0, xb1⟩ := amongF_bd (A2 j) 60 (by omega)
            obtain ⟨x, hx⟩ : ∃ x, amongF (A2 j) 60 = x := ⟨_, rfl⟩
            rw [hx] at xb0 xb1
            have bl := hH.only.block g hg (by simp)
            have p1 : wr.drew.cell? ⟨g, o + j * 4 + 1, none⟩ = _ := (World.cell?_of_block (w := w) (a := ⟨g, o + j * 4 + 1, none⟩) bl).trans q1
            have p3 : wr.drew.cell? ⟨g, o + j * 4 + 3, none⟩ = _ := (World.cell?_of_block (w := w) (a := ⟨g, o + j * 4 + 3, none⟩) bl).trans q3
            have WR := Lib.hid (tx_write hH.drew hT (40 + x) (B2 j) (by omega) (by omega))
            have HT := Lib.hid (hT.write (x := 40 + x) (by omega) (by omega) (B2 j))
            have HMS := Lib.hid hms
            clear hH hT bl q0 q1 q2 q3 hms
            go_wp2_with fail
            refine wp_region_flowR Lat [0, 0, 0, 0, 0, 1, 1, 0, 0, 0, 0, 0, 1, 2, 3] (by kernel_rfl) (by kernel_rfl) Lat.refl Lat.trans ?_
            generalize wr.drew = w5 at *
            refine fr0 (u := .pointer (some ⟨cb, 0, none⟩)) rfl (fun _ => rfl) ?_
            simp only [Act.put, List.setIfInBounds_toArray, List.set_cons_succ, List.set_cons_zero]
            refine fr0 (u := .slice (some ⟨g, o, none⟩) len2 cap2) rfl (fun _ => rfl) ?_
            simp only [Act.put, List.setIfInBounds_toArray, List.set_cons_succ, List.set_cons_zero]
            refine fr0 (u := .int .i64 (j : Nat)) rfl (fun _ => rfl) ?_
            simp only [Act.put, List.setIfInBounds_toArray, List.set_cons_succ, List.set_cons_zero]
            refine fr0 (u := .pointer (some ⟨g, o + j * 4, none⟩)) rfl (run_index22 hjl rfl rfl rfl) ?_
            simp only [Act.put, List.setIfInBounds_toArray, List.set_cons_succ, List.set_cons_zero]
            refine fr0 (u := .pointer (some ⟨g, o + j * 4 + 1, none⟩)) rfl (run_fieldo32 (k := 1) (by omega) rfl rfl) ?_
            simp only [Act.put, List.setIfInBounds_toArray, List.set_cons_succ, List.set_cons_zero]
            refine fr1 (u := .int .i64 (A2 j)) rfl (fun x hx => run_load1 rfl rfl (hx.cell p1) isAgg3) ?_
            simp only [Act.put, List.setIfInBounds_toArray, List.set_cons_succ, List.set_cons_zero]
            refine fr1c (u := .int .i64 x) rfl (fun y hy => does_kind60 ab0 ab1 hx rfl rfl) ?_
            simp only [Act.put, List.setIfInBounds_toArray, List.set_cons_succ, List.set_cons_zero]
            refine fr0 (u := .int .i64 (40 + x)) rfl (run_add (by omega) (by omega) rfl rfl rfl) ?_
            simp only [Act.put, List.setIfInBounds_toArray, List.set_cons_succ, List.set_cons_zero]
            refine fr0 (u := .slice (some ⟨g, o, none⟩) len2 cap2) rfl (fun _ => rfl) ?_
            simp only [Act.put, List.setIfInBounds_toArray, List.set_cons_succ, List.set_cons_zero]
            refine fr0 (u := .int .i64 (j : Nat)) rfl (fun _ => rfl) ?_
            simp only [Act.put, List.setIfInBounds_toArray, List.set_cons_succ, List.set_cons_zero]
            refine fr0 (u := .pointer (some ⟨g, o + j * 4, none⟩)) rfl (run_index22 hjl rfl rfl rfl) ?_
            simp only [Act.put, List.setIfInBounds_toArray, List.set_cons_succ, List.set_cons_zero]
            refine fr0 (u := .pointer (some ⟨g, o + j * 4 + 3, none⟩)) rfl (run_fieldo32 (k := 3) (by omega) rfl rfl) ?_
            simp only [Act.put, List.setIfInBounds_toArray, List.set_cons_succ, List.set_cons_zero]
            refine fr1 (u := .int .u8 (B2 j)) rfl (fun x hx => run_load1 rfl rfl (hx.cell p3) isAgg5) ?_
            simp only [Act.put, List.setIfInBounds_toArray, List.set_cons_succ, List.set_cons_zero]
            refine fr2 (u := .slice (some ⟨w5.heap.size, 0, none⟩) 64 64) (w' := w5.alloc (.cells (fullA (B2 j)) 5)) rfl (Lat.alloc _ _) (does_full1 rfl rfl) ?_
            simp only [Act.put, List.setIfInBounds_toArray, List.set_cons_succ, List.set_cons_zero]
            refine fr3c rfl (run_enter3 Try.call16 rfl rfl rfl rfl) WR.out ?_
            rintro e w6 ⟨F6, rfl, h6⟩
            refine ⟨_, rfl, ?_⟩
            simp only [Act.put, List.setIfInBounds_toArray, List.set_cons_succ, List.set_cons_zero]
            refine frnil ?_
            have FIN := Lib.hid (And.intro HT.out (And.intro HMS.out h6))
            clear WR HT HMS h6 p1 p3 hx xb0 xb1
            go_wp2
            go_roundw
            case rel => exact ⟨j + 1, _, F6, _, by omega, by go_num, FIN.out.1, FIN.out.2.1, FIN.out.2.2⟩
            case measure => simp [RowKit.intOf]; omega
          · have AB := Lib.hid (has_cabort_op hH hT.opn)
            have HC := Lib.hid (hT.abort hH.cok)
            have HMS := Lib.hid hms
            clear hH hT hms
            unfold pp at *
            have EX : (j = len2 ∧ len2 ≤ 60) ∨ (j = 60 ∧ 60 < len2) := by omega
            clear hlt2 hj
            rcases EX with ⟨rfl, hL2⟩ | ⟨rfl, hL2⟩
            · go_wp2_with fail
              refine AB.out.mono ?_
              rintro e w6 ⟨F6, rfl, h6⟩
              have PI := Lib.hid (pinned_any h6.cat1)
              rw [HC.out.pin] at PI
              have C2 := Lib.hid (And.intro HC.out (And.intro (show C.abort.miss = 0 from HMS.out) h6))
              clear AB h6 HC HMS
              generalize C.abort = C7 at *
              unfold pp at *
              go_wp2_with (go_at_call 25; refine PI.out.mono ?_; rintro e w' ⟨rfl, rfl⟩)
              clear PI
              go_loopw [14] (fun x wr => ∃ (at_ : Nat) (C : CaS) (F : List Nat), 40 ≤ at_ ∧ at_ ≤ 100 ∧ x = .int .i64 at_ ∧ Clean C wt ∧ C.miss ≤ at_ ∧ Has w wr [CRes cb d wb F C, DRes d FD3 (quiet 100 k3 f3), WRes wb d 0 40 1, BRes sb (.cells (bytesA wt) 52)]) (fun x _ => 100 - (RowKit.intOf x).toNat)
              case atStart => exact ⟨40, _, F6, by omega, by omega, rfl, C2.out.1, by rw [C2.out.2.1]; omega, C2.out.2.2⟩
              case round =>
                clear C2
                obtain ⟨at_, C, F, ha0, ha1, rfl, hC, hms, hH⟩ := hrel
                by_cases hat : at_ < 100
                · as_aux_lemma =>
                  have RD := Lib.hid (read_in hH at_ (by omega) (by omega) (by omega))
                  have hgot := hC.got (S := quiet 100 k3 f3) HD.out (x := at_) (by omega) (by omega)
                  have HR := Lib.hid (hC.read (S := quiet 100 k3 f3) HD.out (x := at_) (by omega) (by omega))
                  have hmm := read_missed C (quiet 100 k3 f3) at_
                  rw [hgot] at RD
                  clear hH hC hgot
                  unfold pp at *
                  go_wp2_with fail
                  refine RD.out.mono ?_
                  rintro e w8 ⟨rb, F8, rfl, h8⟩
                  have h9 := h8.drew
                  have hyb : w8.drew.heap[rb]? = some (.cells (fullA (wt at_)) 69 (0, 0)) := h9.blk (by simp)
                  have hsb : w8.drew.heap[sb]? = some (.cells (bytesA wt) 52 (0, 0)) := h9.blk (by simp)
                  have cs : w8.drew.cell? ⟨sb, at_, none⟩ = some (.int .u8 (wt at_)) := by rw [cell_of_row _ _ _ _ _ _ hsb]; exact bytesA_at hat
                  have H9 := Lib.hid h9.drop
                  rw [fullA_sec] at hyb
                  clear RD h8 hsb h9
                  go_wp2_with fail
                  refine wp_region_flowR Lat [0, 0, 0, 0, 1, 0, 0, 1, 2, 1, 0, 0] (by kernel_rfl) (by kernel_rfl) Lat.refl Lat.trans ?_
                  generalize w8.drew = w9 at *
                  refine fr0 (u := .int .i64 0) rfl (fun _ => rfl) ?_
                  simp only [Act.put, List.setIfInBounds_toArray, List.set_cons_succ, List.set_cons_zero]
                  refine fr0 (u := .bool false) rfl (fun w => (run_neq33 rfl rfl rfl w).trans rfl) ?_
                  simp only [Act.put, List.setIfInBounds_toArray, List.set_cons_succ, List.set_cons_zero]
                  refine fr0 (u := .bool false) rfl (fun _ => rfl) ?_
                  simp only [Act.put, List.setIfInBounds_toArray, List.set_cons_succ, List.set_cons_zero]
                  refine fr0 (u := .slice (some ⟨rb, 0, none⟩) 64 64) (by kernel_rfl) (fun _ => rfl) ?_
                  simp only [Act.put, List.setIfInBounds_toArray, List.set_cons_succ, List.set_cons_zero]
                  refine fr1 (u := .string (strOf (List.replicate 64 (wt (at_ : Nat))))) (by kernel_rfl) (fun x hx => run_str (by simp) rfl rfl (hx.at hyb)) ?_
                  simp only [Act.put, List.setIfInBounds_toArray, List.set_cons_succ, List.set_cons_zero]
                  refine fr0 (u := .int .i64 (at_ : Nat)) (by kernel_rfl) (fun _ => rfl) ?_
                  simp only [Act.put, List.setIfInBounds_toArray, List.set_cons_succ, List.set_cons_zero]
                  refine fr0 (u := .pointer (some ⟨sb, at_, none⟩)) (by kernel_rfl) (run_index52 hat rfl rfl rfl) ?_
                  simp only [Act.put, List.setIfInBounds_toArray, List.set_cons_succ, List.set_cons_zero]
                  refine fr1 (u := .int .u8 (wt (at_ : Nat))) (by kernel_rfl) (fun x hx => run_load1 rfl rfl (hx.cell cs) isAgg5) ?_
                  simp only [Act.put, List.setIfInBounds_toArray, List.set_cons_succ, List.set_cons_zero]
                  refine fr2 (u := .slice (some ⟨w9.heap.size, 0, none⟩) 64 64) (w' := w9.alloc (.cells (fullA (wt (at_ : Nat))) 5)) (by kernel_rfl) (Lat.alloc _ _) (does_full1 rfl rfl) ?_
                  have hzz := heap_alloc_last w9 (.cells (fullA (wt (at_ : Nat))) 5)
                  rw [fullA_sec] at hzz ⊢
                  simp only [Act.put, List.setIfInBounds_toArray, List.set_cons_succ, List.set_cons_zero]
                  refine fr1 (u := .string (strOf (List.replicate 64 (wt (at_ : Nat))))) (by kernel_rfl) (fun x hx => run_str (by simp) rfl rfl (hx.at hzz)) ?_
                  simp only [Act.put, List.setIfInBounds_toArray, List.set_cons_succ, List.set_cons_zero]
                  refine fr0 (u := .bool false) (by kernel_rfl) (fun w => (run_neqS rfl rfl rfl w).trans (by simp)) ?_
                  simp only [Act.put, List.setIfInBounds_toArray, List.set_cons_succ, List.set_cons_zero]
                  refine fr0 (u := .bool false) rfl (fun _ => rfl) ?_
                  simp only [Act.put, List.setIfInBounds_toArray, List.set_cons_succ, List.set_cons_zero]
                  refine frnil ?_
                  show Exit.then _ _ _ _ _
                  have FIN := Lib.hid (H9.out.alloc' (.cells (sec (List.replicate 64 (wt at_))) 5))
                  have HMM := Lib.hid hmm
                  clear H9 hyb cs hzz hmm
                  go_wp2
                  go_roundw
                  case rel => exact ⟨at_ + 1, _, F8, by omega, by omega, by go_num, HR.out, by have := HMM.out; omega, FIN.out⟩
                  case measure => simp [RowKit.intOf]; omega
                · have hh : at_ = 100 := by omega
                  subst hh
                  have HO := Lib.hid hH.only
                  clear hH hC
                  go_wp2
                  go_ret
                  exact ⟨rfl, HO.out⟩
            · go_wp2_with fail
              refine AB.out.mono ?_
              rintro e w6 ⟨F6, rfl, h6⟩
              have PI := Lib.hid (pinned_any h6.cat1)
              rw [HC.out.pin] at PI
              have C2 := Lib.hid (And.intro HC.out (And.intro (show C.abort.miss = 0 from HMS.out) h6))
              clear AB h6 HC HMS
              generalize C.abort = C7 at *
              unfold pp at *
              go_wp2_with (go_at_call 25; refine PI.out.mono ?_; rintro e w' ⟨rfl, rfl⟩)
              clear PI
              go_loopw [14] (fun x wr => ∃ (at_ : Nat) (C : CaS) (F : List Nat), 40 ≤ at_ ∧ at_ ≤ 100 ∧ x = .int .i64 at_ ∧ Clean C wt ∧ C.miss ≤ at_ ∧ Has w wr [CRes cb d wb F C, DRes d FD3 (quiet 100 k3 f3), WRes wb d 0 40 1, BRes sb (.cells (bytesA wt) 52)]) (fun x _ => 100 - (RowKit.intOf x).toNat)
              case atStart => exact ⟨40, _, F6, by omega, by omega, rfl, C2.out.1, by rw [C2.out.2.1]; omega, C2.out.2.2⟩
              case round =>
                clear C2
                obtain ⟨at_, C, F, ha0, ha1, rfl, hC, hms, hH⟩ := hrel
                by_cases hat : at_ < 100
                · as_aux_lemma =>
                  have RD := Lib.hid (read_in hH at_ (by omega) (by omega) (by omega))
                  have hgot := hC.got (S := quiet 100 k3 f3) HD.out (x := at_) (by omega) (by omega)
                  have HR := Lib.hid (hC.read (S := quiet 100 k3 f3) HD.out (x := at_) (by omega) (by omega))
                  have hmm := read_missed C (quiet 100 k3 f3) at_
                  rw [hgot] at RD
                  clear hH hC hgot
                  unfold pp at *
                  go_wp2_with fail
                  refine RD.out.mono ?_
                  rintro e w8 ⟨rb, F8, rfl, h8⟩
                  have h9 := h8.drew
                  have hyb : w8.drew.heap[rb]? = some (.cells (fullA (wt at_)) 69 (0, 0)) := h9.blk (by simp)
                  have hsb : w8.drew.heap[sb]? = some (.cells (bytesA wt) 52 (0, 0)) := h9.blk (by simp)
                  have cs : w8.drew.cell? ⟨sb, at_, none⟩ = some (.int .u8 (wt at_)) := by rw [cell_of_row _ _ _ _ _ _ hsb]; exact bytesA_at hat
                  have H9 := Lib.hid h9.drop
                  rw [fullA_sec] at hyb
                  clear RD h8 hsb h9
                  go_wp2_with fail
                  refine wp_region_flowR Lat [0, 0, 0, 0, 1, 0, 0, 1, 2, 1, 0, 0] (by kernel_rfl) (by kernel_rfl) Lat.refl Lat.trans ?_
                  generalize w8.drew = w9 at *
                  refine fr0 (u := .int .i64 0) rfl (fun _ => rfl) ?_
                  simp only [Act.put, List.setIfInBounds_toArray, List.set_cons_succ, List.set_cons_zero]
                  refine fr0 (u := .bool false) rfl (fun w => (run_neq33 rfl rfl rfl w).trans rfl) ?_
                  simp only [Act.put, List.setIfInBounds_toArray, List.set_cons_succ, List.set_cons_zero]
                  refine fr0 (u := .bool false) rfl (fun _ => rfl) ?_
                  simp only [Act.put, List.setIfInBounds_toArray, List.set_cons_succ, List.set_cons_zero]
                  refine fr0 (u := .slice (some ⟨rb, 0, none⟩) 64 64) (by kernel_rfl) (fun _ => rfl) ?_
                  simp only [Act.put, List.setIfInBounds_toArray, List.set_cons_succ, List.set_cons_zero]
                  refine fr1 (u := .string (strOf (List.replicate 64 (wt (at_ : Nat))))) (by kernel_rfl) (fun x hx => run_str (by simp) rfl rfl (hx.at hyb)) ?_
                  simp only [Act.put, List.setIfInBounds_toArray, List.set_cons_succ, List.set_cons_zero]
                  refine fr0 (u := .int .i64 (at_ : Nat)) (by kernel_rfl) (fun _ => rfl) ?_
                  simp only [Act.put, List.setIfInBounds_toArray, List.set_cons_succ, List.set_cons_zero]
                  refine fr0 (u := .pointer (some ⟨sb, at_, none⟩)) (by kernel_rfl) (run_index52 hat rfl rfl rfl) ?_
                  simp only [Act.put, List.setIfInBounds_toArray, List.set_cons_succ, List.set_cons_zero]
                  refine fr1 (u := .int .u8 (wt (at_ : Nat))) (by kernel_rfl) (fun x hx => run_load1 rfl rfl (hx.cell cs) isAgg5) ?_
                  simp only [Act.put, List.setIfInBounds_toArray, List.set_cons_succ, List.set_cons_zero]
                  refine fr2 (u := .slice (some ⟨w9.heap.size, 0, none⟩) 64 64) (w' := w9.alloc (.cells (fullA (wt (at_ : Nat))) 5)) (by kernel_rfl) (Lat.alloc _ _) (does_full1 rfl rfl) ?_
                  have hzz := heap_alloc_last w9 (.cells (fullA (wt (at_ : Nat))) 5)
                  rw [fullA_sec] at hzz ⊢
                  simp only [Act.put, List.setIfInBounds_toArray, List.set_cons_succ, List.set_cons_zero]
                  refine fr1 (u := .string (strOf (List.replicate 64 (wt (at_ : Nat))))) (by kernel_rfl) (fun x hx => run_str (by simp) rfl rfl (hx.at hzz)) ?_
                  simp only [Act.put, List.setIfInBounds_toArray, List.set_cons_succ, List.set_cons_zero]
                  refine fr0 (u := .bool false) (by kernel_rfl) (fun w => (run_neqS rfl rfl rfl w).trans (by simp)) ?_
                  simp only [Act.put, List.setIfInBounds_toArray, List.set_cons_succ, List.set_cons_zero]
                  refine fr0 (u := .bool false) rfl (fun _ => rfl) ?_
                  simp only [Act.put, List.setIfInBounds_toArray, List.set_cons_succ, List.set_cons_zero]
                  refine frnil ?_
                  show Exit.then _ _ _ _ _
                  have FIN := Lib.hid (H9.out.alloc' (.cells (sec (List.replicate 64 (wt at_))) 5))
                  have HMM := Lib.hid hmm
                  clear H9 hyb cs hzz hmm
                  go_wp2
                  go_roundw
                  case rel => exact ⟨at_ + 1, _, F8, by omega, by omega, by go_num, HR.out, by have := HMM.out; omega, FIN.out⟩
                  case measure => simp [RowKit.intOf]; omega
                · have hh : at_ = 100 := by omega
                  subst hh
                  have HO := Lib.hid hH.only
                  clear hH hC
                  go_wp2
                  go_ret
                  exact ⟨rfl, HO.out⟩
      · as_aux_lemma =>
        go_wp2_with fail
        refine CO.out.mono ?_
        rintro e w3 ⟨k3, FD3, F3, f3, hk31, hk30, hd3, _, rfl, h3⟩
        have BG := Lib.hid (has_cbegin_cl h3 HC.out.opn)
        have HD := Lib.hid hd3
        have hm3 := (commit_missed C).trans HMS.out
        clear CO h3 hd3 HMS
        unfold pp at *
        go_wp2_with fail
        refine BG.out.mono ?_
        rintro e w4 ⟨F4, rfl, h4⟩
        have C1 := Lib.hid (And.intro HC.out.begin (And.intro hm3 h4))
        clear BG h4 hm3 HC
        generalize C.committed = C5 at *
        go_wp2
        go_loopw [12] (fun x wr => ∃ (j : Nat) (C : CaS) (F : List Nat) (nx : Int → Int), j ≤ min len2 60 ∧ x = .int .i64 j ∧ Tx C wt nx j ∧ C.miss = 0 ∧ Has w wr [CRes cb d wb F C, DRes d FD3 (quiet 100 k3 f3), WRes wb d 0 40 1, BRes sb (.cells (bytesA wt) 52)]) (fun x _ => min len2 60 - (RowKit.intOf x).toNat)
        case atStart => exact ⟨0, _, F4, _, by omega, rfl, C1.out.1, C1.out.2.1, C1.out.2.2⟩
        case round =>
          clear C1
          obtain ⟨j, C, F, nx, hj, rfl, hT, hms, hH⟩ := hrel
          by_cases hlt2 : j < min len2 60
          · as_aux_lemma =>
            have hjl : j < len2 := by omega
            have hj60 : j < 60 := by omega
            obtain ⟨g, o, rfl, hg, q0, q1, q2, q3⟩ := HIN2.out.each j hjl
            obtain ⟨ab0, ab1⟩ := HIN2.out.ab j hjl
            obtain ⟨xb0, xb1⟩ := amongF_bd (A2 j) 60 (by omega)
            obtain ⟨x, hx⟩ : ∃ x, amongF (A2 j) 60 = x := ⟨_, rfl⟩
            rw [hx] at xb0 xb1
            have bl := hH.only.block g hg (by simp)
            have p1 : wr.drew.cell? ⟨g, o + j * 4 + 1, none⟩ = _ := (World.cell?_of_block (w := w) (a := ⟨g, o + j * 4 + 1, none⟩) bl).trans q1
            have p3 : wr.drew.cell? ⟨g, o + j * 4 + 3, none⟩ = _ := (World.cell?_of_block (w := w) (a := ⟨g, o + j * 4 + 3, none⟩) bl).trans q3
            have WR := Lib.hid (tx_write hH.drew hT (40 + x) (B2 j) (by omega) (by omega))
            have HT := Lib.hid (hT.write (x := 40 + x) (by omega) (by omega) (B2 j))
            have HMS := Lib.hid hms
            clear hH hT bl q0 q1 q2 q3 hms
            go_wp2_with fail
            refine wp_region_flowR Lat [0, 0, 0, 0, 0, 1, 1, 0, 0, 0, 0, 0, 1, 2, 3] (by kernel_rfl) (by kernel_rfl) Lat.refl Lat.trans ?_
            generalize wr.drew = w5 at *
            refine fr0 (u := .pointer (some ⟨cb, 0, none⟩)) rfl (fun _ => rfl) ?_
            simp only [Act.put, List.setIfInBounds_toArray, List.set_cons_succ, List.set_cons_zero]
            refine fr0 (u := .slice (some ⟨g, o, none⟩) len2 cap2) rfl (fun _ => rfl) ?_
            simp only [Act.put, List.setIfInBounds_toArray, List.set_cons_succ, List.set_cons_zero]
            refine fr0 (u := .int .i64 (j : Nat)) rfl (fun _ => rfl) ?_
            simp only [Act.put, List.setIfInBounds_toArray, List.set_cons_succ, List.set_cons_zero]
            refine fr0 (u := .pointer (some ⟨g, o + j * 4, none⟩)) rfl (run_index22 hjl rfl rfl rfl) ?_
            simp only [Act.put, List.setIfInBounds_toArray, List.set_cons_succ, List.set_cons_zero]
            refine fr0 (u := .pointer (some ⟨g, o + j * 4 + 1, none⟩)) rfl (run_fieldo32 (k := 1) (by omega) rfl rfl) ?_
            simp only [Act.put, List.setIfInBounds_toArray, List.set_cons_succ, List.set_cons_zero]
            refine fr1 (u := .int .i64 (A2 j)) rfl (fun x hx => run_load1 rfl rfl (hx.cell p1) isAgg3) ?_
            simp only [Act.put, List.setIfInBounds_toArray, List.set_cons_succ, List.set_cons_zero]
            refine fr1c (u := .int .i64 x) rfl (fun y hy => does_kind60 ab0 ab1 hx rfl rfl) ?_
            simp only [Act.put, List.setIfInBounds_toArray, List.set_cons_succ, List.set_cons_zero]
            refine fr0 (u := .int .i64 (40 + x)) rfl (run_add (by omega) (by omega) rfl rfl rfl) ?_
            simp only [Act.put, List.setIfInBounds_toArray, List.set_cons_succ, List.set_cons_zero]
            refine fr0 (u := .slice (some ⟨g, o, none⟩) len2 cap2) rfl (fun _ => rfl) ?_
            simp only [Act.put, List.setIfInBounds_toArray, List.set_cons_succ, List.set_cons_zero]
            refine fr0 (u := .int .i64 (j : Nat)) rfl (fun _ => rfl) ?_
            simp only [Act.put, List.setIfInBounds_toArray, List.set_cons_succ, List.set_cons_zero]
            refine fr0 (u := .pointer (some ⟨g, o + j * 4, none⟩)) rfl (run_index22 hjl rfl rfl rfl) ?_
            simp only [Act.put, List.setIfInBounds_toArray, List.set_cons_succ, List.set_cons_zero]
            refine fr0 (u := .pointer (some ⟨g, o + j * 4 + 3, none⟩)) rfl (run_fieldo32 (k := 3) (by omega) rfl rfl) ?_
            simp only [Act.put, List.setIfInBounds_toArray, List.set_cons_succ, List.set_cons_zero]
            refine fr1 (u := .int .u8 (B2 j)) rfl (fun x hx => run_load1 rfl rfl (hx.cell p3) isAgg5) ?_
            simp only [Act.put, List.setIfInBounds_toArray, List.set_cons_succ, List.set_cons_zero]
            refine fr2 (u := .slice (some ⟨w5.heap.size, 0, none⟩) 64 64) (w' := w5.alloc (.cells (fullA (B2 j)) 5)) rfl (Lat.alloc _ _) (does_full1 rfl rfl) ?_
            simp only [Act.put, List.setIfInBounds_toArray, List.set_cons_succ, List.set_cons_zero]
            refine fr3c rfl (run_enter3 Try.call16 rfl rfl rfl rfl) WR.out ?_
            rintro e w6 ⟨F6, rfl, h6⟩
            refine ⟨_, rfl, ?_⟩
            simp only [Act.put, List.setIfInBounds_toArray, List.set_cons_succ, List.set_cons_zero]
            refine frnil ?_
            have FIN := Lib.hid (And.intro HT.out (And.intro HMS.out h6))
            clear WR HT HMS h6 p1 p3 hx xb0 xb1
            go_wp2
            go_roundw
            case rel => exact ⟨j + 1, _, F6, _, by omega, by go_num, FIN.out.1, FIN.out.2.1, FIN.out.2.2⟩
            case measure => simp [RowKit.intOf]; omega
          · have AB := Lib.hid (has_cabort_op hH hT.opn)
            have HC := Lib.hid (hT.abort hH.cok)
            have HMS := Lib.hid hms
            clear hH hT hms
            unfold pp at *
            have EX : (j = len2 ∧ len2 ≤ 60) ∨ (j = 60 ∧ 60 < len2) := by omega
            clear hlt2 hj
            rcases EX with ⟨rfl, hL2⟩ | ⟨rfl, hL2⟩
            · go_wp2_with fail
              refine AB.out.mono ?_
              rintro e w6 ⟨F6, rfl, h6⟩
              have PI := Lib.hid (pinned_any h6.cat1)
              rw [HC.out.pin] at PI
              have C2 := Lib.hid (And.intro HC.out (And.intro (show C.abort.miss = 0 from HMS.out) h6))
              clear AB h6 HC HMS
              generalize C.abort = C7 at *
              unfold pp at *
              go_wp2_with (go_at_call 25; refine PI.out.mono ?_; rintro e w' ⟨rfl, rfl⟩)
              clear PI
              go_loopw [14] (fun x wr => ∃ (at_ : Nat) (C : CaS) (F : List Nat), 40 ≤ at_ ∧ at_ ≤ 100 ∧ x = .int .i64 at_ ∧ Clean C wt ∧ C.miss ≤ at_ ∧ Has w wr [CRes cb d wb F C, DRes d FD3 (quiet 100 k3 f3), WRes wb d 0 40 1, BRes sb (.cells (bytesA wt) 52)]) (fun x _ => 100 - (RowKit.intOf x).toNat)
              case atStart => exact ⟨40, _, F6, by omega, by omega, rfl, C2.out.1, by rw [C2.out.2.1]; omega, C2.out.2.2⟩
              case round =>
                clear C2
                obtain ⟨at_, C, F, ha0, ha1, rfl, hC, hms, hH⟩ := hrel
                by_cases hat : at_ < 100
                · as_aux_lemma =>
                  have RD := Lib.hid (read_in hH at_ (by omega) (by omega) (by omega))
                  have hgot := hC.got (S := quiet 100 k3 f3) HD.out (x := at_) (by omega) (by omega)
                  have HR := Lib.hid (hC.read (S := quiet 100 k3 f3) HD.out (x := at_) (by omega) (by omega))
                  have hmm := read_missed C (quiet 100 k3 f3) at_
                  rw [hgot] at RD
                  clear hH hC hgot
                  unfold pp at *
                  go_wp2_with fail
                  refine RD.out.mono ?_
                  rintro e w8 ⟨rb, F8, rfl, h8⟩
                  have h9 := h8.drew
                  have hyb : w8.drew.heap[rb]? = some (.cells (fullA (wt at_)) 69 (0, 0)) := h9.blk (by simp)
                  have hsb : w8.drew.heap[sb]? = some (.cells (bytesA wt) 52 (0, 0)) := h9.blk (by simp)
                  have cs : w8.drew.cell? ⟨sb, at_, none⟩ = some (.int .u8 (wt at_)) := by rw [cell_of_row _ _ _ _ _ _ hsb]; exact bytesA_at hat
                  have H9 := Lib.hid h9.drop
                  rw [fullA_sec] at hyb
                  clear RD h8 hsb h9
                  go_wp2_with fail
                  refine wp_region_flowR Lat [0, 0, 0, 0, 1, 0, 0, 1, 2, 1, 0, 0] (by kernel_rfl) (by kernel_rfl) Lat.refl Lat.trans ?_
                  generalize w8.drew = w9 at *
                  refine fr0 (u := .int .i64 0) rfl (fun _ => rfl) ?_
                  simp only [Act.put, List.setIfInBounds_toArray, List.set_cons_succ, List.set_cons_zero]
                  refine fr0 (u := .bool false) rfl (fun w => (run_neq33 rfl rfl rfl w).trans rfl) ?_
                  simp only [Act.put, List.setIfInBounds_toArray, List.set_cons_succ, List.set_cons_zero]
                  refine fr0 (u := .bool false) rfl (fun _ => rfl) ?_
                  simp only [Act.put, List.setIfInBounds_toArray, List.set_cons_succ, List.set_cons_zero]
                  refine fr0 (u := .slice (some ⟨rb, 0, none⟩) 64 64) (by kernel_rfl) (fun _ => rfl) ?_
                  simp only [Act.put, List.setIfInBounds_toArray, List.set_cons_succ, List.set_cons_zero]
                  refine fr1 (u := .string (strOf (List.replicate 64 (wt (at_ : Nat))))) (by kernel_rfl) (fun x hx => run_str (by simp) rfl rfl (hx.at hyb)) ?_
                  simp only [Act.put, List.setIfInBounds_toArray, List.set_cons_succ, List.set_cons_zero]
                  refine fr0 (u := .int .i64 (at_ : Nat)) (by kernel_rfl) (fun _ => rfl) ?_
                  simp only [Act.put, List.setIfInBounds_toArray, List.set_cons_succ, List.set_cons_zero]
                  refine fr0 (u := .pointer (some ⟨sb, at_, none⟩)) (by kernel_rfl) (run_index52 hat rfl rfl rfl) ?_
                  simp only [Act.put, List.setIfInBounds_toArray, List.set_cons_succ, List.set_cons_zero]
                  refine fr1 (u := .int .u8 (wt (at_ : Nat))) (by kernel_rfl) (fun x hx => run_load1 rfl rfl (hx.cell cs) isAgg5) ?_
                  simp only [Act.put, List.setIfInBounds_toArray, List.set_cons_succ, List.set_cons_zero]
                  refine fr2 (u := .slice (some ⟨w9.heap.size, 0, none⟩) 64 64) (w' := w9.alloc (.cells (fullA (wt (at_ : Nat))) 5)) (by kernel_rfl) (Lat.alloc _ _) (does_full1 rfl rfl) ?_
                  have hzz := heap_alloc_last w9 (.cells (fullA (wt (at_ : Nat))) 5)
                  rw [fullA_sec] at hzz ⊢
                  simp only [Act.put, List.setIfInBounds_toArray, List.set_cons_succ, List.set_cons_zero]
                  refine fr1 (u := .string (strOf (List.replicate 64 (wt (at_ : Nat))))) (by kernel_rfl) (fun x hx => run_str (by simp) rfl rfl (hx.at hzz)) ?_
                  simp only [Act.put, List.setIfInBounds_toArray, List.set_cons_succ, List.set_cons_zero]
                  refine fr0 (u := .bool false) (by kernel_rfl) (fun w => (run_neqS rfl rfl rfl w).trans (by simp)) ?_
                  simp only [Act.put, List.setIfInBounds_toArray, List.set_cons_succ, List.set_cons_zero]
                  refine fr0 (u := .bool false) rfl (fun _ => rfl) ?_
                  simp only [Act.put, List.setIfInBounds_toArray, List.set_cons_succ, List.set_cons_zero]
                  refine frnil ?_
                  show Exit.then _ _ _ _ _
                  have FIN := Lib.hid (H9.out.alloc' (.cells (sec (List.replicate 64 (wt at_))) 5))
                  have HMM := Lib.hid hmm
                  clear H9 hyb cs hzz hmm
                  go_wp2
                  go_roundw
                  case rel => exact ⟨at_ + 1, _, F8, by omega, by omega, by go_num, HR.out, by have := HMM.out; omega, FIN.out⟩
                  case measure => simp [RowKit.intOf]; omega
                · have hh : at_ = 100 := by omega
                  subst hh
                  have HO := Lib.hid hH.only
                  clear hH hC
                  go_wp2
                  go_ret
                  exact ⟨rfl, HO.out⟩
            · go_wp2_with fail
              refine AB.out.mono ?_
              rintro e w6 ⟨F6, rfl, h6⟩
              have PI := Lib.hid (pinned_any h6.cat1)
              rw [HC.out.pin] at PI
              have C2 := Lib.hid (And.intro HC.out (And.intro (show C.abort.miss = 0 from HMS.out) h6))
              clear AB h6 HC HMS
              generalize C.abort = C7 at *
              unfold pp at *
              go_wp2_with (go_at_call 25; refine PI.out.mono ?_; rintro e w' ⟨rfl, rfl⟩)
              clear PI
              go_loopw [14] (fun x wr => ∃ (at_ : Nat) (C : CaS) (F : List Nat), 40 ≤ at_ ∧ at_ ≤ 100 ∧ x = .int .i64 at_ ∧ Clean C wt ∧ C.miss ≤ at_ ∧ Has w wr [CRes cb d wb F C, DRes d FD3 (quiet 100 k3 f3), WRes wb d 0 40 1, BRes sb (.cells (bytesA wt) 52)]) (fun x _ => 100 - (RowKit.intOf x).toNat)
              case atStart => exact ⟨40, _, F6, by omega, by omega, rfl, C2.out.1, by rw [C2.out.2.1]; omega, C2.out.2.2⟩
              case round =>
                clear C2
                obtain ⟨at_, C, F, ha0, ha1, rfl, hC, hms, hH⟩ := hrel
                by_cases hat : at_ < 100
                · as_aux_lemma =>
                  have RD := Lib.hid (read_in hH at_ (by omega) (by omega) (by omega))
                  have hgot := hC.got (S := quiet 100 k3 f3) HD.out (x := at_) (by omega) (by omega)
                  have HR := Lib.hid (hC.read (S := quiet 100 k3 f3) HD.out (x := at_) (by omega) (by omega))
                  have hmm := read_missed C (quiet 100 k3 f3) at_
                  rw [hgot] at RD
                  clear hH hC hgot
                  unfold pp at *
                  go_wp2_with fail
                  refine RD.out.mono ?_
                  rintro e w8 ⟨rb, F8, rfl, h8⟩
                  have h9 := h8.drew
                  have hyb : w8.drew.heap[rb]? = some (.cells (fullA (wt at_)) 69 (0, 0)) := h9.blk (by simp)
                  have hsb : w8.drew.heap[sb]? = some (.cells (bytesA wt) 52 (0, 0)) := h9.blk (by simp)
                  have cs : w8.drew.cell? ⟨sb, at_, none⟩ = some (.int .u8 (wt at_)) := by rw [cell_of_row _ _ _ _ _ _ hsb]; exact bytesA_at hat
                  have H9 := Lib.hid h9.drop
                  rw [fullA_sec] at hyb
                  clear RD h8 hsb h9
                  go_wp2_with fail
                  refine wp_region_flowR Lat [0, 0, 0, 0, 1, 0, 0, 1, 2, 1, 0, 0] (by kernel_rfl) (by kernel_rfl) Lat.refl Lat.trans ?_
                  generalize w8.drew = w9 at *
                  refine fr0 (u := .int .i64 0) rfl (fun _ => rfl) ?_
                  simp only [Act.put, List.setIfInBounds_toArray, List.set_cons_succ, List.set_cons_zero]
                  refine fr0 (u := .bool false) rfl (fun w => (run_neq33 rfl rfl rfl w).trans rfl) ?_
                  simp only [Act.put, List.setIfInBounds_toArray, List.set_cons_succ, List.set_cons_zero]
                  refine fr0 (u := .bool false) rfl (fun _ => rfl) ?_
                  simp only [Act.put, List.setIfInBounds_toArray, List.set_cons_succ, List.set_cons_zero]
                  refine fr0 (u := .slice (some ⟨rb, 0, none⟩) 64 64) (by kernel_rfl) (fun _ => rfl) ?_
                  simp only [Act.put, List.setIfInBounds_toArray, List.set_cons_succ, List.set_cons_zero]
                  refine fr1 (u := .string (strOf (List.replicate 64 (wt (at_ : Nat))))) (by kernel_rfl) (fun x hx => run_str (by simp) rfl rfl (hx.at hyb)) ?_
                  simp only [Act.put, List.setIfInBounds_toArray, List.set_cons_succ, List.set_cons_zero]
                  refine fr0 (u := .int .i64 (at_ : Nat)) (by kernel_rfl) (fun _ => rfl) ?_
                  simp only [Act.put, List.setIfInBounds_toArray, List.set_cons_succ, List.set_cons_zero]
                  refine fr0 (u := .pointer (some ⟨sb, at_, none⟩)) (by kernel_rfl) (run_index52 hat rfl rfl rfl) ?_
                  simp only [Act.put, List.setIfInBounds_toArray, List.set_cons_succ, List.set_cons_zero]
                  refine fr1 (u := .int .u8 (wt (at_ : Nat))) (by kernel_rfl) (fun x hx => run_load1 rfl rfl (hx.cell cs) isAgg5) ?_
                  simp only [Act.put, List.setIfInBounds_toArray, List.set_cons_succ, List.set_cons_zero]
                  refine fr2 (u := .slice (some ⟨w9.heap.size, 0, none⟩) 64 64) (w' := w9.alloc (.cells (fullA (wt (at_ : Nat))) 5)) (by kernel_rfl) (Lat.alloc _ _) (does_full1 rfl rfl) ?_
                  have hzz := heap_alloc_last w9 (.cells (fullA (wt (at_ : Nat))) 5)
                  rw [fullA_sec] at hzz ⊢
                  simp only [Act.put, List.setIfInBounds_toArray, List.set_cons_succ, List.set_cons_zero]
                  refine fr1 (u := .string (strOf (List.replicate 64 (wt (at_ : Nat))))) (by kernel_rfl) (fun x hx => run_str (by simp) rfl rfl (hx.at hzz)) ?_
                  simp only [Act.put, List.setIfInBounds_toArray, List.set_cons_succ, List.set_cons_zero]
                  refine fr0 (u := .bool false) (by kernel_rfl) (fun w => (run_neqS rfl rfl rfl w).trans (by simp)) ?_
                  simp only [Act.put, List.setIfInBounds_toArray, List.set_cons_succ, List.set_cons_zero]
                  refine fr0 (u := .bool false) rfl (fun _ => rfl) ?_
                  simp only [Act.put, List.setIfInBounds_toArray, List.set_cons_succ, List.set_cons_zero]
                  refine frnil ?_
                  show Exit.then _ _ _ _ _
                  have FIN := Lib.hid (H9.out.alloc' (.cells (sec (List.replicate 64 (wt at_))) 5))
                  have HMM := Lib.hid hmm
                  clear H9 hyb cs hzz hmm
                  go_wp2
                  go_roundw
                  case rel => exact ⟨at_ + 1, _, F8, by omega, by omega, by go_num, HR.out, by have := HMM.out; omega, FIN.out⟩
                  case measure => simp [RowKit.intOf]; omega
                · have hh : at_ = 100 := by omega
                  subst hh
                  have HO := Lib.hid hH.only
                  clear hH hC
                  go_wp2
                  go_ret
                  exact ⟨rfl, HO.out⟩
end Go.Proofs.Ytoccnaebckcfmaa
end

section
set_option linter.unusedSimpArgs false
set_option linter.unusedVariables false
namespace Go.Proofs.Ytoccnaebckcfmaa
open Go.ChangeShapes Go.WideShapes Go.ChangeAt Go.RowKit


set_option maxRecDepth 100000 in
theorem cacheAborts_lifted (os : Os) (started : os.Started) (H : Type) (enc : TypeId × Value → H) :
    ReturnsInHanded {} Try.checked os 5 .any (Rows.cacheAbortsSpec.pre6 enc Try.prog Try.f5 Rows.cacheAbortsRow.domain false) (Rows.cacheAbortsSpec.post enc Try.prog Try.f5 false true false false) := by
  refine returnsInHanded_of_change (C := Try.checked) ownK started (by kernel_rfl) Try.func5
    (ChangeSpec.witness6 (enc := enc) (C := Try.checked) false ⟨#[], #[.slice none 0 0, .slice none 0 0], []⟩ 8 (by kernel_rfl) (by kernel_rfl) (by kernel_rfl) (by kernel_rfl)) ?_
  intro W base args ds gs before hval0 hW hcnd _
  have hval : ∀ (j : Nat) t v, Try.f5.params[j]? = some t → args[j]? = some v → Value.okWide Try.prog W .any base t v := hval0
  have hW' := hW
  obtain ⟨p, q, hA0, hV, rfl, hfz, hnd⟩ := hW
  have hA : DataW.TrodAll enc Try.prog W 0 (fun _ => true) true Try.f5.params.toList args.toList ds p := hA0
  rw [Try.params5] at hA hval
  obtain ⟨v0, vs0, d0, ds0, p0, q0, hargs, rfl, rfl, h0, r0⟩ := trodAll_cons hA
  obtain ⟨v1, vs1, d1, ds1, p1, q1, rfl, rfl, rfl, h1, r1⟩ := trodAll_cons r0
  obtain ⟨rfl, rfl, rfl⟩ := trodAll_nil r1
  obtain rfl : args = #[v0, v1] := by cases args; simp_all
  obtain ⟨rfl, rfl⟩ := trodVars_none hV
  obtain ⟨a0, len0, cap0, rfl⟩ := okWide_slice Try.underlying22 (hval 0 22 v0 rfl rfl)
  have k0 := h0
  have lt0 : ∀ x ∈ p0, x.block < W.heap.size := by obtain ⟨m, hm⟩ := k0; exact DataW.trod_lt m _ _ _ hm
  obtain ⟨K0, A0, M0, B0, b0⟩ : ∃ K A M B, Ops3 W a0 len0 K A M B := by
    obtain ⟨fuel, hf⟩ := h0
    exact ops3_open hf
  obtain ⟨a1, len1, cap1, rfl⟩ := okWide_slice Try.underlying22 (hval 1 22 v1 rfl rfl)
  have k1 := h1
  have lt1 : ∀ x ∈ p1, x.block < W.heap.size := by obtain ⟨m, hm⟩ := k1; exact DataW.trod_lt m _ _ _ hm
  obtain ⟨K1, A1, M1, B1, b1⟩ : ∃ K A M B, Ops3 W a1 len1 K A M B := by
    obtain ⟨fuel, hf⟩ := h1
    exact ops3_open hf
  clear hA0 hval0
  refine (aborts_any W a0 len0 cap0 K0 A0 M0 B0 a1 len1 cap1 K1 A1 M1 B1 b0 b1).mono fun e W' ⟨he, on⟩ => ?_
  subst he
  have bel : Below W.heap.size W W' := on.below (Nat.le_refl _) (by simp)
  exact ⟨_, rfl, _, _, _, [], _, [], hW', trodAll_mk1 (shut_bool Try.underlying4 _), (trodAll_cons_mk (Below.trod laidK (by kernel_rfl) (of_decide_eq_true (by kernel_rfl)) k0 bel lt0) (trodAll_cons_mk (Below.trod laidK (by kernel_rfl) (of_decide_eq_true (by kernel_rfl)) k1 bel lt1) trodAll_mk0)), rfl, bel.frame _, fun h => by cases h⟩

theorem cacheAborts_holds : Rows.CacheAbortsSaid :=
  OpenClaim.holds_of_wide 5 Try.f5 rfl rfl rfl rfl rfl rfl rfl ⟨rfl, rfl, rfl, rfl, rfl⟩ rfl rfl rfl rfl rfl (by kernel_rfl) Try.func5 (by kernel_rfl)
    (of_decide_eq_true (by kernel_rfl)) (by unfold Func.isWrapper; first | (rw [if_pos (by decide +kernel)]; kernel_rfl) | (rw [if_neg (by decide +kernel)]; exact ⟨rfl, rfl⟩))
    (fun os started H enc _ => cacheAborts_lifted os started H enc)
#print axioms cacheAborts_holds
end Go.Proofs.Ytoccnaebckcfmaa
end
