/- Proved: CacheBounds returns true for every input, and each argument reads afterwards as it read before. No condition beyond the row's own. -/
import Derived.Test.YtoccnaebckcfmaaG6
import Derived.Deep.DeepCutAuto
section
set_option linter.unusedSimpArgs false
set_option linter.unusedVariables false
namespace Go.Proofs.Ytoccnaebckcfmaa
open Go.RowKit

theorem runD_count (pin : List Int) (ex : Int) (l : List Int) : ((runD true pin l ex).1.length : Int) + (ex - (runD true pin l ex).2) = l.length := by
  refine snoc_ind (P := fun l => ((runD true pin l ex).1.length : Int) + (ex - (runD true pin l ex).2) = l.length) (by simp [runD_nil]) (fun l x ih => ?_) l
  rw [runD_snoc, stepD]
  split
  · simp; omega
  · simp; omega
theorem runD_left (pin : List Int) {ex : Int} (h : 0 ≤ ex) (l : List Int) : (runD true pin l ex).2 ≠ 0 → ∀ x ∈ (runD true pin l ex).1, x ∈ pin := by
  refine snoc_ind (P := fun l => (runD true pin l ex).2 ≠ 0 → ∀ x ∈ (runD true pin l ex).1, x ∈ pin) (by simp [runD_nil]) (fun l y ih => ?_) l
  have hb := runD_ex pin h l
  rw [runD_snoc, stepD]
  split
  · rename_i hp
    intro h1 x hx
    simp only at h1 hx
    exact ih (by intro h2; simp [pickD, evPick, h2] at hp) x hx
  · rename_i hp
    intro h1 x hx
    simp only at h1 hx
    rcases List.mem_append.1 hx with hx | hx
    · exact ih h1 x hx
    · simp at hx
      subst hx
      simpa [pickD, evPick, h1] using hp

/-- So many unpinned sectors at most, and all keys on the disk. -/
structure Bd (C : CaS) (n : Int) : Prop where
  most : C.most = n
  rng : ∀ k ∈ C.ord, k < 100
  len : (C.ord.length : Int) - C.pin.length ≤ n

theorem evict_ord {C : CaS} (ok : CaOk C) : (C.evict.ord.length : Int) ≤ max C.most C.pin.length ∧ (∀ k ∈ C.evict.ord, k ∈ C.ord) ∧ C.evict.pin = C.pin ∧ C.evict.most = C.most := by
  unfold CaS.evict
  split
  · rename_i h
    unfold excess at h
    exact ⟨by omega, fun _ h => h, rfl, rfl⟩
  · rename_i h
    have hs := runD_sub true C.pin (excess C) C.ord
    refine ⟨?_, fun k hk => hs.subset hk, rfl, rfl⟩
    simp only
    by_cases h0 : (runD true C.pin C.ord (excess C)).2 = 0
    · have := runD_count C.pin (excess C) C.ord
      unfold excess at *
      omega
    · have := runD_left C.pin (by omega) C.ord h0
      have := length_le_of_nodup (hs.nodup ok.nd) this
      omega
theorem useL_len {l : List Int} (hn : l.Nodup) (i : Int) : (useL l i).length ≤ l.length + 1 ∧ (i ∈ l → (useL l i).length ≤ l.length) := by
  constructor
  · simp only [useL, List.length_append, List.length_singleton]
    have := List.length_filter_le (fun x => decide (x ≠ i)) l
    omega
  · intro hi
    exact length_le_of_nodup (useL_nodup hn i) (fun x hx => by rcases useL_mem.1 hx with h | rfl; exact h; exact hi)
theorem Bd.evict {C : CaS} {n : Int} (ok : CaOk C) (hm : C.most = n) (hr : ∀ k ∈ C.ord, k < 100) : Bd C.evict n := by
  obtain ⟨h1, h2, h3, h4⟩ := evict_ord ok
  have := ok.m0
  exact ⟨h4.trans hm, fun k hk => hr k (h2 k hk), by rw [h3]; omega⟩
theorem Bd.begin {C : CaS} {n : Int} (h : Bd C n) (o : Bool) : Bd { C with opn := o } n := ⟨h.most, h.rng, h.len⟩
theorem Bd.committed {C : CaS} {n : Int} (ok : CaOk C) (h : Bd C n) : Bd C.committed n := Bd.evict ok.ended h.most h.rng
theorem Bd.abort {C : CaS} {n : Int} (ok : CaOk C) (h : Bd C n) : Bd C.abort n := by
  refine ⟨h.most, fun k hk => h.rng k ((List.mem_filter.1 hk).1), ?_⟩
  have h1 : (C.ord.filter (fun x => !decide (x ∈ C.pin)) ++ C.pin).length ≤ C.ord.length := by
    refine length_le_of_nodup (List.nodup_append.2 ⟨ok.nd.sublist List.filter_sublist, ok.pn, ?_⟩) ?_
    · intro a ha b hb hab
      subst hab
      have := (List.mem_filter.1 ha).2
      simp [hb] at this
    · intro x hx
      rcases List.mem_append.1 hx with hx | hx
      · exact (List.mem_filter.1 hx).1
      · exact ok.ps x hx
  have h2 := h.len
  simp only [CaS.abort, List.length_nil, List.length_append] at h1 ⊢
  omega
theorem Bd.write {C : CaS} {n i : Int} {v : Array Value} (ok : CaOk C) (h : Bd C n) (hi : i < 100) : Bd (C.write i v) n := by
  refine ⟨h.most, fun k hk => ?_, ?_⟩
  · rcases useL_mem.1 hk with hk | rfl
    · exact h.rng k hk
    · exact hi
  · have h2 := h.len
    obtain ⟨h3, h4⟩ := useL_len ok.nd i
    show ((useL C.ord i).length : Int) - (pinL C.pin i).length ≤ n
    by_cases hp : i ∈ C.pin
    · have := h4 (ok.ps i hp)
      simp only [pinL, hp, if_true]
      omega
    · simp only [pinL, hp, if_false, List.length_append, List.length_cons, List.length_nil]
      omega
theorem Bd.read {C : CaS} {S : St} {n i : Int} (ok : CaOk C) (h : Bd C n) (hm : C.miss < 1000000000) (h0 : 0 ≤ i) (hi : i < 100) (hv : SecOk (C.got S i)) : Bd (C.read S i) n := by
  unfold CaS.read
  have hr : ∀ k ∈ useL C.ord i, k < 100 := fun k hk => by
    rcases useL_mem.1 hk with hk | rfl
    · exact h.rng k hk
    · exact hi
  split
  · exact Bd.evict (ok.use h0 (by omega) hv) h.most hr
  · exact Bd.evict ((ok.missed hm).use h0 (by omega) hv) h.most hr
end Go.Proofs.Ytoccnaebckcfmaa
end

section
set_option linter.unusedSimpArgs false
set_option linter.unusedVariables false
set_option maxRecDepth 8000
namespace Go.Proofs.Ytoccnaebckcfmaa
open Go.RowKit
open Go.ChangeMaps (setBlock)

section
variable {w0 w : World} {cb d wb : Nat} {F FD : List Nat} {C : CaS} {S : St} {Rs : List Res}
theorem DAt.nowOk {b : Nat} (h : DAt w b F S) (i : Int) : SecOk ((S.now i).getD Z) := by
  obtain ⟨_, _, _, q, _⟩ := h
  exact secOk_getD q.ok.now i
theorem got_ok (ok : CaOk C) {b : Nat} (h : DAt w b F S) (i : Int) : SecOk (C.got S i) := by
  unfold CaS.got
  cases hh : C.held i with
  | none => exact h.nowOk i
  | some v => exact ok.sec i v hh
theorem has_cread4 {n : Int} (h : Has w0 w (CRes cb d wb F C :: DRes d FD S :: Rs)) (hB : Bd C n) (i : Int) (hm : C.miss < 1000000000) (hsn : S.n = 100) :
    Calls Try.prog 12 #[pp cb, .int .i64 i] w fun e w' => ∃ v F' C', e = .returned v ∧ C'.miss ≤ C.miss + 1 ∧ Bd C' n ∧ Has w0 w' (CRes cb d wb F' C' :: DRes d FD S :: Rs) := by
  have ok := h.cok
  have hg := got_ok ok h.swap.dat i
  refine (has_cread h i hm (by omega)).mono ?_
  rintro e w' (⟨hin, rb, F', rfl, hh⟩ | ⟨_, _, F', rfl, hh⟩)
  · have hi : 0 ≤ i ∧ i < 100 := by
      rcases hin with h1 | h1
      · have hmem := (ok.hd i).1 h1
        exact ⟨(ok.rg i hmem).1, hB.rng i hmem⟩
      · unfold St.reach at h1
        split at h1
        · cases h1
        · split at h1
          · cases h1
          · omega
    exact ⟨_, F', _, rfl, read_missed C S i, hB.read ok hm hi.1 hi.2 hg, hh.drop⟩
  · exact ⟨_, F', C, rfl, by omega, hB, hh⟩
theorem has_cwrite4 {n : Int} (h : Has w0 w (CRes cb d wb F C :: DRes d FD S :: Rs)) (hB : Bd C n) (hsn : S.n = 100) (i c : Int) :
    Calls Try.prog 16 #[pp cb, .int .i64 i, .slice (some ⟨w.heap.size, 0, none⟩) 64 64] (w.alloc (.cells (fullA c) 5)) fun e w' => ∃ (z : Int) (F' : List Nat) (C' : CaS), e = .returned (.int .i64 z) ∧ C'.miss = C.miss ∧ Bd C' n ∧ Has w0 w' (CRes cb d wb F' C' :: DRes d FD S :: Rs) := by
  have ok := h.cok
  refine (has_cwrite (h.alloc' (.cells (fullA c) 5)) (by omega) i (bytes_of (fullA_ok c))).mono ?_
  rintro e w' ⟨F', rfl, hh⟩
  refine ⟨_, F', _, rfl, ?_, ?_, hh⟩
  · split <;> rfl
  · split
    · rename_i hz
      refine hB.write ok ?_
      unfold wcode at hz
      split at hz
      · cases hz
      · split at hz
        · cases hz
        · omega
    · exact hB

/-- Held, beside other things. -/
def HeldP (w0 w : World) (cb d wb : Nat) (F : List Nat) (C : CaS) (Rs : List Res) (e : Ending) (w' : World) : Prop :=
  ∃ a cap, e = .returned (.slice a C.ord.length cap) ∧ IntsAt w' (.slice a C.ord.length cap) C.ord ∧ Has w0 w' (CRes cb d wb F C :: Rs) ∧ Only [] w w'
theorem has_held (h : Has w0 w (CRes cb d wb F C :: Rs)) : Calls Try.prog 24 #[pp cb] w fun e w' => HeldP w0 w cb d wb F C Rs e w' := by
  have hl := h.cok.len
  refine (held_any h.cat1).mono ?_
  rintro e w' ⟨v, rfl, hr, o⟩
  have hI := IntsAt.of hr (by omega)
  obtain ⟨a, cap, rfl, h2⟩ := hI
  exact ⟨a, cap, rfl, ⟨a, cap, rfl, h2⟩, h.later o, o⟩
theorem has_pinned (h : Has w0 w (CRes cb d wb F C :: Rs)) : Calls Try.prog 25 #[pp cb] w fun e w' => e = .returned (.int .i64 C.pin.length) ∧ w' = w := pinned_any h.cat1
end

/-- Which of 100 numbers stand on the list. -/
def flags (l : List Int) : Array Value := ((List.range 100).map (fun j : Nat => Value.bool (decide ((j : Int) ∈ l)))).toArray
theorem flags_size (l : List Int) : (flags l).size = 100 := by simp [flags]
theorem flags_at {l : List Int} {j : Nat} (h : j < 100) : (flags l)[j]? = some (.bool (decide ((j : Int) ∈ l))) := by
  simp [flags, h]
theorem flags_set {l : List Int} {j : Nat} (h : j < 100) : (flags l).setIfInBounds j (.bool true) = flags (l ++ [(j : Int)]) := by
  apply Array.ext_getElem?
  intro k
  rw [Array.getElem?_setIfInBounds]
  by_cases hk : k < 100
  · rw [flags_at hk, flags_at hk]
    by_cases hjk : j = k
    · subst hjk
      rw [if_pos rfl, if_pos (by rw [flags_size]; exact h)]
      simp
    · rw [if_neg hjk]
      have : ((k : Int) ∈ l ++ [(j : Int)]) ↔ ((k : Int) ∈ l) := by simp; omega
      simp [this]
  · rw [if_neg (by omega), Array.getElem?_eq_none (by rw [flags_size]; omega), Array.getElem?_eq_none (by rw [flags_size]; omega)]

/-- Behind i calls. -/
structure BIs (w : World) (cb d wb i : Nat) (n : Int) (wr : World) (C : CaS) (F FD : List Nat) (k : Int) (f : Int → Option (Array Value)) (g : Int) : Prop where
  bd : Bd C n
  ms : C.miss ≤ i
  k0 : 0 ≤ k
  k1 : k ≤ 2 + 200 * (i : Int)
  g0 : 0 ≤ g
  g1 : g ≤ i
  has : Has w wr (CRes cb d wb F C :: DRes d FD (quiet 100 k f) :: WRes wb d 0 40 g :: [])
def BEx (w : World) (cb d wb i : Nat) (n : Int) (wr : World) : Prop := ∃ C F FD k f g, BIs w cb d wb i n wr C F FD k f g
theorem BIs.ex {w : World} {cb d wb i : Nat} {n : Int} {wr : World} {C : CaS} {F FD : List Nat} {k : Int} {f : Int → Option (Array Value)} {g : Int} (h : BIs w cb d wb i n wr C F FD k f g) : BEx w cb d wb i n wr := ⟨C, F, FD, k, f, g, h⟩
theorem Bd.new {n : Int} (h : 0 ≤ n) : Bd (CaS.new n) n := ⟨rfl, by simp [CaS.new], by simp [CaS.new]; omega⟩

section
variable {ops : Array Oper} {rest : List Oper} {o : Oper} {a : Act} {Q : Exit → Act → World → Prop} {w : World}
/-- An array of nothing but noughts, made and stored. -/
theorem wpL_build0 {t : TypeId} {c : Array Value} (hb : ∀ w, (Instr.build t #[]).run Try.prog w = .ok (.agg c) w) (hg : o.guard = none) (ho : o.op = .build t #[])
    (h : wpList Try.prog ops Q rest (a.put o.dst (.agg c)) w) : wpList Try.prog ops Q (o :: rest) a w := by
  refine wpL_value hg ?_ h
  unfold execOp
  simp only [ho, List.map_toArray, List.map_nil, Sem.run_bind, hb w, Result.andThen_ok, Sem.run_pure]
end
theorem build51 (w : World) : (Instr.build 51 #[]).run Try.prog w = .ok (.agg (flags [])) w := by kernel_rfl
theorem zero51 (w : World) : (zeroValue 51).run Try.prog w = .ok (.agg (flags [])) w := by kernel_rfl
theorem info51 : (Try.prog.info? 51).map (·.size) = some 100 := by kernel_rfl
theorem flags_one (l : List Int) : (flags l).all (·.oneCell') = true := by
  rw [Array.all_eq_true_iff_forall_mem]; intro x hx; simp [flags] at hx; obtain ⟨j, _, rfl⟩ := hx; rfl
end Go.Proofs.Ytoccnaebckcfmaa
end

section
set_option linter.unusedSimpArgs false
set_option linter.unusedVariables false
set_option maxRecDepth 8000
namespace Go.Proofs.Ytoccnaebckcfmaa
open Go.RowKit
open Go.ChangeMaps (setBlock)

theorem IntsAt.cell {w : World} {a : Option Addr} {n cap j : Nat} {l : List Int} {x : Int} (h : IntsAt w (.slice a n cap) l) (hx : l[j]? = some x) : ∃ g, a = some ⟨g, 0, none⟩ ∧ w.cell? ⟨g, j, none⟩ = some (.int .i64 x) := by
  obtain ⟨a', cap', e, _, hc⟩ := h
  simp only [Value.slice.injEq] at e
  obtain ⟨rfl, _, _⟩ := e
  obtain ⟨g, rfl, hg⟩ := hc (fun e => by rw [e] at hx; simp at hx)
  exact ⟨g, rfl, hg j x hx⟩
theorem nodup_take {l : List Int} (h : l.Nodup) {j : Nat} {x : Int} (hx : l[j]? = some x) : x ∉ l.take j := by
  intro hm
  obtain ⟨i, hi⟩ := List.getElem?_of_mem hm
  have hlt : i < j := by
    have := (List.getElem?_eq_some_iff.1 hi).1
    simp at this; omega
  rw [List.getElem?_take_of_lt hlt] at hi
  have hl := (List.getElem?_eq_some_iff.1 hx).1
  have := (List.getElem?_inj (by omega) h).1 (hi.trans hx.symm)
  omega
theorem take_snoc {l : List Int} {j : Nat} {x : Int} (hx : l[j]? = some x) : l.take j ++ [x] = l.take (j + 1) := by rw [List.take_add_one, hx]; rfl

set_option maxHeartbeats 8000000 in
theorem bounds_any (w : World) (most : Int) (hp0 : -9223372036854775808 ≤ most) (hp1 : most ≤ 9223372036854775807) (ad : Option Addr) (len cap : Nat) (K A M B : Nat → Int) (hin : Ops3 w ad len K A M B) :
    Calls Try.prog 4 #[.int .i64 most, .slice ad len cap] w fun e w' => e = .returned (.bool true) ∧ Only [] w w' := by
  have SH := Lib.hid (shown3_any w)
  have hsm := hin.small
  have HIN := Lib.hid hin
  clear hin
  have AM := fun w1 => kind_any most 60 w1 hp0 hp1 (by omega) (by omega)
  obtain ⟨hn0, hn1⟩ := amongF_bd most 60 (by omega)
  generalize amongF most 60 = nn at *
  have AMH := Lib.hid AM
  clear AM
  go_enter Try.func4, Try.ntmps4
  go_wp2_with fail
  refine SH.out.mono ?_
  rintro e w1 ⟨rfl, o1⟩
  have G := Lib.hid (ground3_any ((Has.start w).later o1) (most := 1 + nn) (by omega) (by omega))
  clear SH o1
  go_wp2_with (go_at_call 9; refine (AMH.out _).mono ?_; rintro e w' ⟨rfl, rfl⟩)
  refine G.out.mono ?_
  rintro e w2 ⟨d, FD, wb, cb, F0, rfl, h0⟩
  have c0 : BEx w cb d wb 0 (1 + nn) w2 := BIs.ex ⟨Bd.new (by omega), by simp [CaS.new], by omega, by omega, by omega, by omega, h0⟩
  have C0 := Lib.hid c0
  clear G h0 c0 AMH
  unfold pp
  go_wp2
  go_loopw [9] (fun x wr => ∃ i : Nat, i ≤ min len 250 ∧ x = .int .i64 i ∧ BEx w cb d wb i (1 + nn) wr) (fun x _ => min len 250 - (RowKit.intOf x).toNat)
  case atStart => exact ⟨0, by omega, rfl, C0.out⟩
  case round =>
    clear C0
    rename World => wA
    obtain ⟨i, hi, rfl, C, F, FD, k, f, g', hC⟩ := hrel
    by_cases hlt : i < min len 250
    · have hil : i < len := by omega
      have hi60 : i < 250 := by omega
      obtain ⟨g, o, rfl, hg, q0, q1, q2, q3⟩ := HIN.out.each i hil
      obtain ⟨kb0, kb1⟩ := HIN.out.kb i hil
      obtain ⟨bb0, bb1⟩ := HIN.out.bb i hil
      have bl := hC.has.only.block g hg (by simp)
      have p0 := (World.cell?_of_block (w := w) (a := ⟨g, o + i * 4, none⟩) bl).trans q0
      have p1 := (World.cell?_of_block (w := w) (a := ⟨g, o + i * 4 + 1, none⟩) bl).trans q1
      have p2 := (World.cell?_of_block (w := w) (a := ⟨g, o + i * 4 + 2, none⟩) bl).trans q2
      have p3 := (World.cell?_of_block (w := w) (a := ⟨g, o + i * 4 + 3, none⟩) bl).trans q3
      have h6 := hC.has.alloc (.cells #[.int .i64 (K i), .int .i64 (A i), .int .i64 (M i), .int .u8 (B i)] 32)
      have KH := Lib.hid (fun x => kind_any (K i) 9 x kb0 kb1 (by omega) (by omega))
      have kb := amongF_bd (K i) 9 (by omega)
      have H6 := Lib.hid h6
      have hms := hC.ms
      have hk0 := hC.k0
      have hk1 := hC.k1
      have hg0 := hC.g0
      have hg1 := hC.g1
      have HBD := Lib.hid hC.bd
      clear hC bl h6 q0 q1 q2 q3
      go_wp2_with fail
      generalize wA.heap.size = go at *
      generalize wA.alloc (.cells #[.int .i64 (K i), .int .i64 (A i), .int .i64 (M i), .int .u8 (B i)] 32) = w4 at *
      clear p0 p1 p2 p3
      refine (KH.out _).mono ?_
      rintro e w' ⟨rfl, rfl⟩
      clear KH
      generalize amongF (K i) 9 = κ at *
      have hb6 : w4.heap[go]? = some (.cells #[.int .i64 (K i), .int .i64 (A i), .int .i64 (M i), .int .u8 (B i)] 32 (0, 0)) := H6.out.blk (by simp)
      have c1 : w4.cell? ⟨go, 1, none⟩ = some (.int .i64 (A i)) := by rw [cell_of_row _ _ _ _ _ _ hb6]; rfl
      have c3 : w4.cell? ⟨go, 3, none⟩ = some (.int .u8 (B i)) := by rw [cell_of_row _ _ _ _ _ _ hb6]; rfl
      have H4 := Lib.hid H6.out.drop
      clear hb6 H6
      go_upto_block 2 with fail
      go_cut [9] (fun v9 wx => v9 = .int .i64 i ∧ BEx w cb d wb (i + 1) (1 + nn) wx)
      case first =>
        obtain rfl | rfl | rfl | rfl | rfl | rfl | rfl | rfl | rfl : κ = 0 ∨ κ = 1 ∨ κ = 2 ∨ κ = 3 ∨ κ = 4 ∨ κ = 5 ∨ κ = 6 ∨ κ = 7 ∨ κ = 8 := by omega
        · as_aux_lemma =>
          have RD := Lib.hid (has_cread4 H4.out HBD.out (A i) (by omega) rfl)
          clear H4 c3
          go_wp2_with fail
          refine RD.out.mono ?_
          rintro e w6 ⟨v6, F6, C6, rfl, hm6, hb6, h6⟩
          clear RD
          have fin : BEx w cb d wb (i + 1) (1 + nn) w6 := BIs.ex (C := C6) (F := F6) (FD := FD) (k := k) (f := f) (g := g') ⟨hb6, by omega, by omega, by omega, by omega, by omega, h6⟩
          have FIN := Lib.hid fin
          clear fin h6
          go_wp2
          go_meet
          exact ⟨rfl, FIN.out⟩
        · as_aux_lemma =>
          have RD := Lib.hid (has_cread4 H4.out HBD.out (A i) (by omega) rfl)
          clear H4 c3
          go_wp2_with fail
          refine RD.out.mono ?_
          rintro e w6 ⟨v6, F6, C6, rfl, hm6, hb6, h6⟩
          clear RD
          have fin : BEx w cb d wb (i + 1) (1 + nn) w6 := BIs.ex (C := C6) (F := F6) (FD := FD) (k := k) (f := f) (g := g') ⟨hb6, by omega, by omega, by omega, by omega, by omega, h6⟩
          have FIN := Lib.hid fin
          clear fin h6
          go_wp2
          go_meet
          exact ⟨rfl, FIN.out⟩
        · as_aux_lemma =>
          have RD := Lib.hid (has_cread4 H4.out HBD.out (A i) (by omega) rfl)
          clear H4 c3
          go_wp2_with fail
          refine RD.out.mono ?_
          rintro e w6 ⟨v6, F6, C6, rfl, hm6, hb6, h6⟩
          clear RD
          have fin : BEx w cb d wb (i + 1) (1 + nn) w6 := BIs.ex (C := C6) (F := F6) (FD := FD) (k := k) (f := f) (g := g') ⟨hb6, by omega, by omega, by omega, by omega, by omega, h6⟩
          have FIN := Lib.hid fin
          clear fin h6
          go_wp2
          go_meet
          exact ⟨rfl, FIN.out⟩
        · as_aux_lemma =>
          have c1d : w4.drew.cell? ⟨go, 1, none⟩ = some (.int .i64 (A i)) := c1
          have c3d : w4.drew.cell? ⟨go, 3, none⟩ = some (.int .u8 (B i)) := c3
          have WR := Lib.hid (has_cwrite4 H4.out.drew HBD.out rfl (A i) (B i))
          clear H4 c1 c3
          go_wp2_with fail
          refine wp_region_flowR Lat [0, 0, 1, 0, 1, 2, 3] (by kernel_rfl) (by kernel_rfl) Lat.refl Lat.trans ?_
          generalize w4.drew = w5 at *
          refine fr0 (u := .pointer (some ⟨cb, 0, none⟩)) rfl (fun _ => rfl) ?_
          simp only [Act.put, List.setIfInBounds_toArray, List.set_cons_succ, List.set_cons_zero]
          refine fr0 rfl (run_field32 (k := 1) (by omega) rfl rfl) ?_
          simp only [Act.put, List.setIfInBounds_toArray, List.set_cons_succ, List.set_cons_zero]
          refine fr1 (u := .int .i64 (A i)) rfl (fun x hx => run_load1 rfl rfl (hx.cell c1d) isAgg3) ?_
          simp only [Act.put, List.setIfInBounds_toArray, List.set_cons_succ, List.set_cons_zero]
          refine fr0 rfl (run_field32 (k := 3) (by omega) rfl rfl) ?_
          simp only [Act.put, List.setIfInBounds_toArray, List.set_cons_succ, List.set_cons_zero]
          refine fr1 (u := .int .u8 (B i)) rfl (fun x hx => run_load1 rfl rfl (hx.cell c3d) isAgg5) ?_
          simp only [Act.put, List.setIfInBounds_toArray, List.set_cons_succ, List.set_cons_zero]
          refine fr2 (u := .slice (some ⟨w5.heap.size, 0, none⟩) 64 64) (w' := w5.alloc (.cells (fullA (B i)) 5)) rfl (Lat.alloc _ _) (does_full1 rfl rfl) ?_
          simp only [Act.put, List.setIfInBounds_toArray, List.set_cons_succ, List.set_cons_zero]
          refine fr3c rfl (run_enter3 Try.call16 rfl rfl rfl rfl) WR.out ?_
          rintro e w6 ⟨z6, F6, C6, rfl, hm6, hb6, h6⟩
          refine ⟨_, rfl, ?_⟩
          simp only [Act.put, List.setIfInBounds_toArray, List.set_cons_succ, List.set_cons_zero]
          refine frnil ?_
          clear WR c1d c3d
          have fin : BEx w cb d wb (i + 1) (1 + nn) w6 := BIs.ex (C := C6) (F := F6) (FD := FD) (k := k) (f := f) (g := g') ⟨hb6, by omega, by omega, by omega, by omega, by omega, h6⟩
          have FIN := Lib.hid fin
          clear fin h6
          go_wp2
          go_meet
          exact ⟨rfl, FIN.out⟩
        · as_aux_lemma =>
          have c1d : w4.drew.cell? ⟨go, 1, none⟩ = some (.int .i64 (A i)) := c1
          have c3d : w4.drew.cell? ⟨go, 3, none⟩ = some (.int .u8 (B i)) := c3
          have WR := Lib.hid (has_cwrite4 H4.out.drew HBD.out rfl (A i) (B i))
          clear H4 c1 c3
          go_wp2_with fail
          refine wp_region_flowR Lat [0, 0, 1, 0, 1, 2, 3] (by kernel_rfl) (by kernel_rfl) Lat.refl Lat.trans ?_
          generalize w4.drew = w5 at *
          refine fr0 (u := .pointer (some ⟨cb, 0, none⟩)) rfl (fun _ => rfl) ?_
          simp only [Act.put, List.setIfInBounds_toArray, List.set_cons_succ, List.set_cons_zero]
          refine fr0 rfl (run_field32 (k := 1) (by omega) rfl rfl) ?_
          simp only [Act.put, List.setIfInBounds_toArray, List.set_cons_succ, List.set_cons_zero]
          refine fr1 (u := .int .i64 (A i)) rfl (fun x hx => run_load1 rfl rfl (hx.cell c1d) isAgg3) ?_
          simp only [Act.put, List.setIfInBounds_toArray, List.set_cons_succ, List.set_cons_zero]
          refine fr0 rfl (run_field32 (k := 3) (by omega) rfl rfl) ?_
          simp only [Act.put, List.setIfInBounds_toArray, List.set_cons_succ, List.set_cons_zero]
          refine fr1 (u := .int .u8 (B i)) rfl (fun x hx => run_load1 rfl rfl (hx.cell c3d) isAgg5) ?_
          simp only [Act.put, List.setIfInBounds_toArray, List.set_cons_succ, List.set_cons_zero]
          refine fr2 (u := .slice (some ⟨w5.heap.size, 0, none⟩) 64 64) (w' := w5.alloc (.cells (fullA (B i)) 5)) rfl (Lat.alloc _ _) (does_full1 rfl rfl) ?_
          simp only [Act.put, List.setIfInBounds_toArray, List.set_cons_succ, List.set_cons_zero]
          refine fr3c rfl (run_enter3 Try.call16 rfl rfl rfl rfl) WR.out ?_
          rintro e w6 ⟨z6, F6, C6, rfl, hm6, hb6, h6⟩
          refine ⟨_, rfl, ?_⟩
          simp only [Act.put, List.setIfInBounds_toArray, List.set_cons_succ, List.set_cons_zero]
          refine frnil ?_
          clear WR c1d c3d
          have fin : BEx w cb d wb (i + 1) (1 + nn) w6 := BIs.ex (C := C6) (F := F6) (FD := FD) (k := k) (f := f) (g := g') ⟨hb6, by omega, by omega, by omega, by omega, by omega, h6⟩
          have FIN := Lib.hid fin
          clear fin h6
          go_wp2
          go_meet
          exact ⟨rfl, FIN.out⟩
        · as_aux_lemma =>
          have BG := Lib.hid (has_cbegin H4.out)
          clear H4 c1 c3
          go_wp2_with fail
          refine BG.out.mono ?_
          rintro e w6 ⟨F6, rfl, h6⟩
          clear BG
          generalize (if C.opn = true then (30 : Int) else 0) = z6 at *
          have fin : BEx w cb d wb (i + 1) (1 + nn) w6 := BIs.ex (C := { C with opn := true }) (F := F6) (FD := FD) (k := k) (f := f) (g := g') ⟨HBD.out.begin true, by simp only; omega, by omega, by omega, by omega, by omega, h6⟩
          have FIN := Lib.hid fin
          clear fin h6
          go_wp2
          go_meet
          exact ⟨rfl, FIN.out⟩
        · as_aux_lemma =>
          have ok := H4.out.cok
          have CO := Lib.hid (has_ccommit H4.out (by omega) (by omega) (by omega) hg0 (by omega) hk0 (by omega))
          clear H4 c1 c3
          go_wp2_with fail
          refine CO.out.mono ?_
          intro e w6 hpost
          rcases Or.symm hpost with ⟨hno, FD6, F6, rfl, h6⟩ | ⟨ho, gok, k6, FD6, F6, hk6, hk7, rfl, h6⟩
          · clear CO hno hpost
            generalize (if C.opn = true then (20 : Int) else 30) = z6 at *
            have fin : BEx w cb d wb (i + 1) (1 + nn) w6 := BIs.ex (C := C) (F := F6) (FD := FD6) (k := k) (f := f) (g := g') ⟨HBD.out, by omega, by omega, by omega, by omega, by omega, h6⟩
            have FIN := Lib.hid fin
            clear fin h6
            go_wp2
            go_meet
            exact ⟨rfl, FIN.out⟩
          · have hl37 : (putsC C).length ≤ 37 := by
              have := gok.1
              rw [room40] at this
              simp only [rawsOf, List.length_map] at this
              omega
            clear CO hpost
            have fin : BEx w cb d wb (i + 1) (1 + nn) w6 := BIs.ex (C := C.committed) (F := F6) (FD := FD6) (k := k6) (f := _) (g := g' + 1) ⟨HBD.out.committed ok, by rw [commit_missed]; omega, by omega, by omega, by omega, by omega, h6⟩
            have FIN := Lib.hid fin
            clear fin h6 gok hk7
            go_wp2
            go_meet
            exact ⟨rfl, FIN.out⟩
        · as_aux_lemma =>
          have ok := H4.out.cok
          have AB := Lib.hid (has_cabort H4.out)
          clear H4 c1 c3
          go_wp2_with fail
          refine AB.out.mono ?_
          rintro e w6 ⟨F6, rfl, h6⟩
          clear AB
          generalize (if C.opn = true then (0 : Int) else 30) = z6 at *
          have fin : BEx w cb d wb (i + 1) (1 + nn) w6 := BIs.ex (C := (if C.opn then C.abort else C)) (F := F6) (FD := FD) (k := k) (f := f) (g := g') ⟨by split; exact HBD.out.abort ok; exact HBD.out, by split <;> simp [CaS.abort] <;> omega, by omega, by omega, by omega, by omega, h6⟩
          have FIN := Lib.hid fin
          clear fin h6
          go_wp2
          go_meet
          exact ⟨rfl, FIN.out⟩
        · as_aux_lemma =>
          have h6 := H4.out
          clear H4 c1 c3
          have fin : BEx w cb d wb (i + 1) (1 + nn) w4 := BIs.ex (C := C) (F := F) (FD := FD) (k := k) (f := f) (g := g') ⟨HBD.out, by omega, by omega, by omega, by omega, by omega, h6⟩
          have FIN := Lib.hid fin
          clear fin h6
          go_wp2
          go_meet
          exact ⟨rfl, FIN.out⟩
      case rest =>
        as_aux_lemma =>
        clear H4 c1 c3 HBD hms hk0 hk1 hg0 hg1
        obtain ⟨rfl, C, F, FD, k, f, g', hC⟩ := hcut
        rename World => wB
        have HE := Lib.hid (has_held hC.has)
        have HC := Lib.hid hC
        clear hC
        go_wp2_with fail
        refine HE.out.mono ?_
        rintro e wC ⟨ha, hcap, rfl, hI, hH, oH⟩
        have hlen := hH.cok.len
        have hplen := hH.cok.plen
        have hbl := HC.out.bd.len
        have hnd := hH.cok.nd
        have hrg : ∀ x ∈ C.ord, 0 ≤ x ∧ x < 100 := fun x hx => ⟨(hH.cok.rg x hx).1, HC.out.bd.rng x hx⟩
        have HI := Lib.hid hI
        have HH := Lib.hid hH
        have HS := Lib.hid ((Has.start wC).alloc (.cells (flags []) 51))
        have HR := Lib.hid (And.intro hnd hrg)
        have PI := Lib.hid (has_pinned hH)
        have hll : (C.ord.length : Int) ≤ 8192 := by omega
        clear hI hH oH HE hnd hrg hlen
        go_wp2_with (first | (refine wpL_build0 build51 rfl rfl ?_) | (refine wpL_alloc0 zero51 rfl rfl ?_) | (refine wpL_store0 info51 (flags_size _) (flags_size _) (flags_one _) rfl rfl rfl rfl ?_))
        go_loopw [13] (fun y wr => ∃ j : Nat, j ≤ C.ord.length ∧ y = .int .i64 j ∧ Has wC wr [BRes wC.heap.size (.cells (flags (C.ord.take j)) 51)]) (fun y _ => C.ord.length - (RowKit.intOf y).toNat)
        case atStart => exact ⟨0, by omega, rfl, by rw [List.take_zero]; exact HS.out⟩
        case round =>
          clear HS
          obtain ⟨j, hj, rfl, hS⟩ := hrel
          by_cases hjl : j < C.ord.length
          · as_aux_lemma =>
            obtain ⟨x, hx⟩ : ∃ x, C.ord[j]? = some x := ⟨_, List.getElem?_eq_getElem hjl⟩
            obtain ⟨gh, rfl, hcl⟩ := (HI.out.only hS.only).cell hx
            obtain ⟨x0, x1⟩ := HR.out.2 x (List.mem_of_getElem? hx)
            obtain ⟨m, rfl⟩ : ∃ m : Nat, x = (m : Int) := ⟨x.toNat, by omega⟩
            have hm : m < 100 := by omega
            have hbs : wr.heap[wC.heap.size]? = some (.cells (flags (C.ord.take j)) 51 (0, 0)) := hS.blk (by simp)
            have hnot : (m : Int) ∉ C.ord.take j := nodup_take HR.out.1 hx
            have cs : wr.cell? ⟨wC.heap.size, m, none⟩ = some (.bool false) := by rw [cell_of_row _ _ _ _ _ _ hbs, flags_at hm, decide_eq_false hnot]
            have fs : wr.frozen? ⟨wC.heap.size, m, none⟩ = false := by simp [World.frozen?, hbs]
            have h7 := hS.setb m (.bool true)
            rw [flags_set hm, take_snoc hx] at h7
            have H7 := Lib.hid h7
            generalize wC.heap.size = sb at *
            clear hS hbs hnot h7 x0 x1 hx
            go_wp2
            go_roundw
            case rel => exact ⟨j + 1, by omega, by go_num, H7.out⟩
            case measure => simp [RowKit.intOf]; omega
          · have hjj : j = C.ord.length := by omega
            have HO := Lib.hid hS.only
            clear hjl hj hS
            subst hjj
            have PI := Lib.hid (has_pinned (HH.out.later HO.out))
            have fin : BEx w cb d wb (i + 1) (1 + nn) wr := BIs.ex ⟨HC.out.bd, HC.out.ms, HC.out.k0, HC.out.k1, HC.out.g0, HC.out.g1, HH.out.later HO.out⟩
            have FIN := Lib.hid fin
            clear fin HH HC HI HR HO
            unfold pp at *
            have hmx : max (1 + nn) 1 = 1 + nn := by omega
            by_cases hp0 : C.pin.length = 0
            · have hp1 : (C.ord.length : Int) ≤ 1 + nn := by omega
              rw [hp0] at PI
              go_wp2_with (go_at_call 25; refine PI.out.mono ?_; rintro e w' ⟨rfl, rfl⟩)
              go_roundw
              case rel => exact ⟨i + 1, by omega, by go_num, FIN.out⟩
              case measure => simp [RowKit.intOf]; omega
            · have hp1 : ((C.pin.length : Int) == 0) = false := beq_eq_false_iff_ne.2 (by omega)
              go_wp2_with (go_at_call 25; refine PI.out.mono ?_; rintro e w' ⟨rfl, rfl⟩)
              go_roundw
              case rel => exact ⟨i + 1, by omega, by go_num, FIN.out⟩
              case measure => simp [RowKit.intOf]; omega
    · have HO := Lib.hid hC.has.only
      clear hC
      by_cases hL : len ≤ 250
      · have hiL : i = len := by omega
        clear hlt hi
        subst hiL
        go_wp2
        go_ret
        exact ⟨rfl, HO.out⟩
      · have hiL : i = 250 := by omega
        clear hlt hi
        subst hiL
        go_wp2
        go_ret
        exact ⟨rfl, HO.out⟩
end Go.Proofs.Ytoccnaebckcfmaa
end

section
set_option linter.unusedSimpArgs false
set_option linter.unusedVariables false
namespace Go.Proofs.Ytoccnaebckcfmaa
open Go.ChangeShapes Go.WideShapes Go.ChangeAt Go.RowKit


set_option maxRecDepth 100000 in
theorem cacheBounds_lifted (os : Os) (started : os.Started) (H : Type) (enc : TypeId × Value → H) :
    ReturnsInHanded {} Try.checked os 4 .any (Rows.cacheBoundsSpec.pre6 enc Try.prog Try.f4 Rows.cacheBoundsRow.domain false) (Rows.cacheBoundsSpec.post enc Try.prog Try.f4 false true false false) := by
  refine returnsInHanded_of_change (C := Try.checked) ownK started (by kernel_rfl) Try.func4
    (ChangeSpec.witness6 (enc := enc) (C := Try.checked) false ⟨#[], #[.int .i64 0, .slice none 0 0], []⟩ 8 (by kernel_rfl) (by kernel_rfl) (by kernel_rfl) (by kernel_rfl)) ?_
  intro W base args ds gs before hval0 hW hcnd _
  have hval : ∀ (j : Nat) t v, Try.f4.params[j]? = some t → args[j]? = some v → Value.okWide Try.prog W .any base t v := hval0
  have hW' := hW
  obtain ⟨p, q, hA0, hV, rfl, hfz, hnd⟩ := hW
  have hA : DataW.TrodAll enc Try.prog W 0 (fun _ => true) true Try.f4.params.toList args.toList ds p := hA0
  rw [Try.params4] at hA hval
  obtain ⟨v0, vs0, d0, ds0, p0, q0, hargs, rfl, rfl, h0, r0⟩ := trodAll_cons hA
  obtain ⟨v1, vs1, d1, ds1, p1, q1, rfl, rfl, rfl, h1, r1⟩ := trodAll_cons r0
  obtain ⟨rfl, rfl, rfl⟩ := trodAll_nil r1
  obtain rfl : args = #[v0, v1] := by cases args; simp_all
  obtain ⟨rfl, rfl⟩ := trodVars_none hV
  obtain ⟨a0, rfl, rfl, rfl, w0⟩ := open_int Try.underlying3 (hval 0 3 v0 rfl rfl) h0
  have bd0 := bounds_i64 w0
  obtain ⟨a1, len1, cap1, rfl⟩ := okWide_slice Try.underlying22 (hval 1 22 v1 rfl rfl)
  have k1 := h1
  have lt1 : ∀ x ∈ p1, x.block < W.heap.size := by obtain ⟨m, hm⟩ := k1; exact DataW.trod_lt m _ _ _ hm
  obtain ⟨K1, A1, M1, B1, b1⟩ : ∃ K A M B, Ops3 W a1 len1 K A M B := by
    obtain ⟨fuel, hf⟩ := h1
    exact ops3_open hf
  clear hA0 hval0
  refine (bounds_any W a0 bd0.1 bd0.2 a1 len1 cap1 K1 A1 M1 B1 b1).mono fun e W' ⟨he, on⟩ => ?_
  subst he
  have bel : Below W.heap.size W W' := on.below (Nat.le_refl _) (by simp)
  exact ⟨_, rfl, _, _, _, [], _, [], hW', trodAll_mk1 (shut_bool Try.underlying4 _), (trodAll_cons_mk (shut_int Try.underlying3 w0) (trodAll_cons_mk (Below.trod laidK (by kernel_rfl) (of_decide_eq_true (by kernel_rfl)) k1 bel lt1) trodAll_mk0)), rfl, bel.frame _, fun h => by cases h⟩

theorem cacheBounds_holds : Rows.CacheBoundsSaid :=
  OpenClaim.holds_of_wide 4 Try.f4 rfl rfl rfl rfl rfl rfl rfl ⟨rfl, rfl, rfl, rfl, rfl⟩ rfl rfl rfl rfl rfl (by kernel_rfl) Try.func4 (by kernel_rfl)
    (of_decide_eq_true (by kernel_rfl)) (by unfold Func.isWrapper; first | (rw [if_pos (by decide +kernel)]; kernel_rfl) | (rw [if_neg (by decide +kernel)]; exact ⟨rfl, rfl⟩))
    (fun os started H enc _ => cacheBounds_lifted os started H enc)
#print axioms cacheBounds_holds
end Go.Proofs.Ytoccnaebckcfmaa
end
