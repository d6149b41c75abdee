/- How many sectors a cache holds: the pure part of CacheBounds. The cache's calls with the bounds kept; Held beside other things; rows of flags. The document's own disk in memory, and its calls. The document's cache in memory: its cells, its lines; find. Rows of lines: one more line, many lines; use. The document's cache: use, Begin, Pinned. The document's cache: Begin, Pinned, Abort. The document's cache: trim. -/
import Derived.Test.YtoccnaebckcfmaaG6
import Derived.Laws.MakeOwn
import Derived.Deep.DeepCutAuto
section
set_option linter.unusedSimpArgs false
set_option linter.unusedVariables false
namespace Go.Proofs.Ytoccnaebckcfmaa
open Go.RowKit

theorem runD_count (pin : List Int) (ex : Int) (l : List Int) : ((runD true pin l ex).1.length : Int) + (ex - (runD true pin l ex).2) = l.length := by
  refine snoc_ind (P := fun l => ((runD true pin l ex).1.length : Int) + (ex - (runD true pin l ex).2) = l.length) (by simp [runD_nil]) (fun l x ih => ?_) l
  rw [runD_snoc, stepD]
  split
  · simp; omega
  · simp; omega
theorem runD_left (pin : List Int) {ex : Int} (h : 0 ≤ ex) (l : List Int) : (runD true pin l ex).2 ≠ 0 → ∀ x ∈ (runD true pin l ex).1, x ∈ pin := by
  refine snoc_ind (P := fun l => (runD true pin l ex).2 ≠ 0 → ∀ x ∈ (runD true pin l ex).1, x ∈ pin) (by simp [runD_nil]) (fun l y ih => ?_) l
  have hb := runD_ex pin h l
  rw [runD_snoc, stepD]
  split
  · rename_i hp
    intro h1 x hx
    simp only at h1 hx
    exact ih (by intro h2; simp [pickD, evPick, h2] at hp) x hx
  · rename_i hp
    intro h1 x hx
    simp only at h1 hx
    rcases List.mem_append.1 hx with hx | hx
    · exact ih h1 x hx
    · simp at hx
      subst hx
      simpa [pickD, evPick, h1] using hp

/-- So many unpinned sectors at most, and all keys on the disk. -/
structure Bd (C : CaS) (n : Int) : Prop where
  most : C.most = n
  rng : ∀ k ∈ C.ord, k < 100
  len : (C.ord.length : Int) - C.pin.length ≤ n

theorem evict_ord {C : CaS} (ok : CaOk C) : (C.evict.ord.length : Int) ≤ max C.most C.pin.length ∧ (∀ k ∈ C.evict.ord, k ∈ C.ord) ∧ C.evict.pin = C.pin ∧ C.evict.most = C.most := by
  unfold CaS.evict
  split
  · rename_i h
    unfold excess at h
    exact ⟨by omega, fun _ h => h, rfl, rfl⟩
  · rename_i h
    have hs := runD_sub true C.pin (excess C) C.ord
    refine ⟨?_, fun k hk => hs.subset hk, rfl, rfl⟩
    simp only
    by_cases h0 : (runD true C.pin C.ord (excess C)).2 = 0
    · have := runD_count C.pin (excess C) C.ord
      unfold excess at *
      omega
    · have := runD_left C.pin (by omega) C.ord h0
      have := length_le_of_nodup (hs.nodup ok.nd) this
      omega
theorem useL_len {l : List Int} (hn : l.Nodup) (i : Int) : (useL l i).length ≤ l.length + 1 ∧ (i ∈ l → (useL l i).length ≤ l.length) := by
  constructor
  · simp only [useL, List.length_append, List.length_singleton]
    have := List.length_filter_le (fun x => decide (x ≠ i)) l
    omega
  · intro hi
    exact length_le_of_nodup (useL_nodup hn i) (fun x hx => by rcases useL_mem.1 hx with h | rfl; exact h; exact hi)
theorem Bd.evict {C : CaS} {n : Int} (ok : CaOk C) (hm : C.most = n) (hr : ∀ k ∈ C.ord, k < 100) : Bd C.evict n := by
  obtain ⟨h1, h2, h3, h4⟩ := evict_ord ok
  have := ok.m0
  exact ⟨h4.trans hm, fun k hk => hr k (h2 k hk), by rw [h3]; omega⟩
theorem Bd.begin {C : CaS} {n : Int} (h : Bd C n) (o : Bool) : Bd { C with opn := o } n := ⟨h.most, h.rng, h.len⟩
theorem Bd.committed {C : CaS} {n : Int} (ok : CaOk C) (h : Bd C n) : Bd C.committed n := Bd.evict ok.ended h.most h.rng
theorem Bd.abort {C : CaS} {n : Int} (ok : CaOk C) (h : Bd C n) : Bd C.abort n := by
  refine ⟨h.most, fun k hk => h.rng k ((List.mem_filter.1 hk).1), ?_⟩
  have h1 : (C.ord.filter (fun x => !decide (x ∈ C.pin)) ++ C.pin).length ≤ C.ord.length := by
    refine length_le_of_nodup (List.nodup_append.2 ⟨ok.nd.sublist List.filter_sublist, ok.pn, ?_⟩) ?_
    · intro a ha b hb hab
      subst hab
      have := (List.mem_filter.1 ha).2
      simp [hb] at this
    · intro x hx
      rcases List.mem_append.1 hx with hx | hx
      · exact (List.mem_filter.1 hx).1
      · exact ok.ps x hx
  have h2 := h.len
  simp only [CaS.abort, List.length_nil, List.length_append] at h1 ⊢
  omega
theorem Bd.write {C : CaS} {n i : Int} {v : Array Value} (ok : CaOk C) (h : Bd C n) (hi : i < 100) : Bd (C.write i v) n := by
  refine ⟨h.most, fun k hk => ?_, ?_⟩
  · rcases useL_mem.1 hk with hk | rfl
    · exact h.rng k hk
    · exact hi
  · have h2 := h.len
    obtain ⟨h3, h4⟩ := useL_len ok.nd i
    show ((useL C.ord i).length : Int) - (pinL C.pin i).length ≤ n
    by_cases hp : i ∈ C.pin
    · have := h4 (ok.ps i hp)
      simp only [pinL, hp, if_true]
      omega
    · simp only [pinL, hp, if_false, List.length_append, List.length_cons, List.length_nil]
      omega
theorem Bd.read {C : CaS} {S : St} {n i : Int} (ok : CaOk C) (h : Bd C n) (hm : C.miss < 1000000000) (h0 : 0 ≤ i) (hi : i < 100) (hv : SecOk (C.got S i)) : Bd (C.read S i) n := by
  unfold CaS.read
  have hr : ∀ k ∈ useL C.ord i, k < 100 := fun k hk => by
    rcases useL_mem.1 hk with hk | rfl
    · exact h.rng k hk
    · exact hi
  split
  · exact Bd.evict (ok.use h0 (by omega) hv) h.most hr
  · exact Bd.evict ((ok.missed hm).use h0 (by omega) hv) h.most hr
end Go.Proofs.Ytoccnaebckcfmaa
end

section
set_option linter.unusedSimpArgs false
set_option linter.unusedVariables false
set_option maxRecDepth 8000
namespace Go.Proofs.Ytoccnaebckcfmaa
open Go.RowKit
open Go.ChangeMaps (setBlock)

section
variable {w0 w : World} {cb d wb : Nat} {F FD : List Nat} {C : CaS} {S : St} {Rs : List Res}
theorem DAt.nowOk {b : Nat} (h : DAt w b F S) (i : Int) : SecOk ((S.now i).getD Z) := by
  obtain ⟨_, _, _, q, _⟩ := h
  exact secOk_getD q.ok.now i
theorem got_ok (ok : CaOk C) {b : Nat} (h : DAt w b F S) (i : Int) : SecOk (C.got S i) := by
  unfold CaS.got
  cases hh : C.held i with
  | none => exact h.nowOk i
  | some v => exact ok.sec i v hh
theorem has_cread4 {n : Int} (h : Has w0 w (CRes cb d wb F C :: DRes d FD S :: Rs)) (hB : Bd C n) (i : Int) (hm : C.miss < 1000000000) (hsn : S.n = 100) :
    Calls Try.prog 12 #[pp cb, .int .i64 i] w fun e w' => ∃ v F' C', e = .returned v ∧ C'.miss ≤ C.miss + 1 ∧ Bd C' n ∧ Has w0 w' (CRes cb d wb F' C' :: DRes d FD S :: Rs) := by
  have ok := h.cok
  have hg := got_ok ok h.swap.dat i
  refine (has_cread h i hm (by omega)).mono ?_
  rintro e w' (⟨hin, rb, F', rfl, hh⟩ | ⟨_, _, F', rfl, hh⟩)
  · have hi : 0 ≤ i ∧ i < 100 := by
      rcases hin with h1 | h1
      · have hmem := (ok.hd i).1 h1
        exact ⟨(ok.rg i hmem).1, hB.rng i hmem⟩
      · unfold St.reach at h1
        split at h1
        · cases h1
        · split at h1
          · cases h1
          · omega
    exact ⟨_, F', _, rfl, read_missed C S i, hB.read ok hm hi.1 hi.2 hg, hh.drop⟩
  · exact ⟨_, F', C, rfl, by omega, hB, hh⟩
theorem has_cwrite4 {n : Int} (h : Has w0 w (CRes cb d wb F C :: DRes d FD S :: Rs)) (hB : Bd C n) (hsn : S.n = 100) (i c : Int) :
    Calls Try.prog 16 #[pp cb, .int .i64 i, .slice (some ⟨w.heap.size, 0, none⟩) 64 64] (w.alloc (.cells (fullA c) 5)) fun e w' => ∃ (z : Int) (F' : List Nat) (C' : CaS), e = .returned (.int .i64 z) ∧ C'.miss = C.miss ∧ Bd C' n ∧ Has w0 w' (CRes cb d wb F' C' :: DRes d FD S :: Rs) := by
  have ok := h.cok
  refine (has_cwrite (h.alloc' (.cells (fullA c) 5)) (by omega) i (bytes_of (fullA_ok c))).mono ?_
  rintro e w' ⟨F', rfl, hh⟩
  refine ⟨_, F', _, rfl, ?_, ?_, hh⟩
  · split <;> rfl
  · split
    · rename_i hz
      refine hB.write ok ?_
      unfold wcode at hz
      split at hz
      · cases hz
      · split at hz
        · cases hz
        · omega
    · exact hB

/-- Held, beside other things. -/
def HeldP (w0 w : World) (cb d wb : Nat) (F : List Nat) (C : CaS) (Rs : List Res) (e : Ending) (w' : World) : Prop :=
  ∃ a cap, e = .returned (.slice a C.ord.length cap) ∧ IntsAt w' (.slice a C.ord.length cap) C.ord ∧ Has w0 w' (CRes cb d wb F C :: Rs) ∧ Only [] w w'
theorem has_held (h : Has w0 w (CRes cb d wb F C :: Rs)) : Calls Try.prog 24 #[pp cb] w fun e w' => HeldP w0 w cb d wb F C Rs e w' := by
  have hl := h.cok.len
  refine (held_any h.cat1).mono ?_
  rintro e w' ⟨v, rfl, hr, o⟩
  have hI := IntsAt.of hr (by omega)
  obtain ⟨a, cap, rfl, h2⟩ := hI
  exact ⟨a, cap, rfl, ⟨a, cap, rfl, h2⟩, h.later o, o⟩
theorem has_pinned (h : Has w0 w (CRes cb d wb F C :: Rs)) : Calls Try.prog 25 #[pp cb] w fun e w' => e = .returned (.int .i64 C.pin.length) ∧ w' = w := pinned_any h.cat1
end

/-- Which of 100 numbers stand on the list. -/
def flags (l : List Int) : Array Value := ((List.range 100).map (fun j : Nat => Value.bool (decide ((j : Int) ∈ l)))).toArray
theorem flags_size (l : List Int) : (flags l).size = 100 := by simp [flags]
theorem flags_at {l : List Int} {j : Nat} (h : j < 100) : (flags l)[j]? = some (.bool (decide ((j : Int) ∈ l))) := by
  simp [flags, h]
theorem flags_set {l : List Int} {j : Nat} (h : j < 100) : (flags l).setIfInBounds j (.bool true) = flags (l ++ [(j : Int)]) := by
  apply Array.ext_getElem?
  intro k
  rw [Array.getElem?_setIfInBounds]
  by_cases hk : k < 100
  · rw [flags_at hk, flags_at hk]
    by_cases hjk : j = k
    · subst hjk
      rw [if_pos rfl, if_pos (by rw [flags_size]; exact h)]
      simp
    · rw [if_neg hjk]
      have : ((k : Int) ∈ l ++ [(j : Int)]) ↔ ((k : Int) ∈ l) := by simp; omega
      simp [this]
  · rw [if_neg (by omega), Array.getElem?_eq_none (by rw [flags_size]; omega), Array.getElem?_eq_none (by rw [flags_size]; omega)]

/-- Behind i calls. -/
structure BIs (w : World) (cb d wb i : Nat) (n : Int) (wr : World) (C : CaS) (F FD : List Nat) (k : Int) (f : Int → Option (Array Value)) (g : Int) : Prop where
  bd : Bd C n
  ms : C.miss ≤ i
  k0 : 0 ≤ k
  k1 : k ≤ 2 + 200 * (i : Int)
  g0 : 0 ≤ g
  g1 : g ≤ i
  has : Has w wr (CRes cb d wb F C :: DRes d FD (quiet 100 k f) :: WRes wb d 0 40 g :: [])
def BEx (w : World) (cb d wb i : Nat) (n : Int) (wr : World) : Prop := ∃ C F FD k f g, BIs w cb d wb i n wr C F FD k f g
theorem BIs.ex {w : World} {cb d wb i : Nat} {n : Int} {wr : World} {C : CaS} {F FD : List Nat} {k : Int} {f : Int → Option (Array Value)} {g : Int} (h : BIs w cb d wb i n wr C F FD k f g) : BEx w cb d wb i n wr := ⟨C, F, FD, k, f, g, h⟩
theorem Bd.new {n : Int} (h : 0 ≤ n) : Bd (CaS.new n) n := ⟨rfl, by simp [CaS.new], by simp [CaS.new]; omega⟩

section
variable {ops : Array Oper} {rest : List Oper} {o : Oper} {a : Act} {Q : Exit → Act → World → Prop} {w : World}
/-- An array of nothing but noughts, made and stored. -/
theorem wpL_build0 {t : TypeId} {c : Array Value} (hb : ∀ w, (Instr.build t #[]).run Try.prog w = .ok (.agg c) w) (hg : o.guard = none) (ho : o.op = .build t #[])
    (h : wpList Try.prog ops Q rest (a.put o.dst (.agg c)) w) : wpList Try.prog ops Q (o :: rest) a w := by
  refine wpL_value hg ?_ h
  unfold execOp
  simp only [ho, List.map_toArray, List.map_nil, Sem.run_bind, hb w, Result.andThen_ok, Sem.run_pure]
end
theorem build51 (w : World) : (Instr.build 51 #[]).run Try.prog w = .ok (.agg (flags [])) w := by kernel_rfl
theorem zero51 (w : World) : (zeroValue 51).run Try.prog w = .ok (.agg (flags [])) w := by kernel_rfl
theorem info51 : (Try.prog.info? 51).map (·.size) = some 100 := by kernel_rfl
theorem flags_one (l : List Int) : (flags l).all (·.oneCell') = true := by
  rw [Array.all_eq_true_iff_forall_mem]; intro x hx; simp [flags] at hx; obtain ⟨j, _, rfl⟩ := hx; rfl
end Go.Proofs.Ytoccnaebckcfmaa
end

section
set_option linter.unusedSimpArgs false
set_option linter.unusedVariables false
set_option maxRecDepth 8000
namespace Go.Proofs.Ytoccnaebckcfmaa.Ref
open Go.RowKit Go.Proofs.Ytoccnaebckcfmaa
open Go.ChangeMaps (setBlock)

/-! R1 -/


structure RS where
  n : Nat
  B : Int → Option (Array Value)
  L : List (Int × Array Value)
  off : Bool
  burns : Bool
  left : Int
  N : Int

/-- A slice of 64 equal bytes. -/
def BytesIs (w : World) (G : List Nat) (sv : Value) (v : Array Value) : Prop :=
  ∃ g cap c, sv = .slice (some ⟨g, 0, none⟩) 64 cap ∧ g ∈ G ∧ v = fullA c ∧ ∀ j, j < 64 → w.cell? ⟨g, j, none⟩ = some (.int .u8 c)
def SecIs (w : World) (G : List Nat) (sv : Value) (o : Option (Array Value)) : Prop := (o = none ∧ sv = .slice none 0 0) ∨ ∃ v, o = some v ∧ BytesIs w G sv v
def BAt (w : World) (G : List Nat) (bv : Value) (n : Nat) (B : Int → Option (Array Value)) : Prop :=
  ∃ g cap, bv = .slice (some ⟨g, 0, none⟩) n cap ∧ g ∈ G ∧ ∀ i : Nat, i < n → ∃ sv, w.cell? ⟨g, i, none⟩ = some sv ∧ SecIs w G sv (B i)
def PutIs (w : World) (G : List Nat) (g k : Nat) (p : Int × Array Value) : Prop :=
  w.cell? ⟨g, k * 2, none⟩ = some (.int .i64 p.1) ∧ ∃ sv, w.cell? ⟨g, k * 2 + 1, none⟩ = some sv ∧ BytesIs w G sv p.2
def LAt (w : World) (G : List Nat) (lv : Value) (L : List (Int × Array Value)) : Prop :=
  (lv = .slice none 0 0 ∧ L = []) ∨ ∃ g cap, lv = .slice (some ⟨g, 0, none⟩) L.length cap ∧ g ∈ G ∧ ∀ k p, L[k]? = some p → PutIs w G g k p

structure ROk (R : RS) : Prop where
  n1 : 1 ≤ R.n
  n2 : R.n ≤ 8192
  at' : ∀ p ∈ R.L, 0 ≤ p.1 ∧ p.1 < R.n
  left0 : R.burns = true → 0 ≤ R.left ∧ R.left ≤ 9223372036854775807
  N0 : 0 ≤ R.N

def rrow (R : RS) (bv lv : Value) : Array Value := #[bv, lv, .bool R.off, .bool R.burns, .int .i64 R.left, .int .i64 R.N]

structure RefAt (w : World) (r : Nat) (bv lv : Value) (G : List Nat) (R : RS) : Prop where
  row : w.heap[r]? = some (.cells (rrow R bv lv) 81 (0, 0))
  b : BAt w G bv R.n R.B
  l : LAt w G lv R.L
  out : r ∉ G
  lt : ∀ x ∈ G, x < w.heap.size
  ok : ROk R
def RAt (w : World) (r : Nat) (G : List Nat) (R : RS) : Prop := ∃ bv lv, RefAt w r bv lv G R
def RPost (w w' : World) (r : Nat) (G : List Nat) (R' : RS) : Prop := ∃ G', RAt w' r G' R' ∧ (∀ x ∈ G, x ∈ G') ∧ (∀ x ∈ G', x ∈ G ∨ w.heap.size ≤ x) ∧ Only [r] w w'

section
variable {w w' : World} {G G' : List Nat}
theorem BytesIs.to {sv : Value} {v : Array Value} (h : BytesIs w G sv v) (he : ∀ x ∈ G, w'.heap[x]? = w.heap[x]?) (hG : ∀ x ∈ G, x ∈ G') : BytesIs w' G' sv v := by
  obtain ⟨g, cap, c, h1, h2, h3, h4⟩ := h
  exact ⟨g, cap, c, h1, hG g h2, h3, fun j hj => (World.cell?_of_block (w := w) (he g h2)).trans (h4 j hj)⟩
theorem SecIs.to {sv : Value} {o : Option (Array Value)} (h : SecIs w G sv o) (he : ∀ x ∈ G, w'.heap[x]? = w.heap[x]?) (hG : ∀ x ∈ G, x ∈ G') : SecIs w' G' sv o := by
  rcases h with h | ⟨v, h1, h2⟩
  · exact .inl h
  · exact .inr ⟨v, h1, h2.to he hG⟩
theorem BAt.to {bv : Value} {n : Nat} {B : Int → Option (Array Value)} (h : BAt w G bv n B) (he : ∀ x ∈ G, w'.heap[x]? = w.heap[x]?) (hG : ∀ x ∈ G, x ∈ G') : BAt w' G' bv n B := by
  obtain ⟨g, cap, h1, h2, h3⟩ := h
  refine ⟨g, cap, h1, hG g h2, fun i hi => ?_⟩
  obtain ⟨sv, h4, h5⟩ := h3 i hi
  exact ⟨sv, (World.cell?_of_block (w := w) (he g h2)).trans h4, h5.to he hG⟩
theorem PutIs.to {g k : Nat} {p : Int × Array Value} (h : PutIs w G g k p) (hg : g ∈ G) (he : ∀ x ∈ G, w'.heap[x]? = w.heap[x]?) (hG : ∀ x ∈ G, x ∈ G') : PutIs w' G' g k p := by
  obtain ⟨h1, sv, h2, h3⟩ := h
  exact ⟨(World.cell?_of_block (w := w) (he g hg)).trans h1, sv, (World.cell?_of_block (w := w) (he g hg)).trans h2, h3.to he hG⟩
theorem LAt.to {lv : Value} {L : List (Int × Array Value)} (h : LAt w G lv L) (he : ∀ x ∈ G, w'.heap[x]? = w.heap[x]?) (hG : ∀ x ∈ G, x ∈ G') : LAt w' G' lv L := by
  rcases h with h | ⟨g, cap, h1, h2, h3⟩
  · exact .inl h
  · exact .inr ⟨g, cap, h1, hG g h2, fun k p hp => (h3 k p hp).to h2 he hG⟩
theorem lt_of_same {x : Nat} (h : x < w.heap.size) (he : w'.heap[x]? = w.heap[x]?) : x < w'.heap.size := by
  rw [Array.getElem?_eq_getElem h] at he
  exact (Array.getElem?_eq_some_iff.1 he).1
theorem RAt.to {r : Nat} {R : RS} (h : RAt w r G R) (he : ∀ x ∈ r :: G, w'.heap[x]? = w.heap[x]?) (hG : ∀ x ∈ G, x ∈ G') (hr : r ∉ G') (hl : ∀ x ∈ G', x < w'.heap.size) : RAt w' r G' R := by
  obtain ⟨bv, lv, h⟩ := h
  exact ⟨bv, lv, (he r (by simp)).trans h.row, h.b.to (fun x hx => he x (by simp [hx])) hG, h.l.to (fun x hx => he x (by simp [hx])) hG, hr, hl, h.ok⟩
theorem RAt.congr {r : Nat} {R : RS} (h : RAt w r G R) (he : ∀ x ∈ r :: G, w'.heap[x]? = w.heap[x]?) : RAt w' r G R := by
  obtain ⟨bv, lv, h'⟩ := h
  exact RAt.to ⟨bv, lv, h'⟩ he (fun x hx => hx) h'.out (fun x hx => lt_of_same (h'.lt x hx) (he x (by simp [hx])))
theorem RAt.lt {r : Nat} {R : RS} (h : RAt w r G R) : ∀ x ∈ r :: G, x < w.heap.size := by
  obtain ⟨bv, lv, h⟩ := h
  intro x hx
  rcases List.mem_cons.1 hx with rfl | hx
  · exact (Array.getElem?_eq_some_iff.1 h.row).1
  · exact h.lt x hx

/-- The six cells, for a walk. -/
theorem RefAt.cells {r : Nat} {bv lv : Value} {R : RS} (h : RefAt w r bv lv G R) :
    w.cell? ⟨r, 0, none⟩ = some bv ∧ w.cell? ⟨r, 1, none⟩ = some lv ∧ w.cell? ⟨r, 2, none⟩ = some (.bool R.off) ∧ w.cell? ⟨r, 3, none⟩ = some (.bool R.burns) ∧
    w.cell? ⟨r, 4, none⟩ = some (.int .i64 R.left) ∧ w.cell? ⟨r, 5, none⟩ = some (.int .i64 R.N) ∧ (∀ i, w.frozen? ⟨r, i, none⟩ = false) := by
  have hr := h.row
  refine ⟨?_, ?_, ?_, ?_, ?_, ?_, ?_⟩
  all_goals first
    | (rw [cell_of_row w r _ _ _ _ hr]; rfl)
    | (intro i; simp [World.frozen?, hr])

/-- Only numbers and flags have changed. -/
theorem RefAt.scalar {r : Nat} {bv lv : Value} {R R' : RS} (h : RefAt w r bv lv G R) (hrow : w'.heap[r]? = some (.cells (rrow R' bv lv) 81 (0, 0))) (ho : Only [r] w w') (e0 : R'.n = R.n) (e1 : R'.B = R.B) (e2 : R'.L = R.L) (ok : ROk R') : RPost w w' r G R' := by
  have he : ∀ x ∈ G, w'.heap[x]? = w.heap[x]? := fun x hx => ho.block x (h.lt x hx) (fun hx' => h.out (by simp at hx'; subst hx'; exact hx))
  refine ⟨G, ⟨bv, lv, hrow, ?_, ?_, h.out, fun x hx => Nat.lt_of_lt_of_le (h.lt x hx) ho.size, ok⟩, fun x hx => hx, fun x hx => .inl hx, ho⟩
  · rw [e0, e1]; exact h.b.to he (fun x hx => hx)
  · rw [e2]; exact h.l.to he (fun x hx => hx)
end

def RS.stepped (R : RS) : RS := { R with left := if R.burns then R.left - 1 else R.left, N := R.N + 1 }
def RS.fallen (R : RS) : RS := { R with off := true, burns := false }
def RS.falls (R : RS) : Prop := R.burns = true ∧ R.left = 0

set_option maxHeartbeats 400000 in
theorem rstep_zero {w : World} {r : Nat} {G : List Nat} {R : RS} (h : RAt w r G R) (hf : R.falls) :
    Calls Try.prog 76 #[.pointer (some ⟨r, 0, none⟩)] w fun e w' => e = .returned (.bool false) ∧ RPost w w' r G R.fallen := by
  obtain ⟨bv, lv, h⟩ := h
  obtain ⟨c0, c1, c2, c3, c4, c5, fz⟩ := h.cells
  rw [hf.1] at c3
  rw [hf.2] at c4
  have H := Lib.hid h
  clear h hf
  go_enter Try.func76, Try.ntmps76
  go_wp2
  go_ret
  have h := H.out
  have ho : Only [r] w ((w.setCell ⟨r, 2, none⟩ (.bool true)).setCell ⟨r, 3, none⟩ (.bool false)) := ((Only.refl _ w).setCell (by simp) _).setCell (by simp) _
  refine ⟨rfl, h.scalar (R' := R.fallen) ?_ ho rfl rfl rfl ⟨h.ok.n1, h.ok.n2, h.ok.at', by simp [RS.fallen], h.ok.N0⟩⟩
  rw [heap_setCell_row (heap_setCell_row h.row _ _)]
  rfl

set_option maxHeartbeats 400000 in
theorem rstep_ok {w : World} {r : Nat} {G : List Nat} {R : RS} (h : RAt w r G R) (hf : ¬ R.falls) (hs : R.N < 1000000000) :
    Calls Try.prog 76 #[.pointer (some ⟨r, 0, none⟩)] w fun e w' => e = .returned (.bool true) ∧ RPost w w' r G R.stepped := by
  obtain ⟨bv, lv, h⟩ := h
  obtain ⟨c0, c1, c2, c3, c4, c5, fz⟩ := h.cells
  have N0 := h.ok.N0
  have l0 := h.ok.left0
  have H := Lib.hid h
  clear h
  cases hb : R.burns with
  | true =>
    rw [hb] at c3
    have hl : ¬ R.left = 0 := fun e => hf ⟨hb, e⟩
    obtain ⟨l1, l2⟩ := l0 hb
    have hz : (R.left == 0) = false := by simpa using hl
    have HB := Lib.hid hb
    clear hf hb
    go_enter Try.func76, Try.ntmps76
    go_wp2
    go_ret
    have h := H.out
    have ho : Only [r] w ((w.setCell ⟨r, 4, none⟩ (.int .i64 (R.left - 1))).setCell ⟨r, 5, none⟩ (.int .i64 (R.N + 1))) := ((Only.refl _ w).setCell (by simp) _).setCell (by simp) _
    refine ⟨rfl, h.scalar (R' := R.stepped) ?_ ho rfl rfl rfl ⟨h.ok.n1, h.ok.n2, h.ok.at', ?_, ?_⟩⟩
    · rw [heap_setCell_row (heap_setCell_row h.row _ _)]
      simp only [rrow, RS.stepped, HB.out, if_true]
      rfl
    · intro _
      simp only [RS.stepped, HB.out, if_true]
      omega
    · simp only [RS.stepped]; omega
  | false =>
    rw [hb] at c3
    have HB := Lib.hid hb
    clear hf hb l0
    go_enter Try.func76, Try.ntmps76
    go_wp2
    go_ret
    have h := H.out
    have ho : Only [r] w (w.setCell ⟨r, 5, none⟩ (.int .i64 (R.N + 1))) := (Only.refl _ w).setCell (by simp) _
    refine ⟨rfl, h.scalar (R' := R.stepped) ?_ ho rfl rfl rfl ⟨h.ok.n1, h.ok.n2, h.ok.at', ?_, ?_⟩⟩
    · rw [heap_setCell_row h.row _ _]
      simp only [rrow, RS.stepped, HB.out, Bool.false_eq_true, if_false]
      rfl
    · intro hb'
      simp only [RS.stepped, HB.out] at hb'
      cases hb'
    · simp only [RS.stepped]; omega

theorem info37 : (Try.prog.info? 34).map (fun i => (i.zero, i.size, i.bytes)) = some (some (.slice none 0 0), 1, 24) := by kernel_rfl

def RS.new (n : Nat) : RS := ⟨n, fun _ => none, [], false, false, 0, 0⟩

set_option maxHeartbeats 400000 in
theorem rnew_no (w : World) (n : Int) (h : n < 1 ∨ 8192 < n) :
    Calls Try.prog 37 #[.int .i64 n] w fun e w' => e = .returned (.tuple #[.pointer none, .int .i64 1]) ∧ w = w' := by
  rcases h with h | h
  · go_enter Try.func37, Try.ntmps37
    go_wp2
    go_ret2
    exact ⟨rfl, rfl⟩
  · have h' : ¬ n < 1 := by omega
    go_enter Try.func37, Try.ntmps37
    go_wp2
    go_ret2
    exact ⟨rfl, rfl⟩

theorem make59 (n : Nat) (h2 : n ≤ 8192) (w : World) : (Instr.makeSlice 78 (.int .i64 n) (.int .i64 n)).run Try.prog w = .ok (.slice (some ⟨w.heap.size, 0, none⟩) n n) (w.alloc (.cells (madeCells #[.slice none 0 0] n) 34)) := by
  obtain ⟨i0, hi, hz0, hz1, hz2⟩ := info_parts info37
  have := run_makeSlice (P := Try.prog) w 78 34 i0 _ Try.underlying78 hi hz0 .i64 .i64 n n (by omega) (Int.le_refl _) (by rw [hz1, Int.toNat_natCast]; omega) (by rw [hz2]; omega) (by omega)
  rw [hz1, Int.toNat_natCast, Nat.mul_one] at this
  exact this

set_option maxHeartbeats 400000 in
theorem rnew_ok (w : World) (n : Nat) (h1 : 1 ≤ n) (h2 : n ≤ 8192) :
    Calls Try.prog 37 #[.int .i64 n] w fun e w' => e = .returned (.tuple #[.pointer (some ⟨w.heap.size + 1, 0, none⟩), .int .i64 0]) ∧ RAt w' (w.heap.size + 1) [w.heap.size] (RS.new n) ∧ Only [] w w' := by
  have hmk := make59 n h2
  have H1 := Lib.hid h1
  go_enter Try.func37, Try.ntmps37
  go_wp2
  go_ret2
  have ho : Only [] w ((w.alloc (.cells (madeCells #[.slice none 0 0] n) 34)).alloc (.cells (rrow (RS.new n) (.slice (some ⟨w.heap.size, 0, none⟩) n n) (.slice none 0 0)) 81)) := ((Only.refl [] w).alloc _).alloc _
  have hrow := heap_alloc_last (w.alloc (.cells (madeCells #[.slice none 0 0] n) 34)) (.cells (rrow (RS.new n) (.slice (some ⟨w.heap.size, 0, none⟩) n n) (.slice none 0 0)) 81)
  rw [World.size_alloc] at hrow
  have hb := (Below.heap_alloc _ (.cells (rrow (RS.new n) (.slice (some ⟨w.heap.size, 0, none⟩) n n) (.slice none 0 0)) 81) w.heap.size (by simp)).trans (heap_alloc_last w (.cells (madeCells #[.slice none 0 0] n) 34))
  refine ⟨rfl, ⟨_, _, hrow, ⟨_, _, rfl, by simp, fun i hi => ⟨.slice none 0 0, ?_, .inl ⟨rfl, rfl⟩⟩⟩, .inl ⟨rfl, rfl⟩, by simp, by simp; omega, ⟨H1.out, h2, by simp [RS.new], by simp [RS.new], by simp [RS.new]⟩⟩, ho⟩
  refine (cell_of_row _ _ _ _ _ _ hb).trans ?_
  simp only [RS.new] at hi
  simp [madeCells, hi, Nat.mod_one]

/-! R2 -/


/-- The writes of a row, done one behind the other. -/
def replay (B : Int → Option (Array Value)) (l : List (Int × Array Value)) : Int → Option (Array Value) := l.foldl (fun f p => updF f p.1 p.2) B
theorem replay_take {B : Int → Option (Array Value)} {l : List (Int × Array Value)} {k : Nat} {p : Int × Array Value} (h : l[k]? = some p) : replay B (l.take (k + 1)) = updF (replay B (l.take k)) p.1 p.2 := by
  unfold replay
  rw [List.take_add_one, h, Option.toList_some, List.foldl_append]
  rfl

def RS.reach (R : RS) (i : Int) : Int := if R.off = true then 2 else if i < 0 ∨ (R.n : Int) ≤ i then 10 else 0

set_option maxHeartbeats 400000 in
theorem rread_no {w : World} {r : Nat} {G : List Nat} {R : RS} (h : RAt w r G R) (i : Int) (hr : R.reach i ≠ 0) :
    Calls Try.prog 42 #[.pointer (some ⟨r, 0, none⟩), .int .i64 i] w fun e w' => e = .returned (.tuple #[.slice none 0 0, .int .i64 (R.reach i)]) ∧ w = w' := by
  obtain ⟨bv, lv, h⟩ := h
  obtain ⟨c0, c1, c2, c3, c4, c5, fz⟩ := h.cells
  obtain ⟨g, cap, rfl, _⟩ := h.b
  clear h
  cases hb : R.off with
  | true =>
    rw [hb] at c2
    have e : R.reach i = 2 := by simp [RS.reach, hb]
    rw [e]
    clear hr hb e
    go_enter Try.func42, Try.ntmps42
    go_wp2
    go_ret2
    exact ⟨rfl, rfl⟩
  | false =>
    rw [hb] at c2
    by_cases h1 : i < 0
    · have e : R.reach i = 10 := by simp [RS.reach, hb, h1]
      rw [e]
      clear hr hb e
      go_enter Try.func42, Try.ntmps42
      go_wp2
      go_ret2
      exact ⟨rfl, rfl⟩
    · by_cases h2 : (R.n : Int) ≤ i
      · have e : R.reach i = 10 := by simp [RS.reach, hb, h2]
        rw [e]
        clear hr hb e
        go_enter Try.func42, Try.ntmps42
        go_wp2
        go_ret2
        exact ⟨rfl, rfl⟩
      · exact absurd (by simp [RS.reach, hb, h1, h2]) hr

section
variable {ops : Array Oper} {rest : List Oper} {o : Oper} {a : Act} {Q : Exit → Act → World → Prop} {w : World} {G : List Nat}
/-- 'copy(b, s)' into the row of 64 bytes that was made last. -/
theorem wpL_copy5 {c : Int} {x y : Operand} {sv : Value} {q : Option (Array Value)} (hg : o.guard = none) (ho : o.op = .call { callee := .builtin .copy, args := #[x, y], argTypes := #[34, 34] })
    (hx : a.eval x = .slice (some ⟨w.heap.size, 0, none⟩) 64 64) (hy : a.eval y = sv) (hs : SecIs w G sv q) (hG : ∀ x ∈ G, x < w.heap.size)
    (h : ∀ u c', q.getD (fullA c) = fullA c' → wpList Try.prog ops Q rest (a.put o.dst u) (w.alloc (.cells (fullA c') 5))) : wpList Try.prog ops Q (o :: rest) a (w.alloc (.cells (fullA c) 5)) := by
  rcases hs with ⟨rfl, rfl⟩ | ⟨v, rfl, g, cap, c', rfl, hg', rfl, hcell⟩
  · have hr := run_copy_nil (P := Try.prog) (w.alloc (.cells (fullA c) 5)) 34 34 o.type 5 ⟨w.heap.size, 0, none⟩ 64 64 Try.underlying34 (by kernel_rfl)
    refine wpL_value hg ?_ (h (goInt 0) c rfl)
    unfold execOp
    simp only [ho, resolve, invoke, builtin, Sem.run_bind, Sem.run_pure, Result.andThen_ok, List.map_toArray, List.map_cons, List.map_nil, hx, hy, hr]
  · have hl : (fullA c').toList.length = 64 := by simp [fullA]
    have hr := run_copy_row (P := Try.prog) (w.alloc (.cells (fullA c) 5)) 34 34 o.type 5 w.heap.size 0 64 64 ⟨g, 0, none⟩ 64 cap (fullA c) 5 (fullA c').toList Try.underlying34 (by kernel_rfl) (heap_alloc_last w _) (by rw [hl]; rfl)
      (fun j u hu => by
        rw [Addr.add_mid, Nat.zero_add, World.cell?_alloc_lt _ _ _ (hG g hg')]
        have hj : j < 64 := by rw [← hl]; exact (List.getElem?_eq_some_iff.1 hu).1
        rw [hcell j hj, ← hu, Array.getElem?_toList]
        simp [fullA, hj]) (by rw [hl]; simp [fullA]) (fun u hu => (Array.all_eq_true_iff_forall_mem.1 (fullA_ok c').2) u (by simpa using hu))
    rw [hl] at hr
    have e : ((fullA c).toList.take 0 ++ (fullA c').toList ++ (fullA c).toList.drop (0 + 64)).toArray = fullA c' := by
      rw [List.take_zero, List.nil_append, List.drop_of_length_le (by simp [fullA]), List.append_nil, Array.toArray_toList]
    rw [e, World.setRow_alloc_new] at hr
    refine wpL_value hg ?_ (h (goInt ((64 : Nat) : Int)) c' rfl)
    unfold execOp
    simp only [ho, resolve, invoke, builtin, Sem.run_bind, Sem.run_pure, Result.andThen_ok, List.map_toArray, List.map_cons, List.map_nil, hx, hy, hr]
end

theorem make64f (w : World) : (Instr.makeSlice 34 (.int .i64 64) (.int .i64 64)).run Try.prog w = .ok (.slice (some ⟨w.heap.size, 0, none⟩) 64 64) (w.alloc (.cells (fullA 0) 5)) := make64 w

set_option maxHeartbeats 400000 in
theorem rread_ok {w : World} {r : Nat} {G : List Nat} {R : RS} (h : RAt w r G R) (i : Nat) (hoff : R.off = false) (hi : i < R.n) (hlen : R.L.length < 1000000000) :
    Calls Try.prog 42 #[.pointer (some ⟨r, 0, none⟩), .int .i64 i] w fun e w' => e = .returned (.tuple #[.slice (some ⟨w.heap.size, 0, none⟩) 64 64, .int .i64 0]) ∧ ∃ c, (replay R.B R.L i).getD Z = fullA c ∧ w' = w.alloc (.cells (fullA c) 5) := by
  obtain ⟨bv, lv, h⟩ := h
  obtain ⟨c0, c1, c2, c3, c4, c5, fz⟩ := h.cells
  rw [hoff] at c2
  have hr : r < w.heap.size := (Array.getElem?_eq_some_iff.1 h.row).1
  have n2 := h.ok.n2
  have HG := Lib.hid h.lt
  have HL := Lib.hid h.l
  obtain ⟨g, cap, rfl, hg, hB⟩ := h.b
  obtain ⟨sv, csv, hsv⟩ := hB i hi
  have hglt := h.lt g hg
  obtain ⟨la, lcap, rfl⟩ : ∃ a cap, lv = .slice a R.L.length cap := by
    rcases h.l with ⟨h1, h2⟩ | ⟨g, cap, h1, _⟩
    · exact ⟨none, 0, by rw [h1, h2]; rfl⟩
    · exact ⟨_, _, h1⟩
  have SV := Lib.hid hsv
  have hmk := make64f
  clear h hB hsv hoff
  go_enter Try.func42, Try.ntmps42
  go_wp2_with (refine wpL_copy5 rfl rfl rfl rfl SV.out HG.out ?_; intro u c hc)
  have HC := Lib.hid hc
  clear hc
  go_loopw [7] (fun q wr => ∃ k : Nat, k ≤ R.L.length ∧ q = .int .i64 k ∧ ∃ c, (replay R.B (R.L.take k) i).getD Z = fullA c ∧ wr = w.alloc (.cells (fullA c) 5)) (fun i _ => R.L.length - (intOf i).toNat)
  case atStart => exact ⟨0, by omega, rfl, c, HC.out, rfl⟩
  case round =>
    clear HC
    obtain ⟨k, hk, rfl, c, hc, rfl⟩ := hrel
    by_cases hlt : k < R.L.length
    · obtain ⟨p, hp⟩ : ∃ p, R.L[k]? = some p := ⟨R.L[k], List.getElem?_eq_getElem hlt⟩
      rcases HL.out with ⟨_, h2⟩ | ⟨lg, lcap', hlv, hlg, hput⟩
      · rw [h2] at hlt; simp at hlt
      cases hlv
      obtain ⟨p1, psv, p2, p3⟩ := hput k p hp
      have hlglt := HG.out lg hlg
      have RT := Lib.hid (replay_take (B := R.B) hp)
      have HC := Lib.hid hc
      have P3 := Lib.hid p3
      clear hc hput hp p3
      by_cases he : p.1 = i
      · have heq : (p.1 == (i : Int)) = true := by simpa using he
        have HE := Lib.hid he
        clear he
        go_wp2_with (refine wpL_copy5 rfl rfl rfl rfl (.inr ⟨_, rfl, P3.out⟩) HG.out ?_; intro u c hc)
        have HC2 := Lib.hid hc
        clear hc
        go_roundw
        case rel => exact ⟨k + 1, by omega, by go_num, c, by rw [RT.out]; simp only [updF]; rw [if_pos HE.out.symm]; exact HC2.out, rfl⟩
        case measure => simp [intOf]; omega
      · have heq : (p.1 == (i : Int)) = false := by simpa using he
        have HE := Lib.hid he
        clear he
        go_wp2
        go_roundw
        case rel => exact ⟨k + 1, by omega, by go_num, c, by rw [RT.out]; simp only [updF]; rw [if_neg (fun e => HE.out e.symm)]; exact HC.out, rfl⟩
        case measure => simp [intOf]; omega
    · have : k = R.L.length := by omega
      subst this
      rw [List.take_length] at hc
      go_wp2
      go_ret2
      exact ⟨rfl, c, hc, rfl⟩

/-! R3 -/


section
variable {o : Oper} {a : Act}
theorem run_index60 {x y : Operand} {lg k n cap : Nat} (hk : k < n) (ho : o.op = .indexAddr 79 x y) (hx : a.eval x = .slice (some ⟨lg, 0, none⟩) n cap) (hy : a.eval y = .int .i64 k) : ∀ w, (execOp a.eval o).run Try.prog w = .ok (.value (.pointer (some ⟨lg, k * 2, none⟩))) w := by
  intro w
  unfold execOp
  simp only [ho, hx, hy]
  go_simp
theorem run_index59 {x y : Operand} {g i n cap : Nat} (hi : i < n) (ho : o.op = .indexAddr 78 x y) (hx : a.eval x = .slice (some ⟨g, 0, none⟩) n cap) (hy : a.eval y = .int .i64 i) : ∀ w, (execOp a.eval o).run Try.prog w = .ok (.value (.pointer (some ⟨g, i, none⟩))) w := by
  intro w
  unfold execOp
  simp only [ho, hx, hy]
  go_simp
theorem run_field71 {x : Operand} {lg q k : Nat} (hk : k < 2) (ho : o.op = .fieldAddr 112 x k) (hx : a.eval x = .pointer (some ⟨lg, q, none⟩)) : ∀ w, (execOp a.eval o).run Try.prog w = .ok (.value (.pointer (some ⟨lg, q + k, none⟩))) w := by
  intro w
  unfold execOp
  simp only [ho, hx]
  match k, hk with
  | 0, _ | 1, _ => go_simp
theorem isAgg37 (w : World) : (isAgg 34).run Try.prog w = .ok false w := by kernel_rfl
theorem sizeOf37 (w : World) : (sizeOf 34).run Try.prog w = .ok 1 w := by kernel_rfl
end

theorem build59 (w : World) : (Instr.buildSlice 78 0 #[]).run Try.prog w = .ok (.slice (some ⟨w.heap.size, 0, none⟩) 0 0) (w.alloc (.cells #[] 34)) := by kernel_rfl

/-- 'append([][]byte{}, b...)': a row of its own. -/
theorem append59 {w : World} {G : List Nat} {bv : Value} {n : Nat} {B : Int → Option (Array Value)} (hb : BAt w G bv n B) (hG : ∀ x ∈ G, x < w.heap.size) (n1 : 1 ≤ n) (n2 : n ≤ 8192) (t : TypeId) :
    ∃ g1 cap1 w1 cur, (Builtin.append_ #[78, 78] t #[.slice (some ⟨w.heap.size, 0, none⟩) 0 0, bv]).run Try.prog (w.alloc (.cells #[] 34)) = .ok (.slice (some ⟨g1, 0, none⟩) n cap1) w1 ∧ w.heap.size ≤ g1 ∧ g1 < w1.heap.size ∧
      w1.heap[g1]? = some (.cells cur 34 (0, 0)) ∧ (∀ j : Nat, j < n → ∃ sv, cur[j]? = some sv ∧ SecIs w G sv (B j)) ∧ Only [] w w1 := by
  obtain ⟨g, cap, rfl, hg, hB⟩ := hb
  obtain ⟨i0, hi, hz0, hz1, hz2⟩ := info_parts info37
  have hown0 : (w.alloc (.cells #[] 34)).ownsRow 0 34 1 (.slice (some ⟨w.heap.size, 0, none⟩) 0 0) 0 [] := ⟨rfl, .inr ⟨w.heap.size, 0, #[], rfl, Nat.zero_le _, heap_alloc_last w _, Nat.le_refl _, Nat.zero_le _, rfl, rfl⟩⟩
  have hsec : ∀ j : Nat, j < n → ∃ sv, w.cell? ⟨g, j, none⟩ = some sv ∧ (w.cell? ⟨g, j, none⟩).getD (.slice none 0 0) = sv ∧ SecIs w G sv (B j) := fun j hj => by
    obtain ⟨sv, h1, h2⟩ := hB j hj
    exact ⟨sv, h1, by rw [h1]; rfl, h2⟩
  obtain ⟨v', w', hrun, hown, hgrow, hnil, hloc⟩ := run_append_own_at (P := Try.prog) (w.alloc (.cells #[] 34)) 0 78 t 34 i0 _ 1 24 Try.underlying78 hi hz0 hz1 hz2 (by simp [Value.cells]) (by omega)
    (.slice (some ⟨w.heap.size, 0, none⟩) 0 0) 0 [] hown0 ⟨g, 0, none⟩ n cap ((List.range n).map (fun j => (w.cell? ⟨g, j, none⟩).getD (.slice none 0 0))) (by simp)
    (fun j u hu => by
      simp only [List.getElem?_map, Option.map_eq_some_iff] at hu
      obtain ⟨j', hj', rfl⟩ := hu
      obtain ⟨hlt, rfl⟩ := List.getElem?_eq_some_iff.1 hj'
      simp only [List.length_range, List.getElem_range] at hlt ⊢
      obtain ⟨sv, h1, h2, _⟩ := hsec j hlt
      rw [Addr.add_mid, Nat.zero_add, World.cell?_alloc_lt _ _ _ (hG g hg), h1]
      rfl)
    (fun u hu => by
      obtain ⟨j, hj, rfl⟩ := List.mem_map.1 hu
      obtain ⟨sv, h1, h2, h3⟩ := hsec j (by simpa using hj)
      rw [h2]
      rcases h3 with ⟨_, rfl⟩ | ⟨v, _, g', cap', c, rfl, _⟩ <;> rfl) (by unfold maxLen; omega) (by omega) (Nat.zero_le _)
  rw [Nat.zero_add, List.nil_append] at hown
  rcases hown.2 with ⟨_, h0⟩ | ⟨g1, cap1, cur, rfl, _, hcur, _, _, _, htake⟩
  · omega
  refine ⟨g1, cap1, w', cur, hrun, ?_, (Array.getElem?_eq_some_iff.1 hcur).1, hcur, fun j hj => ?_, ((Only.refl [] w).alloc (.cells #[] 34)).grown hgrow (fun k hk => ?_)⟩
  · rcases hloc with h | h <;> simp [Value.ownBlock] at h <;> omega
  · obtain ⟨sv, h1, h2, h3⟩ := hsec j hj
    refine ⟨sv, ?_, h3⟩
    have := congrArg (fun l => l[j]?) htake
    simp only [Nat.mul_one, List.getElem?_map] at this
    rw [List.getElem?_take_of_lt hj, Array.getElem?_toList] at this
    rw [this, List.getElem?_range hj]
    simp [h1]
  · simp [Value.ownBlock] at hk
    exact .inr (by omega)

def RS.settled (R : RS) (l : List (Int × Array Value)) : RS := { R with B := replay R.B l, L := [] }

set_option maxHeartbeats 1000000 in
theorem rsettle_any {w : World} {r : Nat} {G : List Nat} {R : RS} {lv : Value} {l : List (Int × Array Value)} (h : RAt w r G R) (hl : LAt w G lv l) (hat : ∀ p ∈ l, 0 ≤ p.1 ∧ p.1 < R.n) (hlen : l.length < 1000000000) :
    Calls Try.prog 77 #[.pointer (some ⟨r, 0, none⟩), lv] w fun e w' => e = .returned (.tuple #[]) ∧ RPost w w' r G (R.settled l) := by
  obtain ⟨bv, lv0, h⟩ := h
  obtain ⟨c0, c1, c2, c3, c4, c5, fz⟩ := h.cells
  have hr : r < w.heap.size := (Array.getElem?_eq_some_iff.1 h.row).1
  obtain ⟨la, lcap, rfl⟩ : ∃ a cap, lv = .slice a l.length cap := by
    rcases hl with ⟨h1, h2⟩ | ⟨g, cap, h1, _⟩
    · exact ⟨none, 0, by rw [h1, h2]; rfl⟩
    · exact ⟨_, _, h1⟩
  have hb0 := build59
  have H := Lib.hid h
  have HL := Lib.hid hl
  have HAT := Lib.hid hat
  obtain ⟨g1, cap1, w1, cur, hrun, hg1, hg1', hcur, hsec, ho1⟩ := append59 h.b h.lt h.ok.n1 h.ok.n2 78
  have HRUN := Lib.hid hrun
  have n2 := h.ok.n2
  clear h hl hat hrun
  go_enter Try.func77, Try.ntmps77
  go_wp2_with (refine wpL_value rfl (run_builtin_append rfl rfl rfl HRUN.out) ?_)
  have CUR := Lib.hid hcur
  have SEC := Lib.hid hsec
  have O1 := Lib.hid ho1
  clear hcur hsec ho1
  go_loopw [5] (fun q wr => ∃ k : Nat, k ≤ l.length ∧ q = .int .i64 k ∧ ∃ cur, wr.heap[g1]? = some (.cells cur 34 (0, 0)) ∧ (∀ j : Nat, j < R.n → ∃ sv, cur[j]? = some sv ∧ SecIs w G sv (replay R.B (l.take k) j)) ∧ Only [] w wr) (fun i _ => l.length - (intOf i).toNat)
  case atStart => exact ⟨0, by omega, rfl, cur, CUR.out, SEC.out, O1.out⟩
  case round =>
    clear CUR SEC O1 HRUN
    obtain ⟨k, hk, rfl, cur, hcur, hsec, ho⟩ := hrel
    by_cases hlt : k < l.length
    · obtain ⟨p, hp⟩ : ∃ p, l[k]? = some p := ⟨l[k], List.getElem?_eq_getElem hlt⟩
      have hpat := HAT.out p (List.mem_of_getElem? hp)
      obtain ⟨j, hj⟩ : ∃ j : Nat, p.1 = j := ⟨p.1.toNat, by omega⟩
      rcases HL.out with ⟨_, h2⟩ | ⟨lg, lcap', hlv, hlg, hput⟩
      · rw [h2] at hlt; simp at hlt
      cases hlv
      obtain ⟨p1, psv, p2, p3⟩ := hput k p hp
      have hlglt := H.out.lt lg hlg
      have hbl := ho.block lg hlglt (by simp)
      have q1 : wr.cell? ⟨lg, k * 2 + 0, none⟩ = some (.int .i64 j) := by rw [Nat.add_zero, ← hj]; exact (World.cell?_of_block (w := w) hbl).trans p1
      have q2 : wr.cell? ⟨lg, k * 2 + 1, none⟩ = some psv := (World.cell?_of_block (w := w) hbl).trans p2
      have hjn : j < R.n := by omega
      obtain ⟨sv0, hs0, _⟩ := hsec j hjn
      have q3 : wr.cell? ⟨g1, j, none⟩ = some sv0 := (cell_of_row _ _ _ _ _ _ hcur).trans hs0
      have q4 : wr.frozen? ⟨g1, j, none⟩ = false := by simp [World.frozen?, hcur]
      have hpsv : psv.oneCell' = true ∧ psv.cells = #[psv] := by obtain ⟨g', cap', c, rfl, _⟩ := p3; exact ⟨rfl, rfl⟩
      have cur' := heap_setCell_row (w := wr.drew) hcur j psv
      have ho' : Only [] w (wr.drew.setCell ⟨g1, j, none⟩ psv) := ho.drew.setCell (.inr hg1) _
      have hsec' : ∀ q : Nat, q < R.n → ∃ sv, (cur.setIfInBounds j psv)[q]? = some sv ∧ SecIs w G sv (replay R.B (l.take (k + 1)) q) := fun q hq => by
        rw [replay_take hp]
        obtain ⟨sv, h1, h2⟩ := hsec q hq
        by_cases hqj : q = j
        · subst hqj
          have hsz := (Array.getElem?_eq_some_iff.1 h1).1
          exact ⟨psv, by simp [hsz], .inr ⟨p.2, by simp [updF, hj], p3⟩⟩
        · have hne : ¬ ((q : Int) = p.1) := by omega
          exact ⟨sv, by rw [Array.getElem?_setIfInBounds_ne (fun e => hqj e.symm)]; exact h1, by simp only [updF]; rw [if_neg hne]; exact h2⟩
      have SEC := Lib.hid hsec'
      have CUR := Lib.hid cur'
      have O1 := Lib.hid ho'
      have Q1 := Lib.hid q1
      have Q2 := Lib.hid q2
      clear hsec hsec' cur' ho' ho hput p1 p2 p3 hcur hbl hs0 q1 q2
      go_wp2_with fail
      refine wp_region_flow Lat [0, 0, 0, 0, 0, 1, 0, 0, 0, 0, 1, 0, 3] (by kernel_rfl) (by kernel_rfl) Lat.refl Lat.trans ?_
      refine fl0 (u := .slice (some ⟨g1, 0, none⟩) R.n cap1) (by kernel_rfl) (fun _ => by kernel_rfl) ?_
      refine fl0 (u := .slice (some ⟨lg, 0, none⟩) l.length lcap) (by kernel_rfl) (fun _ => by kernel_rfl) ?_
      refine fl0 (u := .int .i64 k) (by kernel_rfl) (fun _ => by kernel_rfl) ?_
      simp only [Act.put, List.setIfInBounds_toArray, List.set_cons_succ, List.set_cons_zero]
      refine fl0 (u := .pointer (some ⟨lg, k * 2, none⟩)) (by kernel_rfl) (run_index60 hlt rfl rfl rfl) ?_
      refine fl0 (u := .pointer (some ⟨lg, k * 2 + 0, none⟩)) (by kernel_rfl) (run_field71 (by omega) rfl rfl) ?_
      simp only [Act.put, List.setIfInBounds_toArray, List.set_cons_succ, List.set_cons_zero]
      refine fl1 (u := .int .i64 j) (by kernel_rfl) (fun x hx => run_load1 rfl rfl (hx.cell Q1.out) isAgg3) ?_
      refine fl0 (u := .slice (some ⟨lg, 0, none⟩) l.length lcap) (by kernel_rfl) (fun _ => by kernel_rfl) ?_
      refine fl0 (u := .int .i64 k) (by kernel_rfl) (fun _ => by kernel_rfl) ?_
      simp only [Act.put, List.setIfInBounds_toArray, List.set_cons_succ, List.set_cons_zero]
      refine fl0 (u := .pointer (some ⟨lg, k * 2, none⟩)) (by kernel_rfl) (run_index60 hlt rfl rfl rfl) ?_
      refine fl0 (u := .pointer (some ⟨lg, k * 2 + 1, none⟩)) (by kernel_rfl) (run_field71 (by omega) rfl rfl) ?_
      simp only [Act.put, List.setIfInBounds_toArray, List.set_cons_succ, List.set_cons_zero]
      refine fl1 (u := psv) (by kernel_rfl) (fun x hx => run_load1 rfl rfl (hx.cell Q2.out) isAgg37) ?_
      refine fl0 (u := .pointer (some ⟨g1, j, none⟩)) (by kernel_rfl) (run_index59 hjn rfl rfl rfl) ?_
      simp only [Act.put, List.setIfInBounds_toArray, List.set_cons_succ, List.set_cons_zero]
      refine fl3 (u := undef) (w' := wr.drew.setCell ⟨g1, j, none⟩ psv) (by kernel_rfl) (.inr (.inl ⟨run_store1 rfl rfl rfl q3 q4 hpsv.1 sizeOf37 hpsv.2, rfl⟩)) ?_
      refine flnil ?_
      have SEC2 : Hid (∃ cur, (wr.drew.setCell ⟨g1, j, none⟩ psv).heap[g1]? = some (.cells cur 34 (0, 0)) ∧ (∀ q : Nat, q < R.n → ∃ sv, cur[q]? = some sv ∧ SecIs w G sv (replay R.B (l.take (k + 1)) q)) ∧ Only [] w (wr.drew.setCell ⟨g1, j, none⟩ psv)) := ⟨_, CUR.out, SEC.out, O1.out⟩
      generalize wr.drew.setCell ⟨g1, j, none⟩ psv = w9 at *
      clear SEC CUR O1 Q1 Q2 q3 q4
      go_wp2
      go_roundw
      case rel => exact ⟨k + 1, by omega, by go_num, SEC2.out⟩
      case measure => simp [intOf]; omega
    · have : k = l.length := by omega
      subst this
      rw [List.take_length] at hsec
      have hb := ho.block r hr (by simp)
      have d0 : wr.cell? ⟨r, 0, none⟩ = some bv := (World.cell?_of_block (w := w) hb).trans c0
      have d1 : wr.cell? ⟨r, 1, none⟩ = some lv0 := (World.cell?_of_block (w := w) hb).trans c1
      have f1 : ∀ i, wr.frozen? ⟨r, i, none⟩ = false := fun i => (World.frozen?_of_block (w := w) hb).trans (fz i)
      have hrow := hb.trans H.out.row
      have ROW := Lib.hid hrow
      have SEC := Lib.hid hsec
      have CUR := Lib.hid hcur
      have O1 := Lib.hid ho
      clear hsec hcur ho hb hrow c0 c1 c2 c3 c4 c5 fz
      go_wp2
      go_end0
      have h := H.out
      have hrg : g1 ≠ r := by omega
      have ho2 : Only [r] w ((wr.setCell ⟨r, 0, none⟩ (.slice (some ⟨g1, 0, none⟩) R.n cap1)).setCell ⟨r, 1, none⟩ (.slice none 0 0)) := ((O1.out.mono (by simp)).setCell (by simp) _).setCell (by simp) _
      have he : ∀ x ∈ G, ((wr.setCell ⟨r, 0, none⟩ (.slice (some ⟨g1, 0, none⟩) R.n cap1)).setCell ⟨r, 1, none⟩ (.slice none 0 0)).heap[x]? = w.heap[x]? := fun x hx => ho2.block x (h.lt x hx) (fun hx' => h.out (by simp at hx'; subst hx'; exact hx))
      have hc2 : ((wr.setCell ⟨r, 0, none⟩ (.slice (some ⟨g1, 0, none⟩) R.n cap1)).setCell ⟨r, 1, none⟩ (.slice none 0 0)).heap[g1]? = some (.cells cur 34 (0, 0)) := ((Below.heap_setCell _ _ _ _ (by simpa using hrg)).trans (Below.heap_setCell _ _ _ _ (by simpa using hrg))).trans CUR.out
      refine ⟨rfl, g1 :: G, ⟨.slice (some ⟨g1, 0, none⟩) R.n cap1, .slice none 0 0, ?_, ⟨g1, cap1, rfl, by simp, fun i hi => ?_⟩, .inl ⟨rfl, rfl⟩, ?_, fun x hx => ?_, ⟨h.ok.n1, h.ok.n2, by simp [RS.settled], h.ok.left0, h.ok.N0⟩⟩, fun x hx => by simp [hx], fun x hx => ?_, ho2⟩
      · rw [heap_setCell_row (heap_setCell_row ROW.out _ _)]
        rfl
      · obtain ⟨sv, h1, h2⟩ := SEC.out i hi
        exact ⟨sv, (cell_of_row _ _ _ _ _ _ hc2).trans h1, h2.to he (fun x hx => by simp [hx])⟩
      · simp only [List.mem_cons, not_or]
        exact ⟨fun e => hrg e.symm, h.out⟩
      · rcases List.mem_cons.1 hx with rfl | hx
        · exact (Array.getElem?_eq_some_iff.1 hc2).1
        · exact Nat.lt_of_lt_of_le (h.lt x hx) ho2.size
      · rcases List.mem_cons.1 hx with rfl | hx
        · exact .inr hg1
        · exact .inl hx

theorem RPost.trans {w w1 w2 : World} {r : Nat} {G G1 : List Nat} {R2 : RS} (hs : ∀ x ∈ G, x ∈ G1) (h1 : ∀ x ∈ G1, x ∈ G ∨ w.heap.size ≤ x) (ho : Only [r] w w1) (h2 : RPost w1 w2 r G1 R2) : RPost w w2 r G R2 := by
  obtain ⟨G2, r2, s2, f2, o2⟩ := h2
  refine ⟨G2, r2, fun x hx => s2 x (hs x hx), fun x hx => ?_, ho.trans o2 (fun x hx => .inl hx)⟩
  rcases f2 x hx with h | h
  · exact h1 x h
  · exact .inr (Nat.le_trans ho.size h)

open Classical in
noncomputable def RS.doBarrier (R : RS) : Int × RS := if R.off = true then (2, R) else if R.falls then (2, R.fallen) else (0, R.stepped.settled R.L)

theorem RAt.self {w : World} {r : Nat} {G : List Nat} {R : RS} (h : RAt w r G R) : RPost w w r G R := ⟨G, h, fun _ hx => hx, fun _ hx => .inl hx, Only.refl _ _⟩

set_option maxHeartbeats 1000000 in
theorem rbarrier_any {w : World} {r : Nat} {G : List Nat} {R : RS} (h : RAt w r G R) (hlen : R.L.length < 1000000000) (hN : R.N < 1000000000) :
    Calls Try.prog 50 #[.pointer (some ⟨r, 0, none⟩)] w fun e w' => e = .returned (.int .i64 R.doBarrier.1) ∧ RPost w w' r G R.doBarrier.2 := by
  have HH := Lib.hid h
  obtain ⟨bv, lv, h⟩ := h
  obtain ⟨c0, c1, c2, c3, c4, c5, fz⟩ := h.cells
  clear h
  unfold RS.doBarrier
  cases hoff : R.off with
  | true =>
    rw [hoff] at c2
    rw [if_pos rfl]
    clear hoff
    go_enter Try.func50, Try.ntmps50
    go_wp2
    go_ret
    exact ⟨rfl, HH.out.self⟩
  | false =>
    rw [hoff] at c2
    rw [if_neg (by simp)]
    by_cases hf : R.falls
    · rw [if_pos hf]
      have ST := Lib.hid (rstep_zero HH.out hf)
      clear hf hoff
      go_enter Try.func50, Try.ntmps50
      go_wp2_with fail
      refine ST.out.mono ?_
      rintro e w1 ⟨rfl, hp⟩
      go_wp2
      go_ret
      exact ⟨rfl, hp⟩
    · rw [if_neg hf]
      have ST := Lib.hid (rstep_ok HH.out hf hN)
      clear hf hoff
      go_enter Try.func50, Try.ntmps50
      go_wp2_with fail
      refine ST.out.mono ?_
      rintro e w1 ⟨rfl, G1, h1, hs, hfr, ho⟩
      clear c0 c1 c2 c3 c4 c5 fz ST
      have H1 := Lib.hid h1
      obtain ⟨bv1, lv1, h1⟩ := h1
      obtain ⟨c0, c1, c2, c3, c4, c5, fz⟩ := h1.cells
      have SE := Lib.hid (rsettle_any (l := R.L) H1.out h1.l (fun p hp => h1.ok.at' p hp) hlen)
      clear h1
      go_wp2_with fail
      refine SE.out.mono ?_
      rintro e w2 ⟨rfl, hp⟩
      go_wp2
      go_ret
      exact ⟨rfl, RPost.trans hs hfr ho hp⟩

/-! R4 -/


/-- The cells of a row of writes. -/
structure Puts (w : World) (G : List Nat) (l : List (Int × Array Value)) (xs : List Value) : Prop where
  len : xs.length = l.length * 2
  cell : ∀ k p, l[k]? = some p → xs[k * 2]? = some (.int .i64 p.1) ∧ ∃ sv, xs[k * 2 + 1]? = some sv ∧ BytesIs w G sv p.2

theorem Puts.nil (w : World) (G : List Nat) : Puts w G [] [] := ⟨rfl, by simp⟩
theorem Puts.snoc {w : World} {G : List Nat} {l : List (Int × Array Value)} {xs : List Value} (h : Puts w G l xs) {p : Int × Array Value} {sv : Value} (hs : BytesIs w G sv p.2) : Puts w G (l ++ [p]) (xs ++ [.int .i64 p.1, sv]) := by
  refine ⟨by simp [h.len]; omega, fun k q hq => ?_⟩
  by_cases hk : k < l.length
  · rw [List.getElem?_append_left hk] at hq
    rw [List.getElem?_append_left (by rw [h.len]; omega), List.getElem?_append_left (by rw [h.len]; omega)]
    exact h.cell k q hq
  · rw [List.getElem?_append_right (by omega)] at hq
    have hk' : k = l.length := by
      have := (List.getElem?_eq_some_iff.1 hq).1
      simp at this
      omega
    subst hk'
    simp at hq
    subst hq
    rw [List.getElem?_append_right (by rw [h.len]; omega), List.getElem?_append_right (by rw [h.len]; omega), h.len]
    exact ⟨by simp, sv, by simp, hs⟩

theorem Puts.at_own {w w' : World} {G : List Nat} {l : List (Int × Array Value)} {xs : List Value} {base : Nat} {v : Value} (h : Puts w G l xs) (hown : w'.ownsRow base 112 2 v l.length xs) (he : ∀ x ∈ G, w'.heap[x]? = w.heap[x]?) :
    ∃ G', LAt w' (G' ++ G) v l ∧ ∀ x ∈ G', base ≤ x ∧ x < w'.heap.size := by
  rcases hown.2 with ⟨h1, h2⟩ | ⟨g, cap, cur, rfl, hb, hcur, _, _, _, htake⟩
  · exact ⟨[], .inl ⟨h1, List.eq_nil_of_length_eq_zero h2⟩, by simp⟩
  · refine ⟨[g], .inr ⟨g, cap, rfl, by simp, fun k p hp => ?_⟩, fun x hx => by simp at hx; subst hx; exact ⟨hb, (Array.getElem?_eq_some_iff.1 hcur).1⟩⟩
    have hk : k < l.length := (List.getElem?_eq_some_iff.1 hp).1
    obtain ⟨h1, sv, h2, h3⟩ := h.cell k p hp
    have hx : ∀ j, j < l.length * 2 → w'.cell? ⟨g, j, none⟩ = xs[j]? := fun j hj => by
      rw [cell_of_row _ _ _ _ _ _ hcur, ← htake, List.getElem?_take_of_lt hj, Array.getElem?_toList]
    exact ⟨by rw [hx _ (by omega)]; exact h1, sv, by rw [hx _ (by omega)]; exact h2, h3.to he (fun x hx => by simp [hx])⟩

def keptUp (keep : List Int) (L : List (Int × Array Value)) : Nat → List (Int × Array Value)
  | 0 => []
  | k + 1 => match L[k]? with
    | some p => if surv keep k then keptUp keep L k ++ [p] else keptUp keep L k
    | none => keptUp keep L k
theorem keptUp_some {keep : List Int} {L : List (Int × Array Value)} {k : Nat} {p : Int × Array Value} (h : L[k]? = some p) : keptUp keep L (k + 1) = if surv keep k then keptUp keep L k ++ [p] else keptUp keep L k := by
  rw [keptUp, h]
theorem replay_kept (B : Int → Option (Array Value)) (keep : List Int) (L : List (Int × Array Value)) : ∀ k, replay B (keptUp keep L k) = bootF B keep L k
  | 0 => rfl
  | k + 1 => by
    have ih := replay_kept B keep L k
    cases hp : L[k]? with
    | none => rw [bootF_none hp, keptUp, hp]; exact ih
    | some p =>
      rw [bootF_some hp, keptUp_some hp]
      split
      · rw [← ih]; simp [replay, List.foldl_append]
      · exact ih
theorem keptUp_mem {keep : List Int} {L : List (Int × Array Value)} : ∀ k p, p ∈ keptUp keep L k → p ∈ L
  | 0, p, h => by simp [keptUp] at h
  | k + 1, p, h => by
    cases hp : L[k]? with
    | none => rw [keptUp, hp] at h; exact keptUp_mem k p h
    | some q =>
      rw [keptUp_some hp] at h
      split at h
      · rcases List.mem_append.1 h with h | h
        · exact keptUp_mem k p h
        · simp at h; subst h; exact List.mem_of_getElem? hp
      · exact keptUp_mem k p h
theorem keptUp_len {keep : List Int} {L : List (Int × Array Value)} : ∀ k, (keptUp keep L k).length ≤ k
  | 0 => by simp [keptUp]
  | k + 1 => by
    have ih := keptUp_len (keep := keep) (L := L) k
    cases hp : L[k]? with
    | none => rw [keptUp, hp]; exact Nat.le_succ_of_le ih
    | some q => rw [keptUp_some hp]; split <;> simp <;> omega
theorem surv_nil' (k : Nat) : surv [] k = false := rfl
theorem keptUp_nil {L : List (Int × Array Value)} : ∀ k, keptUp [] L k = []
  | 0 => rfl
  | k + 1 => by
    have ih := keptUp_nil (L := L) k
    cases hp : L[k]? with
    | none => rw [keptUp, hp]; exact ih
    | some q => rw [keptUp_some hp, surv_nil']; exact ih

theorem info71 : (Try.prog.info? 112).map (fun i => (i.zero, i.size, i.bytes)) = some (some (.agg #[.int .i64 0, .slice none 0 0]), 2, 32) := by kernel_rfl
theorem info71s : (Try.prog.info? 112).map (·.size) = some 2 := by kernel_rfl
theorem build60 (x : Int) (a : Option Addr) (n c : Nat) (w : World) : (Instr.buildSlice 79 1 #[(0, .agg #[.int .i64 x, .slice a n c])]).run Try.prog w = .ok (.slice (some ⟨w.heap.size, 0, none⟩) 1 1) (w.alloc (.cells #[.int .i64 x, .slice a n c] 112)) := by kernel_rfl

section
variable {o : Oper} {a : Act} {w : World}
theorem run_load71 {x : Operand} {g k : Nat} {u v : Value} (ho : o.op = .load 112 x) (hx : a.eval x = .pointer (some ⟨g, k, none⟩)) (h1 : w.cell? ⟨g, k, none⟩ = some u) (h2 : w.cell? ⟨g, k + 1, none⟩ = some v) :
    (execOp a.eval o).run Try.prog w = .ok (.value (.agg #[u, v])) w := by
  have hr : w.rangeAt g k [u, v] := fun j q hq => by
    match j, hq with
    | 0, hq => simp at hq; subst hq; exact h1
    | 1, hq => simp at hq; subst hq; exact h2
    | j + 2, hq => simp at hq
  unfold execOp
  simp only [ho, hx, Instr.loadAt, Instr.sureAddr, Sem.run_bind, Sem.run_pure, Result.andThen_ok, run_loadVar_mid (P := Try.prog) w g k 112 [u, v] _ hr Try.underlying112 rfl (by rw [info71s]; rfl)]
theorem run_buildSlice60 {x : Operand} {i : Int} {sa : Option Addr} {n c : Nat} (ho : o.op = .buildSlice 79 1 #[(0, x)]) (hx : a.eval x = .agg #[.int .i64 i, .slice sa n c]) :
    (execOp a.eval o).run Try.prog w = .ok (.value (.slice (some ⟨w.heap.size, 0, none⟩) 1 1)) (w.alloc (.cells #[.int .i64 i, .slice sa n c] 112)) := by
  unfold execOp
  simp only [ho, List.map_toArray, List.map_cons, List.map_nil, hx, Sem.run_bind, build60, Result.andThen_ok, Sem.run_pure]
end

/-- One more write behind a row of its own. -/
theorem append60 {w : World} {base : Nat} {lv : Value} {n : Nat} {xs : List Value} (hown : w.ownsRow base 112 2 lv n xs) (hn : n < 1000000000) (hb : base ≤ w.heap.size) (i : Int) (sa : Option Addr) (m c : Nat) (t : TypeId) :
    ∃ v' w', (Builtin.append_ #[79, 79] t #[lv, .slice (some ⟨w.heap.size, 0, none⟩) 1 1]).run Try.prog (w.alloc (.cells #[.int .i64 i, .slice sa m c] 112)) = .ok v' w' ∧ w'.ownsRow base 112 2 v' (n + 1) (xs ++ [.int .i64 i, .slice sa m c]) ∧
      (∀ F w0, Only F w0 w → w0.heap.size ≤ base → Only F w0 w') := by
  obtain ⟨i0, hi, hz0, hz1, hz2⟩ := info_parts info71
  obtain ⟨v', w', hrun, hown', hgrow, hnil, hloc⟩ := run_append_own_at (P := Try.prog) (w.alloc (.cells #[.int .i64 i, .slice sa m c] 112)) base 79 t 112 i0 _ 2 32 Try.underlying79 hi hz0 hz1 hz2 (by simp [Value.cells]) (by omega)
    lv n xs (hown.alloc _) ⟨w.heap.size, 0, none⟩ 1 1 [.int .i64 i, .slice sa m c] (by simp)
    (fun j u hu => by
      rw [Addr.add_mid, Nat.zero_add, cell_of_row _ _ _ _ _ _ (heap_alloc_last w _)]
      simpa using hu)
    (fun u hu => by simp at hu; rcases hu with rfl | rfl <;> rfl) (by unfold maxLen; omega) (by omega) (by simp; omega)
  refine ⟨v', w', hrun, hown', fun F w0 ho hw0 => (ho.alloc _).grown hgrow (fun k hk => .inr ?_)⟩
  have := (hown.lt k hk).1
  omega

/-! R5 -/


theorem RS.reach_cases (R : RS) (i : Int) : (R.off = true ∧ R.reach i = 2) ∨ (R.off = false ∧ i < 0 ∧ R.reach i = 10) ∨ (R.off = false ∧ ¬ i < 0 ∧ (R.n : Int) ≤ i ∧ R.reach i = 10) ∨ (R.off = false ∧ ¬ i < 0 ∧ ¬ (R.n : Int) ≤ i ∧ R.reach i = 0) := by
  unfold RS.reach
  cases R.off with
  | true => simp
  | false =>
    by_cases h1 : i < 0
    · simp [h1]
    · by_cases h2 : (R.n : Int) ≤ i
      · simp [h1, h2]
      · simp [h1, h2]

set_option maxHeartbeats 400000 in
theorem rwrite_no {w : World} {r : Nat} {G : List Nat} {R : RS} (h : RAt w r G R) (i : Int) (s : Value) (hr : R.reach i ≠ 0) :
    Calls Try.prog 49 #[.pointer (some ⟨r, 0, none⟩), .int .i64 i, s] w fun e w' => e = .returned (.int .i64 (R.reach i)) ∧ w = w' := by
  obtain ⟨bv, lv, h⟩ := h
  obtain ⟨c0, c1, c2, c3, c4, c5, fz⟩ := h.cells
  obtain ⟨g, cap, rfl, _⟩ := h.b
  clear h
  rcases R.reach_cases i with ⟨h0, e⟩ | ⟨h0, h1, e⟩ | ⟨h0, h1, h2, e⟩ | ⟨_, _, _, e⟩
  · rw [h0] at c2
    rw [e]
    clear hr h0 e
    go_enter Try.func49, Try.ntmps49
    go_wp2
    go_ret
    exact ⟨rfl, rfl⟩
  · rw [h0] at c2
    rw [e]
    clear hr h0 e
    go_enter Try.func49, Try.ntmps49
    go_wp2
    go_ret
    exact ⟨rfl, rfl⟩
  · rw [h0] at c2
    rw [e]
    clear hr h0 e
    go_enter Try.func49, Try.ntmps49
    go_wp2
    go_ret
    exact ⟨rfl, rfl⟩
  · exact absurd e hr

set_option maxHeartbeats 400000 in
theorem rwrite_bytes {w : World} {r : Nat} {G : List Nat} {R : RS} (h : RAt w r G R) (i : Int) (ad : Option Addr) (len cap : Nat) (hr : R.reach i = 0) (hl : len ≠ 64) :
    Calls Try.prog 49 #[.pointer (some ⟨r, 0, none⟩), .int .i64 i, .slice ad len cap] w fun e w' => e = .returned (.int .i64 11) ∧ w = w' := by
  obtain ⟨bv, lv, h⟩ := h
  obtain ⟨c0, c1, c2, c3, c4, c5, fz⟩ := h.cells
  obtain ⟨g, cap', rfl, _⟩ := h.b
  clear h
  have hn : ((len : Int) != 64) = true := by simp; omega
  rcases R.reach_cases i with ⟨h0, e⟩ | ⟨h0, h1, e⟩ | ⟨h0, h1, h2, e⟩ | ⟨h0, h1, h2, e⟩
  · omega
  · omega
  · omega
  · rw [h0] at c2
    clear hr h0 e hl
    go_enter Try.func49, Try.ntmps49
    go_wp2
    go_ret
    exact ⟨rfl, rfl⟩

set_option maxHeartbeats 400000 in
theorem rwrite_fall {w : World} {r : Nat} {G : List Nat} {R : RS} (h : RAt w r G R) (i : Int) (ad : Option Addr) (cap : Nat) (hr : R.reach i = 0) (hf : R.falls) :
    Calls Try.prog 49 #[.pointer (some ⟨r, 0, none⟩), .int .i64 i, .slice ad 64 cap] w fun e w' => e = .returned (.int .i64 2) ∧ RPost w w' r G R.fallen := by
  have ST := Lib.hid (rstep_zero h hf)
  obtain ⟨bv, lv, h⟩ := h
  obtain ⟨c0, c1, c2, c3, c4, c5, fz⟩ := h.cells
  obtain ⟨g, cap', rfl, _⟩ := h.b
  clear h hf
  rcases R.reach_cases i with ⟨h0, e⟩ | ⟨h0, h1, e⟩ | ⟨h0, h1, h2, e⟩ | ⟨h0, h1, h2, e⟩
  · omega
  · omega
  · omega
  · rw [h0] at c2
    clear hr h0 e
    go_enter Try.func49, Try.ntmps49
    go_wp2_with fail
    refine ST.out.mono ?_
    rintro e w1 ⟨rfl, hp⟩
    go_wp2
    go_ret
    exact ⟨rfl, hp⟩

theorem build600 (w : World) : (Instr.buildSlice 79 0 #[]).run Try.prog w = .ok (.slice (some ⟨w.heap.size, 0, none⟩) 0 0) (w.alloc (.cells #[] 112)) := by kernel_rfl
theorem build370 (w : World) : (Instr.buildSlice 34 0 #[]).run Try.prog w = .ok (.slice (some ⟨w.heap.size, 0, none⟩) 0 0) (w.alloc (.cells #[] 5)) := by kernel_rfl
theorem append60nil (w : World) (g : Nat) (t : TypeId) : (Builtin.append_ #[79, 79] t #[.slice (some ⟨g, 0, none⟩) 0 0, .slice none 0 0]).run Try.prog w = .ok (.slice (some ⟨g, 0, none⟩) 0 0) w := by
  kernel_rfl

theorem Puts.to {w w' : World} {G G' : List Nat} {l : List (Int × Array Value)} {xs : List Value} (h : Puts w G l xs) (he : ∀ x ∈ G, w'.heap[x]? = w.heap[x]?) (hG : ∀ x ∈ G, x ∈ G') : Puts w' G' l xs :=
  ⟨h.len, fun k p hp => by
    obtain ⟨h1, sv, h2, h3⟩ := h.cell k p hp
    exact ⟨h1, sv, h2, h3.to he hG⟩⟩

/-- 'append([]Put{}, l...)': a row of its own. -/
theorem append60all {w : World} {G : List Nat} {lv : Value} {L : List (Int × Array Value)} (hl : LAt w G lv L) (hG : ∀ x ∈ G, x < w.heap.size) (hlen : L.length < 1000000000) (t : TypeId) :
    ∃ v' w' xs, (Builtin.append_ #[79, 79] t #[.slice (some ⟨w.heap.size, 0, none⟩) 0 0, lv]).run Try.prog (w.alloc (.cells #[] 112)) = .ok v' w' ∧ w'.ownsRow w.heap.size 112 2 v' L.length xs ∧ Puts w G L xs ∧ Only [] w w' := by
  have hown0 : (w.alloc (.cells #[] 112)).ownsRow w.heap.size 112 2 (.slice (some ⟨w.heap.size, 0, none⟩) 0 0) 0 [] := ⟨rfl, .inr ⟨w.heap.size, 0, #[], rfl, Nat.le_refl _, heap_alloc_last w _, Nat.le_refl _, Nat.zero_le _, rfl, rfl⟩⟩
  rcases hl with ⟨rfl, rfl⟩ | ⟨g, cap, rfl, hg, hput⟩
  · exact ⟨_, _, [], append60nil _ _ t, hown0, Puts.nil _ _, (Only.refl [] w).alloc _⟩
  · obtain ⟨i0, hi, hz0, hz1, hz2⟩ := info_parts info71
    have hcell : ∀ j, j < L.length * 2 → ∃ u, w.cell? ⟨g, j, none⟩ = some u ∧ u.oneCell' = true := fun j hj => by
      obtain ⟨p, hp⟩ : ∃ p, L[j / 2]? = some p := ⟨_, List.getElem?_eq_getElem (by omega)⟩
      obtain ⟨h1, sv, h2, g', cap', c, rfl, _⟩ := hput (j / 2) p hp
      rcases Nat.mod_two_eq_zero_or_one j with h | h
      · exact ⟨_, by rw [show j = j / 2 * 2 by omega]; exact h1, rfl⟩
      · exact ⟨_, by rw [show j = j / 2 * 2 + 1 by omega]; exact h2, rfl⟩
    have hx : ∀ j u, w.cell? ⟨g, j, none⟩ = some u → j < L.length * 2 → ((List.range (L.length * 2)).map (fun j => (w.cell? ⟨g, j, none⟩).getD undef))[j]? = some u := fun j u hu hj => by
      rw [List.getElem?_map, List.getElem?_range hj]
      simp [hu]
    obtain ⟨v', w', hrun, hown, hgrow, hnil, hloc⟩ := run_append_own_at (P := Try.prog) (w.alloc (.cells #[] 112)) w.heap.size 79 t 112 i0 _ 2 32 Try.underlying79 hi hz0 hz1 hz2 (by simp [Value.cells]) (by omega)
      (.slice (some ⟨w.heap.size, 0, none⟩) 0 0) 0 [] hown0 ⟨g, 0, none⟩ L.length cap ((List.range (L.length * 2)).map (fun j => (w.cell? ⟨g, j, none⟩).getD undef)) (by simp)
      (fun j u hu => by
        have hj : j < L.length * 2 := by have := (List.getElem?_eq_some_iff.1 hu).1; simpa using this
        obtain ⟨u', h1, _⟩ := hcell j hj
        rw [hx j u' h1 hj] at hu
        cases hu
        rw [Addr.add_mid, Nat.zero_add, World.cell?_alloc_lt _ _ _ (hG g hg), h1])
      (fun u hu => by
        obtain ⟨j, hj, rfl⟩ := List.mem_map.1 hu
        obtain ⟨u', h1, h2⟩ := hcell j (by simpa using hj)
        rw [h1]
        exact h2) (by unfold maxLen; omega) (by omega) (by simp)
    rw [Nat.zero_add, List.nil_append] at hown
    refine ⟨v', w', _, hrun, hown, ⟨by simp, fun k p hp => ?_⟩, ((Only.refl [] w).alloc (.cells #[] 112)).grown hgrow (fun k hk => ?_)⟩
    · have hk : k < L.length := (List.getElem?_eq_some_iff.1 hp).1
      obtain ⟨h1, sv, h2, h3⟩ := hput k p hp
      exact ⟨hx _ _ h1 (by omega), sv, hx _ _ h2 (by omega), h3⟩
    · simp [Value.ownBlock] at hk
      exact .inr (by omega)

theorem info5 : (Try.prog.info? 5).map (fun i => (i.zero, i.size, i.bytes)) = some (some (.int .u8 0), 1, 1) := by kernel_rfl

/-- 'append([]byte{}, b...)' of 64 equal bytes. -/
theorem append37 {w : World} {gb cap : Nat} {c : Int} (hgb : gb < w.heap.size) (hc : ∀ j, j < 64 → w.cell? ⟨gb, j, none⟩ = some (.int .u8 c)) (t : TypeId) :
    ∃ g cap' w', (Builtin.append_ #[34, 34] t #[.slice (some ⟨w.heap.size, 0, none⟩) 0 0, .slice (some ⟨gb, 0, none⟩) 64 cap]).run Try.prog (w.alloc (.cells #[] 5)) = .ok (.slice (some ⟨g, 0, none⟩) 64 cap') w' ∧ w.heap.size ≤ g ∧ g < w'.heap.size ∧
      (∀ j, j < 64 → w'.cell? ⟨g, j, none⟩ = some (.int .u8 c)) ∧ Only [] w w' := by
  obtain ⟨i0, hi, hz0, hz1, hz2⟩ := info_parts info5
  have hown0 : (w.alloc (.cells #[] 5)).ownsRow w.heap.size 5 1 (.slice (some ⟨w.heap.size, 0, none⟩) 0 0) 0 [] := ⟨rfl, .inr ⟨w.heap.size, 0, #[], rfl, Nat.le_refl _, heap_alloc_last w _, Nat.le_refl _, Nat.zero_le _, rfl, rfl⟩⟩
  obtain ⟨v', w', hrun, hown, hgrow, hnil, hloc⟩ := run_append_own_at (P := Try.prog) (w.alloc (.cells #[] 5)) w.heap.size 34 t 5 i0 _ 1 1 Try.underlying34 hi hz0 hz1 hz2 (by simp [Value.cells]) (by omega)
    (.slice (some ⟨w.heap.size, 0, none⟩) 0 0) 0 [] hown0 ⟨gb, 0, none⟩ 64 cap (List.replicate 64 (.int .u8 c)) (by simp)
    (fun j u hu => by
      rw [List.getElem?_replicate] at hu
      split at hu
      · rename_i hj
        cases hu
        rw [Addr.add_mid, Nat.zero_add, World.cell?_alloc_lt _ _ _ hgb, hc j hj]
      · cases hu)
    (fun u hu => by rw [List.eq_of_mem_replicate hu]; rfl) (by unfold maxLen; omega) (by omega) (by simp)
  rw [Nat.zero_add, List.nil_append] at hown
  rcases hown.2 with ⟨_, h0⟩ | ⟨g, cap', cur, rfl, hb, hcur, _, _, _, htake⟩
  · omega
  refine ⟨g, cap', w', hrun, hb, (Array.getElem?_eq_some_iff.1 hcur).1, fun j hj => ?_, ((Only.refl [] w).alloc (.cells #[] 5)).grown hgrow (fun k hk => ?_)⟩
  · rw [cell_of_row _ _ _ _ _ _ hcur, ← Array.getElem?_toList, ← List.getElem?_take_of_lt (show j < 64 * 1 by omega), htake, List.getElem?_replicate, if_pos hj]
  · simp [Value.ownBlock] at hk
    exact .inr (by omega)

theorem ownsRow_only {w w' : World} {base : Nat} {e : TypeId} {size n : Nat} {v : Value} {xs : List Value} (h : w.ownsRow base e size v n xs) (ho : Only [] w w') : w'.ownsRow base e size v n xs := by
  have hlt := h.lt
  obtain ⟨h1, h2⟩ := h
  refine ⟨h1, ?_⟩
  rcases h2 with h2 | ⟨g, cap, cur, hv, hg, hh, r⟩
  · exact .inl h2
  · exact .inr ⟨g, cap, cur, hv, hg, (ho.block g (hlt g (by rw [hv]; rfl)).2 (by simp)).trans hh, r⟩

/-- One more write behind a row of its own; all other blocks stay. -/
theorem append60k {w : World} {base : Nat} {lv : Value} {n : Nat} {xs : List Value} (hown : w.ownsRow base 112 2 lv n xs) (hn : n < 1000000000) (hb : base ≤ w.heap.size) (i : Int) (sa : Option Addr) (m c : Nat) (t : TypeId) :
    ∃ v' w', (Builtin.append_ #[79, 79] t #[lv, .slice (some ⟨w.heap.size, 0, none⟩) 1 1]).run Try.prog (w.alloc (.cells #[.int .i64 i, .slice sa m c] 112)) = .ok v' w' ∧ w'.ownsRow base 112 2 v' (n + 1) (xs ++ [.int .i64 i, .slice sa m c]) ∧
      Only lv.ownBlock.toList w w' := by
  obtain ⟨i0, hi, hz0, hz1, hz2⟩ := info_parts info71
  obtain ⟨v', w', hrun, hown', hgrow, hnil, hloc⟩ := run_append_own_at (P := Try.prog) (w.alloc (.cells #[.int .i64 i, .slice sa m c] 112)) base 79 t 112 i0 _ 2 32 Try.underlying79 hi hz0 hz1 hz2 (by simp [Value.cells]) (by omega)
    lv n xs (hown.alloc _) ⟨w.heap.size, 0, none⟩ 1 1 [.int .i64 i, .slice sa m c] (by simp)
    (fun j u hu => by
      rw [Addr.add_mid, Nat.zero_add, cell_of_row _ _ _ _ _ _ (heap_alloc_last w _)]
      simpa using hu)
    (fun u hu => by simp at hu; rcases hu with rfl | rfl <;> rfl) (by unfold maxLen; omega) (by omega) (by simp; omega)
  exact ⟨v', w', hrun, hown', ((Only.refl _ w).alloc _).grown hgrow (fun k hk => .inl (by simp [hk]))⟩

theorem build71 (x : Int) (a : Option Addr) (n c : Nat) (w : World) : (Instr.build 112 #[(0, .int .i64 x), (1, .slice a n c)]).run Try.prog w = .ok (.agg #[.int .i64 x, .slice a n c]) w := by kernel_rfl

def RS.written (R : RS) (i : Int) (v : Array Value) : RS := { R.stepped with L := R.L ++ [(i, v)] }

set_option maxHeartbeats 1000000 in
theorem rwrite_ok {w : World} {r : Nat} {G : List Nat} {R : RS} (h : RAt w r G R) (i c : Int) (gb cap : Nat) (hgb : gb < w.heap.size) (hgr : gb ≠ r) (hc : ∀ j, j < 64 → w.cell? ⟨gb, j, none⟩ = some (.int .u8 c)) (hr : R.reach i = 0) (hf : ¬ R.falls) (hN : R.N < 1000000000) (hlen : R.L.length < 1000000000) :
    Calls Try.prog 49 #[.pointer (some ⟨r, 0, none⟩), .int .i64 i, .slice (some ⟨gb, 0, none⟩) 64 cap] w fun e w' => e = .returned (.int .i64 0) ∧ RPost w w' r G (R.written i (fullA c)) := by
  have ST := Lib.hid (rstep_ok h hf hN)
  obtain ⟨bv, lv, h⟩ := h
  obtain ⟨c0, c1, c2, c3, c4, c5, fz⟩ := h.cells
  obtain ⟨g, cap', rfl, _⟩ := h.b
  clear h hf
  rcases R.reach_cases i with ⟨h0, e⟩ | ⟨h0, h1, e⟩ | ⟨h0, h1, h2, e⟩ | ⟨h0, h1, h2, e⟩
  · omega
  · omega
  · omega
  rw [h0] at c2
  clear hr h0 e
  go_enter Try.func49, Try.ntmps49
  go_wp2_with fail
  refine ST.out.mono ?_
  rintro e w1 ⟨rfl, G1, r1, hs1, hf1, o1⟩
  clear c0 c1 c2 c3 c4 c5 fz ST
  obtain ⟨bv1, lv1, r1⟩ := r1
  obtain ⟨c0, c1, c2, c3, c4, c5, fz⟩ := r1.cells
  have hr1 : r < w1.heap.size := (Array.getElem?_eq_some_iff.1 r1.row).1
  have hgb1 : gb < w1.heap.size := Nat.lt_of_lt_of_le hgb o1.size
  have hc1 : ∀ j, j < 64 → w1.cell? ⟨gb, j, none⟩ = some (.int .u8 c) := fun j hj => (World.cell?_of_block (w := w) (o1.block gb hgb (by simpa using hgr))).trans (hc j hj)
  obtain ⟨v2, w2, xs, run2, own2, puts2, o2⟩ := append60all r1.l r1.lt hlen 79
  obtain ⟨g3, cap3, w3, run3, hg3, hg3', hc3, o3⟩ := append37 (w := w2) (gb := gb) (cap := cap) (c := c) (Nat.lt_of_lt_of_le hgb1 o2.size) (fun j hj => (World.cell?_of_block (w := w1) (o2.block gb hgb1 (by simp))).trans (hc1 j hj)) 34
  obtain ⟨v4, w4, run4, own4, o4⟩ := append60k (ownsRow_only own2 o3) hlen (Nat.le_trans o2.size o3.size) i (some ⟨g3, 0, none⟩) 64 cap3 79
  have o23 := o2.trans o3 (by simp)
  have h4r : w4.heap[r]? = w1.heap[r]? := (o4.block r (Nat.lt_of_lt_of_le hr1 o23.size) (fun hx => by
    simp only [Option.mem_toList] at hx
    have := (own2.lt r hx).1
    omega)).trans (o23.block r hr1 (by simp))
  have d1 : w4.cell? ⟨r, 1, none⟩ = some lv1 := (World.cell?_of_block (w := w1) h4r).trans c1
  have f4 : ∀ i, w4.frozen? ⟨r, i, none⟩ = false := fun i => (World.frozen?_of_block (w := w1) h4r).trans (fz i)
  have hb6 := build600
  have hb3 := build370
  have hb7 := build71
  have RUN2 := Lib.hid run2
  have RUN3 := Lib.hid run3
  have RUN4 := Lib.hid run4
  have ROW := Lib.hid (h4r.trans r1.row)
  have O4 := Lib.hid o4
  have OWN4 := Lib.hid own4
  have HV4 : v4.oneCell' = true ∧ v4.cells = #[v4] := by
    rcases own4.2 with ⟨h1, _⟩ | ⟨g', cap', cur', h1, _⟩ <;> rw [h1] <;> exact ⟨rfl, rfl⟩
  obtain ⟨a4, cp4, hv4⟩ : ∃ a cp, v4 = .slice a (R.L.length + 1) cp := by
    rcases own4.2 with ⟨_, h1⟩ | ⟨g', cap', cur', h1, _⟩
    · omega
    · exact ⟨_, _, h1⟩
  subst hv4
  have R1 := Lib.hid r1
  clear run2 run3 run4 h4r r1 o4 own4 HV4
  go_wp2_with (first | (refine wpL_value rfl (run_builtin_append rfl rfl rfl RUN2.out) ?_) | (refine wpL_value rfl (run_builtin_append rfl rfl rfl RUN3.out) ?_) | (refine wpL_value rfl (run_builtin_append rfl rfl rfl RUN4.out) ?_) | (refine wpL_value rfl (run_buildSlice60 rfl rfl) ?_))
  go_ret
  refine ⟨rfl, RPost.trans hs1 hf1 o1 ?_⟩
  have r1 := R1.out
  have inG : ∀ x ∈ G1, w3.heap[x]? = w1.heap[x]? := fun x hx => o23.block x (r1.lt x hx) (by simp)
  have puts3 : Puts w3 (g3 :: G1) (R.L ++ [(i, fullA c)]) (xs ++ [.int .i64 i, .slice (some ⟨g3, 0, none⟩) 64 cap3]) := (puts2.to inG (fun x hx => by simp [hx])).snoc (p := (i, fullA c)) ⟨g3, cap3, c, rfl, by simp, rfl, hc3⟩
  have out4 : ∀ x ∈ g3 :: G1, w4.heap[x]? = w3.heap[x]? := fun x hx => by
    rcases List.mem_cons.1 hx with rfl | hx
    · exact O4.out.block x hg3' (fun h => by
        simp only [Option.mem_toList] at h
        have := (own2.lt x h).2
        omega)
    · exact O4.out.block x (Nat.lt_of_lt_of_le (r1.lt x hx) o23.size) (fun h => by
        simp only [Option.mem_toList] at h
        have := (own2.lt x h).1
        have := r1.lt x hx
        omega)
  obtain ⟨G2, l4, hG2⟩ := puts3.at_own (by rw [List.length_append]; exact OWN4.out) out4
  have o14 : Only [] w1 w4 := o23.trans O4.out (fun x hx => by simp only [Option.mem_toList] at hx; exact .inr (own2.lt x hx).1)
  have o15 : Only [r] w1 (w4.setCell ⟨r, 1, none⟩ (.slice a4 (R.L.length + 1) cp4)) := (o14.mono (by simp)).setCell (by simp) _
  have new : ∀ x ∈ G2 ++ g3 :: G1, x ∈ G1 ∨ w1.heap.size ≤ x := fun x hx => by
    rcases List.mem_append.1 hx with hx | hx
    · exact .inr (hG2 x hx).1
    · rcases List.mem_cons.1 hx with rfl | hx
      · exact .inr (Nat.le_trans o2.size hg3)
      · exact .inl hx
  have hrn : r ∉ G2 ++ g3 :: G1 := fun hx => by
    rcases new r hx with h | h
    · exact r1.out h
    · omega
  have he : ∀ x ∈ G2 ++ g3 :: G1, (w4.setCell ⟨r, 1, none⟩ (.slice a4 (R.L.length + 1) cp4)).heap[x]? = w4.heap[x]? := fun x hx => Below.heap_setCell _ _ _ _ (fun e => hrn (by rw [show r = x from e.symm]; exact hx))
  refine ⟨G2 ++ g3 :: G1, ⟨bv1, .slice a4 (R.L.length + 1) cp4, ?_, ?_, ?_, hrn, fun x hx => ?_, ⟨r1.ok.n1, r1.ok.n2, ?_, r1.ok.left0, r1.ok.N0⟩⟩, fun x hx => by simp [hx], new, o15⟩
  · rw [heap_setCell_row ROW.out]
    rfl
  · exact r1.b.to (fun x hx => o15.block x (r1.lt x hx) (fun h => r1.out (by simp at h; subst h; exact hx))) (fun x hx => by simp [hx])
  · exact l4.to he (fun x hx => hx)
  · rw [World.size_setCell]
    rcases List.mem_append.1 hx with hx | hx
    · exact (hG2 x hx).2
    · rcases List.mem_cons.1 hx with rfl | hx
      · exact Nat.lt_of_lt_of_le hg3' O4.out.size
      · exact Nat.lt_of_lt_of_le (r1.lt x hx) o14.size
  · intro p hp
    simp only [RS.written, List.mem_append, List.mem_singleton] at hp
    rcases hp with hp | rfl
    · exact r1.ok.at' p hp
    · simp only [RS.written, RS.stepped]; omega
end Go.Proofs.Ytoccnaebckcfmaa.Ref
end

section
set_option linter.unusedSimpArgs false
set_option linter.unusedVariables false
set_option maxRecDepth 8000
namespace Go.Proofs.Ytoccnaebckcfmaa.Ref
open Go.RowKit Go.Proofs.Ytoccnaebckcfmaa
open Go.ChangeMaps (setBlock)

/-- A line: a sector, its bytes (all equal), whether it is pinned. -/
structure Ln where
  at' : Int
  c : Int
  pin : Bool
structure RCS where
  most : Int
  missed : Int
  groups : Int
  opn : Bool
  L : List Ln
  R : RS

def LnIs (w : World) (G : List Nat) (g k : Nat) (p : Ln) : Prop :=
  w.cell? ⟨g, k * 3, none⟩ = some (.int .i64 p.at') ∧ (∃ sv, w.cell? ⟨g, k * 3 + 1, none⟩ = some sv ∧ BytesIs w G sv (fullA p.c)) ∧ w.cell? ⟨g, k * 3 + 2, none⟩ = some (.bool p.pin)
def LnsAt (w : World) (G : List Nat) (lv : Value) (L : List Ln) : Prop :=
  (lv = .slice none 0 0 ∧ L = []) ∨ ∃ g cap, lv = .slice (some ⟨g, 0, none⟩) L.length cap ∧ L.length ≤ cap ∧ cap ≤ 9223372036854775807 ∧ g ∈ G ∧ ∀ k p, L[k]? = some p → LnIs w G g k p
/-- The cells of lines. -/
structure Lns (w : World) (G : List Nat) (l : List Ln) (xs : List Value) : Prop where
  len : xs.length = l.length * 3
  cell : ∀ k p, l[k]? = some p → xs[k * 3]? = some (.int .i64 p.at') ∧ (∃ sv, xs[k * 3 + 1]? = some sv ∧ BytesIs w G sv (fullA p.c)) ∧ xs[k * 3 + 2]? = some (.bool p.pin)

def rcrow (r : Nat) (X : RCS) (lv : Value) : Array Value := #[pp r, .int .i64 0, .int .i64 40, .int .i64 37, .int .i64 X.most, .int .i64 X.missed, .bool X.opn, lv, .int .i64 X.groups]
structure RCOk (X : RCS) : Prop where
  len : X.L.length ≤ 1000000
  m0 : 0 ≤ X.missed
  m1 : X.missed ≤ 1000000000
  g0 : 0 ≤ X.groups
  g1 : X.groups ≤ 1000000000
  at0 : ∀ p ∈ X.L, -9223372036854775808 ≤ p.at' ∧ p.at' ≤ 9223372036854775807
structure RCIs (w : World) (y r : Nat) (lv : Value) (G : List Nat) (X : RCS) : Prop where
  row : w.heap[y]? = some (.cells (rcrow r X lv) 44 (0, 0))
  lines : LnsAt w G lv X.L
  disk : RAt w r G X.R
  ne : y ≠ r
  out : y ∉ G
  ok : RCOk X
def RCAt (w : World) (y r : Nat) (G : List Nat) (X : RCS) : Prop := ∃ lv, RCIs w y r lv G X
def RCPost (w w' : World) (y r : Nat) (G : List Nat) (X' : RCS) : Prop := ∃ G', RCAt w' y r G' X' ∧ (∀ x ∈ G, x ∈ G') ∧ (∀ x ∈ G', x ∈ G ∨ w.heap.size ≤ x) ∧ Only [y, r] w w'

section
variable {w w' : World} {G G' : List Nat}
theorem LnIs.to {g k : Nat} {p : Ln} (h : LnIs w G g k p) (hg : g ∈ G) (he : ∀ x ∈ G, w'.heap[x]? = w.heap[x]?) (hG : ∀ x ∈ G, x ∈ G') : LnIs w' G' g k p := by
  obtain ⟨h1, ⟨sv, h2, h3⟩, h4⟩ := h
  exact ⟨(World.cell?_of_block (w := w) (he g hg)).trans h1, ⟨sv, (World.cell?_of_block (w := w) (he g hg)).trans h2, h3.to he hG⟩, (World.cell?_of_block (w := w) (he g hg)).trans h4⟩
theorem LnsAt.to {lv : Value} {L : List Ln} (h : LnsAt w G lv L) (he : ∀ x ∈ G, w'.heap[x]? = w.heap[x]?) (hG : ∀ x ∈ G, x ∈ G') : LnsAt w' G' lv L := by
  rcases h with h | ⟨g, cap, h1, h2, h3, h4, h5⟩
  · exact .inl h
  · exact .inr ⟨g, cap, h1, h2, h3, hG g h4, fun k p hp => (h5 k p hp).to h4 he hG⟩
theorem LnsAt.slice {lv : Value} {L : List Ln} (h : LnsAt w G lv L) : ∃ a cap, lv = .slice a L.length cap ∧ L.length ≤ cap ∧ cap ≤ 9223372036854775807 ∧ ∀ k p, L[k]? = some p → ∃ g, a = some ⟨g, 0, none⟩ ∧ g ∈ G ∧ LnIs w G g k p := by
  rcases h with ⟨rfl, rfl⟩ | ⟨g, cap, rfl, h2, h3, h4, h5⟩
  · exact ⟨none, 0, rfl, by simp, by omega, by simp⟩
  · exact ⟨_, cap, rfl, h2, h3, fun k p hp => ⟨g, rfl, h4, h5 k p hp⟩⟩
theorem RCAt.congr {y r : Nat} {X : RCS} (h : RCAt w y r G X) (he : ∀ x ∈ y :: r :: G, w'.heap[x]? = w.heap[x]?) : RCAt w' y r G X := by
  obtain ⟨lv, h⟩ := h
  exact ⟨lv, (he y (by simp)).trans h.row, h.lines.to (fun x hx => he x (by simp [hx])) (fun _ hx => hx), h.disk.congr (fun x hx => he x (by simp at hx ⊢; exact .inr hx)), h.ne, h.out, h.ok⟩
theorem RCAt.lt {y r : Nat} {X : RCS} (h : RCAt w y r G X) : ∀ x ∈ y :: r :: G, x < w.heap.size := by
  obtain ⟨lv, h⟩ := h
  intro x hx
  rcases List.mem_cons.1 hx with rfl | hx
  · exact (Array.getElem?_eq_some_iff.1 h.row).1
  · exact h.disk.lt x hx
theorem RCIs.cells {y r : Nat} {lv : Value} {X : RCS} (h : RCIs w y r lv G X) : w.cell? ⟨y, 0, none⟩ = some (.pointer (some ⟨r, 0, none⟩)) ∧ w.cell? ⟨y, 1, none⟩ = some (.int .i64 0) ∧ w.cell? ⟨y, 2, none⟩ = some (.int .i64 40) ∧ w.cell? ⟨y, 3, none⟩ = some (.int .i64 37) ∧ w.cell? ⟨y, 4, none⟩ = some (.int .i64 X.most) ∧
    w.cell? ⟨y, 5, none⟩ = some (.int .i64 X.missed) ∧ w.cell? ⟨y, 6, none⟩ = some (.bool X.opn) ∧ w.cell? ⟨y, 7, none⟩ = some lv ∧ w.cell? ⟨y, 8, none⟩ = some (.int .i64 X.groups) ∧ ∀ j, w.frozen? ⟨y, j, none⟩ = false := by
  have hb := h.row
  refine ⟨?_, ?_, ?_, ?_, ?_, ?_, ?_, ?_, ?_, fun j => by simp [World.frozen?, hb]⟩ <;> (rw [cell_of_row _ _ _ _ _ _ hb]; rfl)
end

/-- Where a sector's line stands, from line k on. -/
def findL (i : Int) : List Ln → Nat → Int
  | [], _ => -1
  | p :: l, k => if p.at' = i then k else findL i l (k + 1)

def FindPost (z : Int) (w : World) (e : Ending) (w' : World) : Prop := e = .returned (.int .i64 z) ∧ Only [] w w'

set_option maxHeartbeats 2000000 in
theorem find_any {w : World} {y r : Nat} {G : List Nat} {X : RCS} (h : RCAt w y r G X) (i : Int) :
    Calls Try.prog 41 #[pp y, .int .i64 i] w fun e w' => FindPost (findL i X.L 0) w e w' := by
  obtain ⟨lv, h⟩ := h
  obtain ⟨c0, c1, c2, c3, c4, c5, c6, c7, c8, fz⟩ := h.cells
  have hlen := h.ok.len
  have hyl : y < w.heap.size := (Array.getElem?_eq_some_iff.1 h.row).1
  obtain ⟨a, cap, rfl, hcap, hcap2, hall⟩ := h.lines.slice
  have HL := Lib.hid hall
  have HY := Lib.hid (fun (x : World) (o : Only [] w x) => (World.cell?_of_block (w := w) (a := ⟨y, 7, none⟩) (o.block y hyl (by simp))).trans c7)
  have HLT := Lib.hid (RCAt.lt ⟨_, h⟩)
  clear h c0 c1 c2 c3 c4 c5 c6 c8 fz hall c7
  show Calls Try.prog 41 #[.pointer (some ⟨y, 0, none⟩), .int .i64 i] w _
  go_enter Try.func41, Try.ntmps41
  go_wp2
  go_loopw [5] (fun x wr => ∃ k : Nat, k ≤ X.L.length ∧ x = .int .i64 k ∧ findL i X.L 0 = findL i (X.L.drop k) k ∧ Only [] w wr) (fun x _ => X.L.length - (RowKit.intOf x).toNat)
  case atStart => exact ⟨0, by omega, rfl, by simp, Only.refl _ _⟩
  case round =>
    obtain ⟨k, hk, rfl, he, ow⟩ := hrel
    have c7 := HY.out wr ow
    by_cases hkl : k < X.L.length
    · obtain ⟨p, hp⟩ : ∃ p, X.L[k]? = some p := ⟨_, List.getElem?_eq_getElem hkl⟩
      obtain ⟨g, rfl, hg, q1, _, _⟩ := HL.out k p hp
      have t1 : wr.cell? ⟨g, k * 3, none⟩ = some (.int .i64 p.at') := (World.cell?_of_block (w := w) (ow.block g (HLT.out g (by simp [hg])) (by simp))).trans q1
      have hdrop : findL i (X.L.drop k) k = if p.at' = i then (k : Int) else findL i (X.L.drop (k + 1)) (k + 1) := by
        rw [List.drop_eq_getElem_cons hkl]
        have : X.L[k] = p := by rw [List.getElem?_eq_getElem hkl] at hp; exact Option.some.inj hp
        rw [this]
        rfl
      have HE := Lib.hid (he.trans hdrop)
      have OW := Lib.hid ow
      clear he hdrop ow q1 hp
      by_cases hpi : p.at' = i
      · have hb : (p.at' == i) = true := by simp [hpi]
        have e2 : findL i X.L 0 = k := by have := HE.out; rw [if_pos hpi] at this; exact this
        have FIN : Hid (FindPost (findL i X.L 0) w (.returned (.int .i64 k)) wr) := (⟨by rw [e2], OW.out⟩ : FindPost (findL i X.L 0) w (.returned (.int .i64 k)) wr)
        clear e2 hpi
        go_wp2
        go_ret
        exact FIN.out
      · have hb : (p.at' == i) = false := by simp [hpi]
        have HE2 := Lib.hid (by have := HE.out; rw [if_neg hpi] at this; exact this)
        clear hpi
        go_wp2
        go_roundw
        case rel => exact ⟨k + 1, by omega, by go_num, HE2.out, OW.out⟩
        case measure => simp [RowKit.intOf]; omega
    · have hkk : k = X.L.length := by omega
      subst hkk
      have e2 : findL i X.L 0 = -1 := by rw [he, List.drop_length]; rfl
      have FIN : Hid (FindPost (findL i X.L 0) w (.returned (.int .i64 (-1))) wr) := (⟨by rw [e2], ow⟩ : FindPost (findL i X.L 0) w (.returned (.int .i64 (-1))) wr)
      clear he ow e2
      go_wp2
      go_ret
      exact FIN.out
end Go.Proofs.Ytoccnaebckcfmaa.Ref
end

section
set_option linter.unusedSimpArgs false
set_option linter.unusedVariables false
set_option maxRecDepth 8000
namespace Go.Proofs.Ytoccnaebckcfmaa.Ref
open Go.RowKit Go.Proofs.Ytoccnaebckcfmaa
open Go.ChangeMaps (setBlock)

theorem Lns.nil (w : World) (G : List Nat) : Lns w G [] [] := ⟨rfl, by simp⟩
theorem Lns.append {w : World} {G : List Nat} {l l' : List Ln} {xs ys : List Value} (h : Lns w G l xs) (h' : Lns w G l' ys) : Lns w G (l ++ l') (xs ++ ys) := by
  refine ⟨by simp [h.len, h'.len]; omega, fun k p hp => ?_⟩
  by_cases hk : k < l.length
  · rw [List.getElem?_append_left hk] at hp
    rw [List.getElem?_append_left (by rw [h.len]; omega), List.getElem?_append_left (by rw [h.len]; omega), List.getElem?_append_left (by rw [h.len]; omega)]
    exact h.cell k p hp
  · rw [List.getElem?_append_right (by omega)] at hp
    rw [List.getElem?_append_right (by rw [h.len]; omega), List.getElem?_append_right (by rw [h.len]; omega), List.getElem?_append_right (by rw [h.len]; omega), h.len]
    have := h'.cell (k - l.length) p hp
    rw [show k * 3 - l.length * 3 = (k - l.length) * 3 by omega, show k * 3 + 1 - l.length * 3 = (k - l.length) * 3 + 1 by omega, show k * 3 + 2 - l.length * 3 = (k - l.length) * 3 + 2 by omega]
    exact this
theorem Lns.one {w : World} {G : List Nat} {p : Ln} {sv : Value} (hs : BytesIs w G sv (fullA p.c)) : Lns w G [p] [.int .i64 p.at', sv, .bool p.pin] := by
  refine ⟨rfl, fun k q hq => ?_⟩
  have hk : k = 0 := by have := (List.getElem?_eq_some_iff.1 hq).1; simp at this; exact this
  subst hk
  simp at hq
  subst hq
  exact ⟨rfl, ⟨sv, rfl, hs⟩, rfl⟩
theorem Lns.to {w w' : World} {G G' : List Nat} {l : List Ln} {xs : List Value} (h : Lns w G l xs) (he : ∀ x ∈ G, w'.heap[x]? = w.heap[x]?) (hG : ∀ x ∈ G, x ∈ G') : Lns w' G' l xs :=
  ⟨h.len, fun k p hp => by obtain ⟨h1, ⟨sv, h2, h3⟩, h4⟩ := h.cell k p hp; exact ⟨h1, ⟨sv, h2, h3.to he hG⟩, h4⟩⟩
theorem Lns.one_cells {w : World} {G : List Nat} {l : List Ln} {xs : List Value} (h : Lns w G l xs) : ∀ u ∈ xs, u.oneCell' = true := by
  intro u hu
  obtain ⟨j, hj⟩ := List.getElem?_of_mem hu
  have hjl := (List.getElem?_eq_some_iff.1 hj).1
  rw [h.len] at hjl
  obtain ⟨p, hp⟩ : ∃ p, l[j / 3]? = some p := ⟨_, List.getElem?_eq_getElem (by omega)⟩
  obtain ⟨h1, ⟨sv, h2, g, cap, c, rfl, _⟩, h4⟩ := h.cell _ p hp
  have : j = j / 3 * 3 ∨ j = j / 3 * 3 + 1 ∨ j = j / 3 * 3 + 2 := by omega
  rcases this with e | e | e
  · rw [e, h1] at hj; cases hj; rfl
  · rw [e, h2] at hj; cases hj; rfl
  · rw [e, h4] at hj; cases hj; rfl
/-- The cells of lines that lie in a row. -/
theorem Lns.of {w : World} {G : List Nat} {g o : Nat} {l : List Ln} (h : ∀ k p, l[k]? = some p → LnIs w G g (o + k) p) : ∃ xs, Lns w G l xs ∧ ∀ j u, xs[j]? = some u → w.cell? ⟨g, o * 3 + j, none⟩ = some u := by
  refine ⟨(List.range (l.length * 3)).map (fun j => (w.cell? ⟨g, o * 3 + j, none⟩).getD undef), ⟨by simp, fun k p hp => ?_⟩, fun j u hu => ?_⟩
  · have hk : k < l.length := (List.getElem?_eq_some_iff.1 hp).1
    obtain ⟨h1, ⟨sv, h2, h3⟩, h4⟩ := h k p hp
    have e1 : (o + k) * 3 = o * 3 + k * 3 := by omega
    rw [e1] at h1 h2 h4
    have key : ∀ j u, j < l.length * 3 → w.cell? ⟨g, o * 3 + j, none⟩ = some u → ((List.range (l.length * 3)).map (fun j => (w.cell? ⟨g, o * 3 + j, none⟩).getD undef))[j]? = some u := fun j u hj hu => by
      rw [List.getElem?_map, List.getElem?_range hj]
      simp [hu]
    exact ⟨key _ _ (by omega) h1, ⟨sv, key _ _ (by omega) (by rw [← Nat.add_assoc]; exact h2), h3⟩, key _ _ (by omega) (by rw [← Nat.add_assoc]; exact h4)⟩
  · have hj : j < l.length * 3 := by have := (List.getElem?_eq_some_iff.1 hu).1; simpa using this
    rw [List.getElem?_map, List.getElem?_range hj] at hu
    simp only [Option.map_some, Option.some.injEq] at hu
    obtain ⟨p, hp⟩ : ∃ p, l[j / 3]? = some p := ⟨_, List.getElem?_eq_getElem (by omega)⟩
    obtain ⟨h1, ⟨sv, h2, h3⟩, h4⟩ := h _ p hp
    have : j = j / 3 * 3 ∨ j = j / 3 * 3 + 1 ∨ j = j / 3 * 3 + 2 := by omega
    rcases this with e | e | e
    · rw [show (o + j / 3) * 3 = o * 3 + j by omega] at h1; rw [h1] at hu ⊢; simpa using hu
    · rw [show (o + j / 3) * 3 + 1 = o * 3 + j by omega] at h2; rw [h2] at hu ⊢; simpa using hu
    · rw [show (o + j / 3) * 3 + 2 = o * 3 + j by omega] at h4; rw [h4] at hu ⊢; simpa using hu
theorem Lns.at_own {w w' : World} {G : List Nat} {l : List Ln} {xs : List Value} {base : Nat} {v : Value} (h : Lns w G l xs) (hown : w'.ownsRow base 46 3 v l.length xs) (he : ∀ x ∈ G, w'.heap[x]? = w.heap[x]?) :
    ∃ G', LnsAt w' (G' ++ G) v l ∧ ∀ x ∈ G', base ≤ x ∧ x < w'.heap.size := by
  rcases hown.2 with ⟨h1, h2⟩ | ⟨g, cap, cur, rfl, hb, hcur, hc1, hc2, _, htake⟩
  · exact ⟨[], .inl ⟨h1, List.eq_nil_of_length_eq_zero h2⟩, by simp⟩
  · refine ⟨[g], .inr ⟨g, cap, rfl, hc1, by unfold maxLen at hc2; omega, by simp, fun k p hp => ?_⟩, fun x hx => by simp at hx; subst hx; exact ⟨hb, (Array.getElem?_eq_some_iff.1 hcur).1⟩⟩
    have hk : k < l.length := (List.getElem?_eq_some_iff.1 hp).1
    obtain ⟨h1, ⟨sv, h2, h3⟩, h4⟩ := h.cell k p hp
    have hx : ∀ j, j < l.length * 3 → w'.cell? ⟨g, j, none⟩ = xs[j]? := fun j hj => by
      rw [cell_of_row _ _ _ _ _ _ hcur, ← htake, List.getElem?_take_of_lt hj, Array.getElem?_toList]
    exact ⟨by rw [hx _ (by omega)]; exact h1, ⟨sv, by rw [hx _ (by omega)]; exact h2, h3.to he (fun x hx => by simp [hx])⟩, by rw [hx _ (by omega)]; exact h4⟩

theorem info46 : (Try.prog.info? 46).map (fun i => (i.zero, i.size, i.bytes)) = some (some (.agg #[.int .i64 0, .slice none 0 0, .bool false]), 3, 40) := by kernel_rfl
theorem info46s : (Try.prog.info? 46).map (·.size) = some 3 := by kernel_rfl
theorem build42 (x : Int) (a : Option Addr) (n c : Nat) (b : Bool) (w : World) : (Instr.buildSlice 42 1 #[(0, .agg #[.int .i64 x, .slice a n c, .bool b])]).run Try.prog w = .ok (.slice (some ⟨w.heap.size, 0, none⟩) 1 1) (w.alloc (.cells #[.int .i64 x, .slice a n c, .bool b] 46)) := by kernel_rfl
theorem build420 (w : World) : (Instr.buildSlice 42 0 #[]).run Try.prog w = .ok (.slice (some ⟨w.heap.size, 0, none⟩) 0 0) (w.alloc (.cells #[] 46)) := by kernel_rfl
theorem append42nil (w : World) (g : Nat) (t : TypeId) : (Builtin.append_ #[42, 42] t #[.slice (some ⟨g, 0, none⟩) 0 0, .slice none 0 0]).run Try.prog w = .ok (.slice (some ⟨g, 0, none⟩) 0 0) w := by
  kernel_rfl

section
variable {o : Oper} {a : Act} {w : World}
theorem run_load46 {x : Operand} {g k : Nat} {u v z : Value} (ho : o.op = .load 46 x) (hx : a.eval x = .pointer (some ⟨g, k, none⟩)) (h1 : w.cell? ⟨g, k, none⟩ = some u) (h2 : w.cell? ⟨g, k + 1, none⟩ = some v) (h3 : w.cell? ⟨g, k + 2, none⟩ = some z) :
    (execOp a.eval o).run Try.prog w = .ok (.value (.agg #[u, v, z])) w := by
  have hr : w.rangeAt g k [u, v, z] := fun j q hq => by
    match j, hq with
    | 0, hq => simp at hq; subst hq; exact h1
    | 1, hq => simp at hq; subst hq; exact h2
    | 2, hq => simp at hq; subst hq; exact h3
    | j + 3, hq => simp at hq
  unfold execOp
  simp only [ho, hx, Instr.loadAt, Instr.sureAddr, Sem.run_bind, Sem.run_pure, Result.andThen_ok, run_loadVar_mid (P := Try.prog) w g k 46 [u, v, z] _ hr Try.underlying46 rfl (by rw [info46s]; rfl)]
theorem run_buildSlice42 {x : Operand} {i : Int} {sa : Option Addr} {n c : Nat} {b : Bool} (ho : o.op = .buildSlice 42 1 #[(0, x)]) (hx : a.eval x = .agg #[.int .i64 i, .slice sa n c, .bool b]) :
    (execOp a.eval o).run Try.prog w = .ok (.value (.slice (some ⟨w.heap.size, 0, none⟩) 1 1)) (w.alloc (.cells #[.int .i64 i, .slice sa n c, .bool b] 46)) := by
  unfold execOp
  simp only [ho, List.map_toArray, List.map_cons, List.map_nil, hx, Sem.run_bind, build42, Result.andThen_ok, Sem.run_pure]
end

/-- Lines behind a row of its own. -/
theorem append42 {w : World} {base : Nat} {lv : Value} {n : Nat} {xs : List Value} (hown : w.ownsRow base 46 3 lv n xs) (hb : base ≤ w.heap.size) {g o m cap : Nat} {ys : List Value} (hl : ys.length = m * 3) (hc : ∀ j u, ys[j]? = some u → w.cell? ⟨g, o + j, none⟩ = some u) (h1 : ∀ u ∈ ys, u.oneCell' = true) (hn : n + m ≤ 2000000) (t : TypeId) :
    ∃ v' w', (Builtin.append_ #[42, 42] t #[lv, .slice (some ⟨g, o, none⟩) m cap]).run Try.prog w = .ok v' w' ∧ w'.ownsRow base 46 3 v' (n + m) (xs ++ ys) ∧ Only lv.ownBlock.toList w w' ∧ (v'.ownBlock = lv.ownBlock ∨ v'.ownBlock = some w.heap.size) := by
  obtain ⟨i0, hi, hz0, hz1, hz2⟩ := info_parts info46
  obtain ⟨v', w', hrun, hown', hgrow, hnil, hloc⟩ := run_append_own_at (P := Try.prog) w base 42 t 46 i0 _ 3 40 Try.underlying42 hi hz0 hz1 hz2 (by simp [Value.cells]) (by omega)
    lv n xs hown ⟨g, o, none⟩ m cap ys hl (fun j u hu => by rw [Addr.add_mid]; exact hc j u hu) h1 (by unfold maxLen; omega) (by omega) hb
  exact ⟨v', w', hrun, hown', (Only.refl _ w).grown hgrow (fun k hk => .inl (by simp [hk])), hloc⟩
/-- One more line. -/
theorem append42k {w : World} {base : Nat} {lv : Value} {n : Nat} {xs : List Value} (hown : w.ownsRow base 46 3 lv n xs) (hn : n < 1000000) (hb : base ≤ w.heap.size) (i : Int) (sa : Option Addr) (m c : Nat) (b : Bool) (t : TypeId) :
    ∃ v' w', (Builtin.append_ #[42, 42] t #[lv, .slice (some ⟨w.heap.size, 0, none⟩) 1 1]).run Try.prog (w.alloc (.cells #[.int .i64 i, .slice sa m c, .bool b] 46)) = .ok v' w' ∧ w'.ownsRow base 46 3 v' (n + 1) (xs ++ [.int .i64 i, .slice sa m c, .bool b]) ∧
      Only lv.ownBlock.toList w w' := by
  obtain ⟨v', w', h1, h2, h3, _⟩ := append42 (hown.alloc (.cells #[.int .i64 i, .slice sa m c, .bool b] 46)) (by simp; omega) (g := w.heap.size) (o := 0) (m := 1) (cap := 1) (ys := [.int .i64 i, .slice sa m c, .bool b]) (by simp)
    (fun j u hu => by
      rw [Nat.zero_add, cell_of_row _ _ _ _ _ _ (heap_alloc_last w _)]
      simpa using hu)
    (fun u hu => by simp at hu; rcases hu with rfl | rfl | rfl <;> rfl) (by omega) t
  exact ⟨v', w', h1, h2, ((Only.refl _ w).alloc _).trans h3 (fun x hx => .inl hx)⟩
end Go.Proofs.Ytoccnaebckcfmaa.Ref
end

section
set_option linter.unusedSimpArgs false
set_option linter.unusedVariables false
set_option maxRecDepth 8000
namespace Go.Proofs.Ytoccnaebckcfmaa.Ref
open Go.RowKit Go.Proofs.Ytoccnaebckcfmaa
open Go.ChangeMaps (setBlock)

section
variable {o : Oper} {a : Act} {w : World}
theorem run_field44 {x : Operand} {b k : Nat} (hk : k < 9) (ho : o.op = .fieldAddr 44 x k) (hx : a.eval x = .pointer (some ⟨b, 0, none⟩)) :
    ∀ w, (execOp a.eval o).run Try.prog w = .ok (.value (.pointer (some ⟨b, k, none⟩))) w := by
  intro w
  have : k = 0 ∨ k = 1 ∨ k = 2 ∨ k = 3 ∨ k = 4 ∨ k = 5 ∨ k = 6 ∨ k = 7 ∨ k = 8 := by omega
  unfold execOp
  simp only [ho, hx]
  rcases this with rfl | rfl | rfl | rfl | rfl | rfl | rfl | rfl | rfl <;> go_simp
theorem run_field46 {x : Operand} {b off k : Nat} (hk : k < 3) (ho : o.op = .fieldAddr 46 x k) (hx : a.eval x = .pointer (some ⟨b, off, none⟩)) :
    ∀ w, (execOp a.eval o).run Try.prog w = .ok (.value (.pointer (some ⟨b, off + k, none⟩))) w := by
  intro w
  have : k = 0 ∨ k = 1 ∨ k = 2 := by omega
  unfold execOp
  simp only [ho, hx]
  rcases this with rfl | rfl | rfl <;> go_simp
theorem run_index42 {x y : Operand} {g j n cap : Nat} (hj : j < n) (ho : o.op = .indexAddr 42 x y) (hx : a.eval x = .slice (some ⟨g, 0, none⟩) n cap) (hy : a.eval y = .int .i64 j) : ∀ w, (execOp a.eval o).run Try.prog w = .ok (.value (.pointer (some ⟨g, j * 3, none⟩))) w := by
  intro w
  unfold execOp
  simp only [ho, hx, hy]
  go_simp
theorem isAgg42 (w : World) : (isAgg 42).run Try.prog w = .ok false w := by kernel_rfl
theorem isAgg4 (w : World) : (isAgg 4).run Try.prog w = .ok false w := by kernel_rfl
end

section
variable {w w' w8 : World} {y r : Nat} {lv v' : Value} {G : List Nat} {X : RCS}
/-- Blocks more that are never written again. -/
theorem RCAt.more (h : RCAt w y r G X) {x : Nat} (hx : x < w.heap.size) (hy : x ≠ y) (hr : x ≠ r) : RCAt w y r (x :: G) X := by
  obtain ⟨lv, h⟩ := h
  obtain ⟨bv, dv, hd⟩ := h.disk
  refine ⟨lv, h.row, h.lines.to (fun _ _ => rfl) (fun _ hx => by simp [hx]), RAt.to ⟨bv, dv, hd⟩ (fun _ _ => rfl) (fun _ hx => by simp [hx]) (fun hm => ?_) (fun z hz => ?_), h.ne, fun hm => ?_, h.ok⟩
  · rcases List.mem_cons.1 hm with e | e
    · exact hr e.symm
    · exact hd.out e
  · rcases List.mem_cons.1 hz with rfl | hz
    · exact hx
    · exact hd.lt z hz
  · rcases List.mem_cons.1 hm with e | e
    · exact hy e.symm
    · exact h.out e
/-- Other lines. -/
theorem RCIs.setL (h : RCIs w y r lv G X) (o : Only [] w w8) {G7 : List Nat} {L' : List Ln} (hl : LnsAt w8 (G7 ++ G) v' L') (hG7 : ∀ x ∈ G7, w.heap.size ≤ x ∧ x < w8.heap.size) (hlen : L'.length ≤ 1000000) (hat : ∀ p ∈ L', -9223372036854775808 ≤ p.at' ∧ p.at' ≤ 9223372036854775807) : RCPost w (w8.setCell ⟨y, 7, none⟩ v') y r G { X with L := L' } := by
  have hlt := RCAt.lt ⟨_, h⟩
  have hy := hlt y (by simp)
  have hr := hlt r (by simp)
  obtain ⟨bv, dv, hd⟩ := h.disk
  have hyG : y ∉ G7 ++ G := fun hm => by
    rcases List.mem_append.1 hm with e | e
    · have := (hG7 y e).1; omega
    · exact h.out e
  have he : ∀ x, x ≠ y → (w8.setCell ⟨y, 7, none⟩ v').heap[x]? = w8.heap[x]? := fun x hx => Below.heap_setCell _ _ _ _ hx
  refine ⟨G7 ++ G, ⟨v', ?_, hl.to (fun x hx => he x (fun e => hyG (e ▸ hx))) (fun _ hx => hx), ?_, h.ne, hyG, ⟨hlen, h.ok.m0, h.ok.m1, h.ok.g0, h.ok.g1, hat⟩⟩, fun x hx => by simp [hx], fun x hx => ?_, (o.mono (by simp)).setCell (.inl (by simp)) _⟩
  · have h8 := (o.block y hy (by simp)).trans h.row
    rw [heap_setCell_row h8]
    rfl
  · refine RAt.to ⟨bv, dv, hd⟩ (fun x hx => ?_) (fun _ hx => by simp [hx]) (fun hm => ?_) (fun x hx => ?_)
    · have hxy : x ≠ y := fun e => by
        rcases List.mem_cons.1 hx with e2 | e2
        · exact h.ne (e.symm.trans e2)
        · exact h.out (e ▸ e2)
      rw [he x hxy]
      exact o.block x (hlt x (by simp at hx ⊢; exact .inr hx)) (by simp)
    · rcases List.mem_append.1 hm with e | e
      · have := (hG7 r e).1; omega
      · exact hd.out e
    · rw [World.size_setCell]
      rcases List.mem_append.1 hx with e | e
      · exact (hG7 x e).2
      · exact Nat.lt_of_lt_of_le (hd.lt x e) o.size
  · rcases List.mem_append.1 hx with e | e
    · exact .inr (hG7 x e).1
    · exact .inl e
end

/-- A line is the last one. -/
def useR (L : List Ln) (p : Ln) : List Ln := L.filter (fun q => decide (q.at' ≠ p.at')) ++ [p]

theorem ownsRow_only2 {w w' : World} {base : Nat} {e : TypeId} {size n : Nat} {v : Value} {xs : List Value} (h : w.ownsRow base e size v n xs) (ho : Only [] w w') : w'.ownsRow base e size v n xs := ownsRow_only h ho

theorem own_slice {w : World} {base : Nat} {e : TypeId} {size n : Nat} {v : Value} {xs : List Value} (h : w.ownsRow base e size v n xs) : ∃ a c, v = .slice a n c := by
  rcases h.2 with ⟨h1, h2⟩ | ⟨g', cap', cur', h1, _⟩
  · exact ⟨none, 0, by rw [h1, h2]⟩
  · exact ⟨_, _, h1⟩
structure UseI (w : World) (G : List Nat) (xb base : Nat) (X : RCS) (p : Ln) (box : Array Value) (k : Nat) (v4 : Value) (xs : List Value) (wr : World) : Prop where
  only : Only [] w wr
  own : wr.ownsRow base 46 3 v4 ((X.L.take k).filter (fun q => decide (q.at' ≠ p.at'))).length xs
  lns : Lns w G ((X.L.take k).filter (fun q => decide (q.at' ≠ p.at'))) xs
  box : wr.heap[xb]? = some (.cells box 46 (0, 0))
  size : base ≤ wr.heap.size

theorem UseI.grow {w : World} {G : List Nat} {xb : Nat} {X : RCS} {p q : Ln} {box : Array Value} {k : Nat} {v4 : Value} {xs : List Value} {wr : World} (h : UseI w G xb (w.heap.size + 1) X p box k v4 xs wr) (hxb : xb = w.heap.size) (hq : X.L[k]? = some q) (hne : q.at' ≠ p.at') (hlen : X.L.length ≤ 1000000) {g cap : Nat} (hs : BytesIs w G (.slice (some ⟨g, 0, none⟩) 64 cap) (fullA q.c)) (t : TypeId) :
    ∃ v' w', (Builtin.append_ #[42, 42] t #[v4, .slice (some ⟨wr.heap.size, 0, none⟩) 1 1]).run Try.prog (wr.alloc (.cells #[.int .i64 q.at', .slice (some ⟨g, 0, none⟩) 64 cap, .bool q.pin] 46)) = .ok v' w' ∧ UseI w G xb (w.heap.size + 1) X p box (k + 1) v' (xs ++ [.int .i64 q.at', .slice (some ⟨g, 0, none⟩) 64 cap, .bool q.pin]) w' := by
  have hkl := (List.getElem?_eq_some_iff.1 hq).1
  have hfl : ((X.L.take k).filter (fun q => decide (q.at' ≠ p.at'))).length ≤ k := by
    exact Nat.le_trans (List.length_filter_le _ _) (by rw [List.length_take]; omega)
  have e1 : (X.L.take (k + 1)).filter (fun q => decide (q.at' ≠ p.at')) = (X.L.take k).filter (fun q => decide (q.at' ≠ p.at')) ++ [q] := by
    rw [List.take_add_one, hq, List.filter_append]
    simp [hne]
  obtain ⟨v', w', h1, h2, h3⟩ := append42k h.own (by omega) h.size q.at' (some ⟨g, 0, none⟩) 64 cap q.pin t
  have own : ∀ x ∈ v4.ownBlock.toList, w.heap.size + 1 ≤ x := fun x hx => (h.own.lt x (by simpa using hx)).1
  have hxl := (Array.getElem?_eq_some_iff.1 h.box).1
  refine ⟨v', w', h1, ⟨h.only.trans h3 (fun x hx => .inr (by have := own x hx; omega)), ?_, ?_, ?_, by have := h3.size; have := h.size; omega⟩⟩
  · rw [e1, List.length_append]; exact h2
  · rw [e1]; exact h.lns.append (Lns.one (p := q) hs)
  · rw [h3.block xb hxl (fun hx => by have := own xb hx; omega)]; exact h.box
theorem UseI.skip {w : World} {G : List Nat} {xb base : Nat} {X : RCS} {p q : Ln} {box : Array Value} {k : Nat} {v4 : Value} {xs : List Value} {wr : World} (h : UseI w G xb base X p box k v4 xs wr) (hq : X.L[k]? = some q) (hne : q.at' = p.at') : UseI w G xb base X p box (k + 1) v4 xs wr.drew := by
  have e1 : (X.L.take (k + 1)).filter (fun q => decide (q.at' ≠ p.at')) = (X.L.take k).filter (fun q => decide (q.at' ≠ p.at')) := by
    rw [List.take_add_one, hq, List.filter_append]
    simp [hne]
  exact ⟨h.only.drew, by rw [e1]; exact ownsRow_only h.own (Only.refl [] wr).drew, by rw [e1]; exact h.lns, h.box, h.size⟩
theorem UseI.drew {w : World} {G : List Nat} {xb base : Nat} {X : RCS} {p : Ln} {box : Array Value} {k : Nat} {v4 : Value} {xs : List Value} {wr : World} (h : UseI w G xb base X p box k v4 xs wr) : UseI w G xb base X p box k v4 xs wr.drew :=
  ⟨h.only.drew, ownsRow_only h.own (Only.refl [] wr).drew, h.lns, h.box, h.size⟩

set_option maxHeartbeats 4000000 in
theorem ruse_any {w : World} {y r : Nat} {G : List Nat} {X : RCS} (h : RCAt w y r G X) (p : Ln) {sv : Value} (hs : BytesIs w G sv (fullA p.c)) (hp0 : -9223372036854775808 ≤ p.at') (hp1 : p.at' ≤ 9223372036854775807) (hlen : X.L.length < 1000000) :
    Calls Try.prog 43 #[pp y, .agg #[.int .i64 p.at', sv, .bool p.pin]] w fun e w' => e = .returned (.tuple #[]) ∧ RCPost w w' y r G { X with L := useR X.L p } := by
  obtain ⟨lv, h⟩ := h
  obtain ⟨c0, c1, c2, c3, c4, c5, c6, c7, c8, fz⟩ := h.cells
  have hlt := RCAt.lt ⟨_, h⟩
  have hyl : y < w.heap.size := hlt y (by simp)
  obtain ⟨a, cap, rfl, hcap, hcap2, hall⟩ := h.lines.slice
  have HS := Lib.hid hs
  obtain ⟨gp, capp, cp, rfl, hgp, _, _⟩ := hs
  have HL := Lib.hid hall
  have HY := Lib.hid (fun (x : World) (o : Only [] w x) => And.intro ((World.cell?_of_block (w := w) (a := ⟨y, 7, none⟩) (o.block y hyl (by simp))).trans c7) (show x.frozen? ⟨y, 7, none⟩ = false by unfold World.frozen?; rw [(o.block y hyl (by simp)).trans h.row]; rfl))
  have HLT := Lib.hid hlt
  have H := Lib.hid h
  have st : UseI w G w.heap.size (w.heap.size + 1) X p #[.int .i64 p.at', .slice (some ⟨gp, 0, none⟩) 64 capp, .bool p.pin] 0 (.slice none 0 0) [] (w.alloc (.cells #[.int .i64 p.at', .slice (some ⟨gp, 0, none⟩) 64 capp, .bool p.pin] 46)) :=
    ⟨(Only.refl [] w).alloc _, World.ownsRow_nil _ _ _ _, Lns.nil _ _, heap_alloc_last w _, by simp⟩
  have ST := Lib.hid st
  clear h c0 c1 c2 c3 c4 c5 c6 c8 fz hall c7 hlt st hgp
  show Calls Try.prog 43 #[.pointer (some ⟨y, 0, none⟩), .agg #[.int .i64 p.at', .slice (some ⟨gp, 0, none⟩) 64 capp, .bool p.pin]] w _
  go_enter Try.func43, Try.ntmps43
  go_wp2
  generalize w.alloc (.cells #[.int .i64 p.at', .slice (some ⟨gp, 0, none⟩) 64 capp, .bool p.pin] 46) = w1 at *
  obtain ⟨xb, hxb⟩ : ∃ xb, w.heap.size = xb := ⟨_, rfl⟩
  rw [hxb]
  go_loopw [5, 4] (fun x v4 wr => ∃ (k : Nat) (xs : List Value), k ≤ X.L.length ∧ x = .int .i64 k ∧ UseI w G w.heap.size (w.heap.size + 1) X p #[.int .i64 p.at', .slice (some ⟨gp, 0, none⟩) 64 capp, .bool p.pin] k v4 xs wr) (fun x _ _ => X.L.length - (RowKit.intOf x).toNat)
  case atStart => exact ⟨0, [], by omega, rfl, ST.out⟩
  case round =>
    clear ST
    obtain ⟨k, xs, hk, rfl, hU⟩ := hrel
    have hbx := hU.box
    rw [hxb] at hbx
    by_cases hkl : k < X.L.length
    · as_aux_lemma =>
      obtain ⟨q, hq⟩ : ∃ q, X.L[k]? = some q := ⟨_, List.getElem?_eq_getElem hkl⟩
      obtain ⟨g, rfl, hg, q1, ⟨sq, q2, q3⟩, q4⟩ := HL.out k q hq
      have Q3 := Lib.hid q3
      obtain ⟨gq, capq, cq, rfl, _, _, _⟩ := q3
      have ow := hU.only
      have c7 := (HY.out wr ow).1
      have c7d := (HY.out wr.drew ow.drew).1
      have bl := ow.block g (HLT.out g (by simp [hg])) (by simp)
      have t1d : wr.drew.cell? ⟨g, k * 3 + 0, none⟩ = some (.int .i64 q.at') := (World.cell?_of_block (w := w) bl).trans q1
      have t1 : wr.drew.cell? ⟨g, k * 3, none⟩ = some (.int .i64 q.at') := t1d
      have t2 : wr.drew.cell? ⟨g, k * 3 + 1, none⟩ = some (.slice (some ⟨gq, 0, none⟩) 64 capq) := (World.cell?_of_block (w := w) bl).trans q2
      have t3 : wr.drew.cell? ⟨g, k * 3 + 2, none⟩ = some (.bool q.pin) := (World.cell?_of_block (w := w) bl).trans q4
      have b1d : wr.drew.cell? ⟨xb, 0 + 0, none⟩ = some (.int .i64 p.at') := (cell_of_row _ _ _ _ _ _ hbx).trans rfl
      have HU := Lib.hid hU
      have HQ := Lib.hid hq
      clear hU ow bl q1 q2 q4 hq hbx
      go_wp2_with fail
      refine wp_region_flowR Lat [0, 0, 0, 1, 0, 0, 0, 1, 0, 1, 0] (by kernel_rfl) (by kernel_rfl) Lat.refl Lat.trans ?_
      refine fr0 (u := .pointer (some ⟨y, 0, none⟩)) rfl (fun _ => rfl) ?_
      simp only [Act.put, List.setIfInBounds_toArray, List.set_cons_succ, List.set_cons_zero]
      refine fr0 rfl (fun _ => rfl) ?_
      simp only [Act.put, List.setIfInBounds_toArray, List.set_cons_succ, List.set_cons_zero]
      refine fr0 (u := .pointer (some ⟨y, 7, none⟩)) rfl (run_field44 (k := 7) (by omega) rfl rfl) ?_
      simp only [Act.put, List.setIfInBounds_toArray, List.set_cons_succ, List.set_cons_zero]
      refine fr1 (u := .slice (some ⟨g, 0, none⟩) X.L.length cap) rfl (fun x hx => run_load1 rfl rfl (hx.cell c7d) isAgg42) ?_
      simp only [Act.put, List.setIfInBounds_toArray, List.set_cons_succ, List.set_cons_zero]
      refine fr0 (u := .int .i64 (k : Nat)) rfl (fun _ => rfl) ?_
      simp only [Act.put, List.setIfInBounds_toArray, List.set_cons_succ, List.set_cons_zero]
      refine fr0 (u := .pointer (some ⟨g, k * 3, none⟩)) rfl (run_index42 hkl rfl rfl rfl) ?_
      simp only [Act.put, List.setIfInBounds_toArray, List.set_cons_succ, List.set_cons_zero]
      refine fr0 (u := .pointer (some ⟨g, k * 3 + 0, none⟩)) rfl (run_field46 (k := 0) (by omega) rfl rfl) ?_
      simp only [Act.put, List.setIfInBounds_toArray, List.set_cons_succ, List.set_cons_zero]
      refine fr1 (u := .int .i64 q.at') rfl (fun x hx => run_load1 rfl rfl (hx.cell t1d) isAgg3) ?_
      simp only [Act.put, List.setIfInBounds_toArray, List.set_cons_succ, List.set_cons_zero]
      refine fr0 (u := .pointer (some ⟨xb, 0 + 0, none⟩)) rfl (run_field46 (k := 0) (by omega) rfl rfl) ?_
      simp only [Act.put, List.setIfInBounds_toArray, List.set_cons_succ, List.set_cons_zero]
      refine fr1 (u := .int .i64 p.at') rfl (fun x hx => run_load1 rfl rfl (hx.cell b1d) isAgg3) ?_
      simp only [Act.put, List.setIfInBounds_toArray, List.set_cons_succ, List.set_cons_zero]
      refine fr0 (u := .bool (q.at' != p.at')) rfl (run_neq rfl rfl rfl) ?_
      simp only [Act.put, List.setIfInBounds_toArray, List.set_cons_succ, List.set_cons_zero]
      refine frnil ?_
      show Exit.then _ _ _ _ _
      by_cases hne : q.at' = p.at'
      · have hb : (q.at' != p.at') = false := by simp [hne]
        have FIN := Lib.hid (HU.out.skip HQ.out hne)
        clear HU hne t1d t1 t2 t3 b1d c7d c7
        generalize wr.drew = w5 at *
        go_wp2
        go_roundw
        case rel => exact ⟨k + 1, xs, by omega, by go_num, FIN.out⟩
        case measure => simp [RowKit.intOf]; omega
      · have hb : (q.at' != p.at') = true := by simp [hne]
        obtain ⟨v6, w6, hrun, hU6⟩ := HU.out.drew.grow rfl HQ.out hne (by omega) Q3.out 42
        have RUN := Lib.hid hrun
        have FIN := Lib.hid hU6
        clear HU hne hrun hU6 t1d b1d c7
        generalize wr.drew = w5 at *
        go_wp2_with (first | (refine wpL_value rfl (run_load46 rfl rfl t1 t2 t3) ?_) | (refine wpL_value rfl (run_buildSlice42 rfl rfl) ?_) | (refine wpL_value rfl (run_builtin_append rfl rfl rfl RUN.out) ?_))
        go_roundw
        case rel => exact ⟨k + 1, _, by omega, by go_num, FIN.out⟩
        case measure => simp [RowKit.intOf]; omega
    · have hkk : k = X.L.length := by omega
      subst hkk
      have hb1 : wr.cell? ⟨xb, 0, none⟩ = some (.int .i64 p.at') := (cell_of_row _ _ _ _ _ _ hbx).trans rfl
      have hb2 : wr.cell? ⟨xb, 1, none⟩ = some (.slice (some ⟨gp, 0, none⟩) 64 capp) := (cell_of_row _ _ _ _ _ _ hbx).trans rfl
      have hb3 : wr.cell? ⟨xb, 2, none⟩ = some (.bool p.pin) := (cell_of_row _ _ _ _ _ _ hbx).trans rfl
      obtain ⟨z1, z2, z3, z4, z5⟩ := hU
      rw [List.take_length] at z2 z3
      have hfl : (X.L.filter (fun q => decide (q.at' ≠ p.at'))).length ≤ X.L.length := List.length_filter_le _ _
      obtain ⟨v6, w6, hrun, hown6, o6⟩ := append42k z2 (by omega) z5 p.at' (some ⟨gp, 0, none⟩) 64 capp p.pin 42
      have own : ∀ x ∈ u4.ownBlock.toList, w.heap.size + 1 ≤ x := fun x hx => (z2.lt x (by simpa using hx)).1
      have o6' : Only [] w w6 := z1.trans o6 (fun x hx => .inr (by have := own x hx; omega))
      have hL : Lns w G (useR X.L p) _ := z3.append (Lns.one HS.out)
      have hul : (useR X.L p).length = (X.L.filter (fun q => decide (q.at' ≠ p.at'))).length + 1 := by simp [useR]
      obtain ⟨G7, hG7, hG7b⟩ := hL.at_own (w' := w6) (base := w.heap.size + 1) (v := v6) (by rw [hul]; exact hown6) (fun x hx => o6'.block x (HLT.out x (by simp [hx])) (by simp))
      have FIN := Lib.hid (H.out.setL o6' hG7 (fun x hx => ⟨by have := (hG7b x hx).1; omega, (hG7b x hx).2⟩) (by omega) (fun z hz => by
        rcases List.mem_append.1 hz with hz | hz
        · exact H.out.ok.at0 z (List.mem_filter.1 hz).1
        · simp at hz; subst hz; exact ⟨hp0, hp1⟩))
      obtain ⟨c7, f7⟩ := HY.out w6 o6'
      have c7w := (HY.out wr z1).1
      obtain ⟨va, vc, rfl⟩ := own_slice hown6
      have RUN := Lib.hid hrun
      clear z1 z2 z3 z4 z5 hrun hown6 o6 own o6' hL hul hG7 hG7b hfl H HY HL HLT HS hbx
      generalize (X.L.filter (fun q => decide (q.at' ≠ p.at'))).length + 1 = nl at *
      go_wp2_with (first | (refine wpL_value rfl (run_load46 rfl rfl hb1 hb2 hb3) ?_) | (refine wpL_value rfl (run_buildSlice42 rfl rfl) ?_) | (refine wpL_value rfl (run_builtin_append rfl rfl rfl RUN.out) ?_))
      go_end0
      exact ⟨rfl, FIN.out⟩
end Go.Proofs.Ytoccnaebckcfmaa.Ref
end

section
set_option linter.unusedSimpArgs false
set_option linter.unusedVariables false
set_option maxRecDepth 8000
namespace Go.Proofs.Ytoccnaebckcfmaa.Ref
open Go.RowKit Go.Proofs.Ytoccnaebckcfmaa
open Go.ChangeMaps (setBlock)

section
variable {w w1 w2 : World} {y r : Nat} {lv : Value} {G G1 : List Nat} {X X' X2 : RCS}
theorem RCIs.scalar (h : RCIs w y r lv G X) {j : Nat} {v : Value} (hr : (rcrow r X lv).setIfInBounds j v = rcrow r X' lv) (eL : X'.L = X.L) (eR : X'.R = X.R) (ok : RCOk X') : RCPost w (w.setCell ⟨y, j, none⟩ v) y r G X' := by
  obtain ⟨bv, dv, hd⟩ := h.disk
  have he : ∀ x, x ≠ y → (w.setCell ⟨y, j, none⟩ v).heap[x]? = w.heap[x]? := fun x hx => Below.heap_setCell _ _ _ _ hx
  refine ⟨G, ⟨lv, ?_, ?_, ?_, h.ne, h.out, ok⟩, fun _ hx => hx, fun _ hx => .inl hx, (Only.refl _ w).setCell (.inl (by simp)) _⟩
  · rw [heap_setCell_row h.row, hr]
  · rw [eL]; exact h.lines.to (fun x hx => he x (fun e => h.out (e ▸ hx))) (fun _ hx => hx)
  · rw [eR]
    refine h.disk.congr (fun x hx => he x (fun e => ?_))
    rcases List.mem_cons.1 hx with e2 | e2
    · exact h.ne (e.symm.trans e2)
    · exact h.out (e ▸ e2)
theorem RCPost.trans (hs : ∀ x ∈ G, x ∈ G1) (h1 : ∀ x ∈ G1, x ∈ G ∨ w.heap.size ≤ x) (ho : Only [y, r] w w1) (h2 : RCPost w1 w2 y r G1 X2) : RCPost w w2 y r G X2 := by
  obtain ⟨G2, a, b, c, o⟩ := h2
  refine ⟨G2, a, fun x hx => b x (hs x hx), fun x hx => ?_, ho.trans o (fun x hx => .inl hx)⟩
  rcases c x hx with h | h
  · exact h1 x h
  · exact .inr (Nat.le_trans ho.size h)
theorem RCAt.self (h : RCAt w y r G X) : RCPost w w y r G X := ⟨G, h, fun _ hx => hx, fun _ hx => .inl hx, Only.refl _ _⟩
end

set_option maxHeartbeats 1000000 in
theorem rcbegin_any {w : World} {y r : Nat} {G : List Nat} {X : RCS} (h : RCAt w y r G X) :
    Calls Try.prog 18 #[pp y] w fun e w' => e = .returned (.int .i64 (if X.opn then 30 else 0)) ∧ RCPost w w' y r G { X with opn := true } := by
  have h0 := h
  obtain ⟨lv, h⟩ := h
  obtain ⟨c0, c1, c2, c3, c4, c5, c6, c7, c8, fz⟩ := h.cells
  have f6 := fz 6
  have H := Lib.hid h
  have H0 := Lib.hid h0
  clear h c0 c1 c2 c3 c4 c5 c7 c8 fz h0
  show Calls Try.prog 18 #[.pointer (some ⟨y, 0, none⟩)] w _
  by_cases ho : X.opn = true
  · rw [ho] at c6
    have e1 : ({ X with opn := true } : RCS) = X := by cases X; simp_all
    go_enter Try.func18, Try.ntmps18
    go_wp2
    go_ret
    exact ⟨rfl, H0.out.self⟩
  · have ho' : X.opn = false := by simpa using ho
    rw [ho'] at c6
    go_enter Try.func18, Try.ntmps18
    go_wp2
    go_ret
    exact ⟨rfl, H.out.scalar (X' := { X with opn := true }) (by simp [rcrow]) rfl rfl ⟨H.out.ok.len, H.out.ok.m0, H.out.ok.m1, H.out.ok.g0, H.out.ok.g1, H.out.ok.at0⟩⟩

def PinPost (n : Nat) (w : World) (e : Ending) (w' : World) : Prop := e = .returned (.int .i64 n) ∧ Only [] w w'

set_option maxHeartbeats 2000000 in
theorem rcpinned_any {w : World} {y r : Nat} {G : List Nat} {X : RCS} (h : RCAt w y r G X) :
    Calls Try.prog 26 #[pp y] w fun e w' => PinPost (X.L.countP (fun q => q.pin)) w e w' := by
  obtain ⟨lv, h⟩ := h
  obtain ⟨c0, c1, c2, c3, c4, c5, c6, c7, c8, fz⟩ := h.cells
  have hlen := h.ok.len
  have hlt := RCAt.lt ⟨_, h⟩
  have hyl : y < w.heap.size := hlt y (by simp)
  obtain ⟨a, cap, rfl, hcap, hcap2, hall⟩ := h.lines.slice
  have HL := Lib.hid hall
  have HY := Lib.hid (fun (x : World) (o : Only [] w x) => (World.cell?_of_block (w := w) (a := ⟨y, 7, none⟩) (o.block y hyl (by simp))).trans c7)
  have HLT := Lib.hid hlt
  clear h c0 c1 c2 c3 c4 c5 c6 c8 fz hall c7 hlt
  show Calls Try.prog 26 #[.pointer (some ⟨y, 0, none⟩)] w _
  go_enter Try.func26, Try.ntmps26
  go_wp2
  go_loopw [4, 3] (fun x v3 wr => ∃ (k n : Nat), k ≤ X.L.length ∧ n ≤ k ∧ x = .int .i64 k ∧ v3 = .int .i64 n ∧ (X.L.take k).countP (fun q => q.pin) = n ∧ Only [] w wr) (fun x _ _ => X.L.length - (RowKit.intOf x).toNat)
  case atStart => exact ⟨0, 0, by omega, by omega, rfl, rfl, by simp, Only.refl _ _⟩
  case round =>
    obtain ⟨k, n, hk, hnk, rfl, rfl, he, ow⟩ := hrel
    have c7 := HY.out wr ow
    by_cases hkl : k < X.L.length
    · obtain ⟨p, hp⟩ : ∃ p, X.L[k]? = some p := ⟨_, List.getElem?_eq_getElem hkl⟩
      obtain ⟨g, rfl, hg, _, _, q3⟩ := HL.out k p hp
      have t1 : wr.cell? ⟨g, k * 3 + 2, none⟩ = some (.bool p.pin) := (World.cell?_of_block (w := w) (ow.block g (HLT.out g (by simp [hg])) (by simp))).trans q3
      have hstep : (X.L.take (k + 1)).countP (fun q => q.pin) = n + (if p.pin then 1 else 0) := by
        rw [List.take_add_one, hp, List.countP_append, he]
        cases h : p.pin <;> simp [h]
      have HE := Lib.hid hstep
      have OW := Lib.hid ow
      clear he hstep ow q3 hp
      cases hpp : p.pin
      · rw [hpp] at t1
        have HE2 : Hid ((X.L.take (k + 1)).countP (fun q => q.pin) = n) := (by have := HE.out; rw [hpp] at this; simpa using this : (X.L.take (k + 1)).countP (fun q => q.pin) = n)
        go_wp2
        go_roundw
        case rel => exact ⟨k + 1, n, by omega, by omega, by go_num, rfl, HE2.out, OW.out⟩
        case measure => simp [RowKit.intOf]; omega
      · rw [hpp] at t1
        have HE2 : Hid ((X.L.take (k + 1)).countP (fun q => q.pin) = n + 1) := (by have := HE.out; rw [hpp] at this; simpa using this : (X.L.take (k + 1)).countP (fun q => q.pin) = n + 1)
        go_wp2
        go_roundw
        case rel => exact ⟨k + 1, n + 1, by omega, by omega, by go_num, by go_num, HE2.out, OW.out⟩
        case measure => simp [RowKit.intOf]; omega
    · have hkk : k = X.L.length := by omega
      subst hkk
      rw [List.take_length] at he
      have FIN : Hid (PinPost (X.L.countP (fun q => q.pin)) w (.returned (.int .i64 n)) wr) := (⟨by rw [he], ow⟩ : PinPost (X.L.countP (fun q => q.pin)) w (.returned (.int .i64 n)) wr)
      clear he ow
      go_wp2
      go_ret
      exact FIN.out

structure FltI (w : World) (G : List Nat) (X : RCS) (k : Nat) (v4 : Value) (xs : List Value) (wr : World) : Prop where
  only : Only [] w wr
  own : wr.ownsRow w.heap.size 46 3 v4 ((X.L.take k).filter (fun q => !q.pin)).length xs
  lns : Lns w G ((X.L.take k).filter (fun q => !q.pin)) xs
  size : w.heap.size ≤ wr.heap.size
theorem FltI.grow {w : World} {G : List Nat} {X : RCS} {q : Ln} {k : Nat} {v4 : Value} {xs : List Value} {wr : World} (h : FltI w G X k v4 xs wr) (hq : X.L[k]? = some q) (hne : q.pin = false) (hlen : X.L.length ≤ 1000000) {g cap : Nat} (hs : BytesIs w G (.slice (some ⟨g, 0, none⟩) 64 cap) (fullA q.c)) (t : TypeId) :
    ∃ v' w', (Builtin.append_ #[42, 42] t #[v4, .slice (some ⟨wr.heap.size, 0, none⟩) 1 1]).run Try.prog (wr.alloc (.cells #[.int .i64 q.at', .slice (some ⟨g, 0, none⟩) 64 cap, .bool false] 46)) = .ok v' w' ∧ FltI w G X (k + 1) v' (xs ++ [.int .i64 q.at', .slice (some ⟨g, 0, none⟩) 64 cap, .bool false]) w' := by
  have hkl := (List.getElem?_eq_some_iff.1 hq).1
  have hfl : ((X.L.take k).filter (fun q => !q.pin)).length ≤ k := by
    exact Nat.le_trans (List.length_filter_le _ _) (by rw [List.length_take]; omega)
  have e1 : (X.L.take (k + 1)).filter (fun q => !q.pin) = (X.L.take k).filter (fun q => !q.pin) ++ [q] := by
    rw [List.take_add_one, hq, List.filter_append]
    simp [hne]
  obtain ⟨v', w', h1, h2, h3⟩ := append42k h.own (by omega) h.size q.at' (some ⟨g, 0, none⟩) 64 cap false t
  have own : ∀ x ∈ v4.ownBlock.toList, w.heap.size ≤ x := fun x hx => (h.own.lt x (by simpa using hx)).1
  refine ⟨v', w', h1, ⟨h.only.trans h3 (fun x hx => .inr (own x hx)), ?_, ?_, by have := h3.size; have := h.size; omega⟩⟩
  · rw [e1, List.length_append]; exact h2
  · rw [e1]
    have := Lns.one (p := q) hs
    rw [hne] at this
    exact h.lns.append this
theorem FltI.skip {w : World} {G : List Nat} {X : RCS} {q : Ln} {k : Nat} {v4 : Value} {xs : List Value} {wr : World} (h : FltI w G X k v4 xs wr) (hq : X.L[k]? = some q) (hne : q.pin = true) : FltI w G X (k + 1) v4 xs wr := by
  have e1 : (X.L.take (k + 1)).filter (fun q => !q.pin) = (X.L.take k).filter (fun q => !q.pin) := by
    rw [List.take_add_one, hq, List.filter_append]
    simp [hne]
  exact ⟨h.only, by rw [e1]; exact h.own, by rw [e1]; exact h.lns, h.size⟩

set_option maxHeartbeats 4000000 in
theorem rcabort_no {w : World} {y r : Nat} {G : List Nat} {X : RCS} (h : RCAt w y r G X) (ho : X.opn = false) :
    Calls Try.prog 22 #[pp y] w fun e w' => e = .returned (.int .i64 30) ∧ w' = w := by
  obtain ⟨lv, h⟩ := h
  obtain ⟨c0, c1, c2, c3, c4, c5, c6, c7, c8, fz⟩ := h.cells
  rw [ho] at c6
  clear h c0 c1 c2 c3 c4 c5 c7 c8 fz
  show Calls Try.prog 22 #[.pointer (some ⟨y, 0, none⟩)] w _
  go_enter Try.func22, Try.ntmps22
  go_wp2
  go_ret
  exact ⟨rfl, rfl⟩

set_option maxHeartbeats 4000000 in
theorem rcabort_ok {w : World} {y r : Nat} {G : List Nat} {X : RCS} (h : RCAt w y r G X) (ho : X.opn = true) :
    Calls Try.prog 22 #[pp y] w fun e w' => e = .returned (.int .i64 0) ∧ RCPost w w' y r G { X with L := X.L.filter (fun q => !q.pin), opn := false } := by
  obtain ⟨lv, h⟩ := h
  obtain ⟨c0, c1, c2, c3, c4, c5, c6, c7, c8, fz⟩ := h.cells
  rw [ho] at c6
  have hlen := h.ok.len
  have hlt := RCAt.lt ⟨_, h⟩
  have hyl : y < w.heap.size := hlt y (by simp)
  obtain ⟨a, cap, rfl, hcap, hcap2, hall⟩ := h.lines.slice
  have HL := Lib.hid hall
  have HY := Lib.hid (fun (x : World) (o : Only [] w x) => And.intro ((World.cell?_of_block (w := w) (a := ⟨y, 7, none⟩) (o.block y hyl (by simp))).trans c7) (And.intro ((World.cell?_of_block (w := w) (a := ⟨y, 6, none⟩) (o.block y hyl (by simp))).trans c6) (show ∀ j, x.frozen? ⟨y, j, none⟩ = false from fun j => by unfold World.frozen?; rw [(o.block y hyl (by simp)).trans h.row]; rfl)))
  have HLT := Lib.hid hlt
  have H := Lib.hid h
  have st : FltI w G X 0 (.slice none 0 0) [] w := ⟨Only.refl _ _, World.ownsRow_nil _ _ _ _, Lns.nil _ _, Nat.le_refl _⟩
  have ST := Lib.hid st
  clear h c0 c1 c2 c3 c4 c5 c8 fz hall hlt st
  show Calls Try.prog 22 #[.pointer (some ⟨y, 0, none⟩)] w _
  go_enter Try.func22, Try.ntmps22
  go_wp2
  clear c6 c7
  go_loopw [4, 3] (fun x v4 wr => ∃ (k : Nat) (xs : List Value), k ≤ X.L.length ∧ x = .int .i64 k ∧ FltI w G X k v4 xs wr) (fun x _ _ => X.L.length - (RowKit.intOf x).toNat)
  case atStart => exact ⟨0, [], by omega, rfl, ST.out⟩
  case round =>
    clear ST
    obtain ⟨k, xs, hk, rfl, hU⟩ := hrel
    have c7 := (HY.out wr hU.only).1
    by_cases hkl : k < X.L.length
    · as_aux_lemma =>
      obtain ⟨q, hq⟩ : ∃ q, X.L[k]? = some q := ⟨_, List.getElem?_eq_getElem hkl⟩
      obtain ⟨g, rfl, hg, q1, ⟨sq, q2, q3⟩, q4⟩ := HL.out k q hq
      have Q3 := Lib.hid q3
      obtain ⟨gq, capq, cq, rfl, _, _, _⟩ := q3
      have ow := hU.only
      have bl := ow.block g (HLT.out g (by simp [hg])) (by simp)
      have t1 : wr.cell? ⟨g, k * 3, none⟩ = some (.int .i64 q.at') := (World.cell?_of_block (w := w) bl).trans q1
      have t2 : wr.cell? ⟨g, k * 3 + 1, none⟩ = some (.slice (some ⟨gq, 0, none⟩) 64 capq) := (World.cell?_of_block (w := w) bl).trans q2
      have t3 : wr.cell? ⟨g, k * 3 + 2, none⟩ = some (.bool q.pin) := (World.cell?_of_block (w := w) bl).trans q4
      have HU := Lib.hid hU
      have HQ := Lib.hid hq
      clear hU ow bl q1 q2 q4 hq
      cases hpp : q.pin
      · rw [hpp] at t3
        obtain ⟨v6, w6, hrun, hU6⟩ := HU.out.grow HQ.out hpp (by omega) Q3.out 42
        have RUN := Lib.hid hrun
        have FIN := Lib.hid hU6
        clear HU hrun hU6
        go_wp2_with (first | (refine wpL_value rfl (run_load46 rfl rfl t1 t2 t3) ?_) | (refine wpL_value rfl (run_buildSlice42 rfl rfl) ?_) | (refine wpL_value rfl (run_builtin_append rfl rfl rfl RUN.out) ?_))
        go_roundw
        case rel => exact ⟨k + 1, _, by omega, by go_num, FIN.out⟩
        case measure => simp [RowKit.intOf]; omega
      · rw [hpp] at t3
        have FIN := Lib.hid (HU.out.skip HQ.out hpp)
        clear HU
        go_wp2
        go_roundw
        case rel => exact ⟨k + 1, xs, by omega, by go_num, FIN.out⟩
        case measure => simp [RowKit.intOf]; omega
    · have hkk : k = X.L.length := by omega
      subst hkk
      obtain ⟨z1, z2, z3, z5⟩ := hU
      rw [List.take_length] at z2 z3
      have hfl : (X.L.filter (fun q => !q.pin)).length ≤ X.L.length := List.length_filter_le _ _
      obtain ⟨G7, hG7, hG7b⟩ := z3.at_own (w' := wr) (base := w.heap.size) (v := u3) z2 (fun x hx => z1.block x (HLT.out x (by simp [hx])) (by simp))
      have p1 := H.out.setL z1 hG7 hG7b (by omega) (fun z hz => H.out.ok.at0 z (List.mem_filter.1 hz).1)
      obtain ⟨_, c6, fz⟩ := HY.out wr z1
      have f7 := fz 7
      have f6 := fz 6
      obtain ⟨va, vc, rfl⟩ := own_slice z2
      obtain ⟨G8, ⟨lv8, h8⟩, s1, s2, o8⟩ := p1
      have p2 := RCPost.trans s1 s2 o8 (h8.scalar (j := 6) (v := .bool false) (X' := { X with L := X.L.filter (fun q => !q.pin), opn := false }) (by simp [rcrow]) rfl rfl ⟨by show (X.L.filter _).length ≤ _; omega, H.out.ok.m0, H.out.ok.m1, H.out.ok.g0, H.out.ok.g1, h8.ok.at0⟩)
      have FIN := Lib.hid p2
      clear z1 z2 z3 z5 fz hG7 hG7b h8 s1 s2 o8 p2 H HY HL HLT hfl
      generalize (X.L.filter (fun q => !q.pin)).length = nl at *
      go_wp2
      go_ret
      exact ⟨rfl, FIN.out⟩
end Go.Proofs.Ytoccnaebckcfmaa.Ref
end

section
set_option linter.unusedSimpArgs false
set_option linter.unusedVariables false
set_option maxRecDepth 8000
namespace Go.Proofs.Ytoccnaebckcfmaa.Ref
open Go.RowKit Go.Proofs.Ytoccnaebckcfmaa
open Go.ChangeMaps (setBlock)

/-- The first line that is not pinned goes. -/
def dropFirst : List Ln → Option (List Ln)
  | [] => none
  | p :: l => if p.pin then (dropFirst l).map (p :: ·) else some l
def trimN (most : Int) : Nat → List Ln → List Ln
  | 0, L => L
  | n + 1, L => if most < (L.length : Int) then (match dropFirst L with | none => L | some L' => trimN most n L') else L
def trimR (most : Int) (L : List Ln) : List Ln := trimN most L.length L
theorem dropFirst_none : ∀ {L : List Ln}, (∀ p ∈ L, p.pin = true) → dropFirst L = none
  | [], _ => rfl
  | p :: l, h => by
    have ih := dropFirst_none (L := l) (fun q hq => h q (by simp [hq]))
    simp [dropFirst, h p (by simp), ih]
theorem dropFirst_some : ∀ {L : List Ln} {k : Nat} {p : Ln}, (∀ j, j < k → ∀ q, L[j]? = some q → q.pin = true) → L[k]? = some p → p.pin = false → dropFirst L = some (L.take k ++ L.drop (k + 1))
  | [], k, p, _, h, _ => by simp at h
  | x :: l, 0, p, _, h, hp => by
    simp at h
    subst h
    simp [dropFirst, hp]
  | x :: l, k + 1, p, h0, h, hp => by
    have hx := h0 0 (by omega) x rfl
    have ih := dropFirst_some (L := l) (k := k) (p := p) (fun j hj q hq => h0 (j + 1) (by omega) q (by simpa using hq)) (by simpa using h) hp
    simp [dropFirst, hx, ih]

section
variable {o : Oper} {a : Act} {w : World}
theorem len42 (ty : TypeId) (p : Option Addr) (n c : Nat) (w : World) : (Builtin.len_ #[42] ty #[.slice p n c]).run Try.prog w = .ok (.int .i64 n) w := by kernel_rfl
theorem run_len42 {x : Operand} {p : Option Addr} {n c : Nat} (ho : o.op = .call { callee := .builtin .len, args := #[x], argTypes := #[42] }) (hx : a.eval x = .slice p n c) : ∀ w, (execOp a.eval o).run Try.prog w = .ok (.value (.int .i64 n)) w := by
  intro w
  unfold execOp
  simp only [ho, resolve, invoke, builtin, Sem.run_bind, Sem.run_pure, Result.andThen_ok, List.map_toArray, List.map_cons, List.map_nil, hx, len42]
theorem run_sliceFrom {x y : Operand} {g k n cap : Nat} {z : Int} (hk : k ≤ n) (hn : n ≤ cap) (hc : cap ≤ 9223372036854775807) (ho : o.op = .slice 42 x (some y) none none) (hx : a.eval x = .slice (some ⟨g, 0, none⟩) n cap) (hy : a.eval y = .int .i64 z) (hz : z = k) : ∀ w, (execOp a.eval o).run Try.prog w = .ok (.value (.slice (some ⟨g, if cap = k then 0 else k * 3, none⟩) (n - k) (cap - k))) w := by
  intro w
  subst hz
  have hb : ∀ w, (Instr.sliceBound (.int .i64 (k : Int)) n BoundsCode.sliceB).run Try.prog w = .ok k w := fun w => by
    have h1 : ¬ ((k : Int) < 0) := by omega
    have h2 : ¬ ((n : Int) < (k : Int)) := by omega
    unfold Instr.sliceBound
    go_simp
  have hy' := hy
  unfold Act.eval at hy'
  simp only [Array.getD_eq_getD_getElem?] at hy'
  unfold execOp
  simp only [ho, hx]
  go_simp
  split <;> rfl
end

structure TrI (w : World) (y r : Nat) (G : List Nat) (X : RCS) (n : Nat) (L1 : List Ln) (G1 : List Nat) (wr : World) : Prop where
  at' : RCAt wr y r G1 { X with L := L1 }
  sub : ∀ x ∈ G, x ∈ G1
  new : ∀ x ∈ G1, x ∈ G ∨ w.heap.size ≤ x
  only : Only [y, r] w wr
  len : L1.length = n
  same : trimN X.most n L1 = trimR X.most X.L

set_option maxHeartbeats 4000000 in
theorem rtrim_any {w : World} {y r : Nat} {G : List Nat} {X : RCS} (h : RCAt w y r G X) (hm : 0 ≤ X.most) :
    Calls Try.prog 44 #[pp y] w fun e w' => e = .returned (.tuple #[]) ∧ RCPost w w' y r G { X with L := trimR X.most X.L } := by
  have st : TrI w y r G X X.L.length X.L G w := ⟨h, fun _ hx => hx, fun _ hx => .inl hx, Only.refl _ _, rfl, rfl⟩
  have ST := Lib.hid st
  clear st h
  show Calls Try.prog 44 #[.pointer (some ⟨y, 0, none⟩)] w _
  go_enter Try.func44, Try.ntmps44
  go_wp2_with fail
  go_loopg [2, 3] X.L.length (fun n _ _ wr => ∃ L1 G1, TrI w y r G X n L1 G1 wr)
  case atStart => exact ⟨_, _, ST.out⟩
  case round =>
    clear ST
    obtain ⟨L1, G1, hT0⟩ := hrel
    rename World => wA
    have hT : TrI w y r G X gk L1 G1 wA.drew := ⟨hT0.at'.congr (fun _ _ => rfl), hT0.sub, hT0.new, hT0.only.drew, hT0.len, hT0.same⟩
    obtain ⟨lv, h1⟩ := hT.at'
    obtain ⟨c0, c1, c2, c3, c4d, c5, c6, c7d, c8, fz⟩ := h1.cells
    have hlt := RCAt.lt ⟨_, h1⟩
    have hyl : y < wA.drew.heap.size := hlt y (by simp)
    have hlen : L1.length ≤ 1000000 := h1.ok.len
    obtain ⟨a, cap, rfl, hcap, hcap2, hall⟩ := h1.lines.slice
    have hcap : L1.length ≤ cap := hcap
    have HT := Lib.hid hT
    have H1 := Lib.hid h1
    have HL : Hid (∀ k p, L1[k]? = some p → ∃ g, a = some ⟨g, 0, none⟩ ∧ g ∈ G1 ∧ LnIs wA.drew G1 g k p) := hall
    have HLT := Lib.hid hlt
    have HY := Lib.hid (fun (x : World) (o : Only [] wA.drew x) => And.intro ((World.cell?_of_block (w := wA.drew) (a := ⟨y, 7, none⟩) (o.block y hyl (by simp))).trans c7d) (show x.frozen? ⟨y, 7, none⟩ = false by unfold World.frozen?; rw [(o.block y hyl (by simp)).trans h1.row]; rfl))
    clear hT h1 c0 c1 c2 c3 c5 c6 c8 fz hall hlt hT0
    have c7d : wA.drew.cell? ⟨y, 7, none⟩ = some (.slice a L1.length cap) := c7d
    have c4d : wA.drew.cell? ⟨y, 4, none⟩ = some (.int .i64 X.most) := c4d
    go_wp2_with fail
    refine wp_region_flowR Lat [0, 0, 0, 1, 0, 0, 0, 0, 1, 0] (by kernel_rfl) (by kernel_rfl) Lat.refl Lat.trans ?_
    refine fr0 (u := .pointer (some ⟨y, 0, none⟩)) rfl (fun _ => rfl) ?_
    simp only [Act.put, List.setIfInBounds_toArray, List.set_cons_succ, List.set_cons_zero]
    refine fr0 (u := .pointer (some ⟨y, 0, none⟩)) rfl (fun _ => rfl) ?_
    simp only [Act.put, List.setIfInBounds_toArray, List.set_cons_succ, List.set_cons_zero]
    refine fr0 (u := .pointer (some ⟨y, 7, none⟩)) rfl (run_field44 (k := 7) (by omega) rfl rfl) ?_
    simp only [Act.put, List.setIfInBounds_toArray, List.set_cons_succ, List.set_cons_zero]
    refine fr1 (u := .slice a L1.length cap) rfl (fun x hx => run_load1 rfl rfl (hx.cell c7d) isAgg42) ?_
    simp only [Act.put, List.setIfInBounds_toArray, List.set_cons_succ, List.set_cons_zero]
    refine fr0 (u := .int .i64 (L1.length : Nat)) rfl (run_len42 rfl rfl) ?_
    simp only [Act.put, List.setIfInBounds_toArray, List.set_cons_succ, List.set_cons_zero]
    refine fr0 (u := .pointer (some ⟨y, 0, none⟩)) rfl (fun _ => rfl) ?_
    simp only [Act.put, List.setIfInBounds_toArray, List.set_cons_succ, List.set_cons_zero]
    refine fr0 (u := .pointer (some ⟨y, 0, none⟩)) rfl (fun _ => rfl) ?_
    simp only [Act.put, List.setIfInBounds_toArray, List.set_cons_succ, List.set_cons_zero]
    refine fr0 (u := .pointer (some ⟨y, 4, none⟩)) rfl (run_field44 (k := 4) (by omega) rfl rfl) ?_
    simp only [Act.put, List.setIfInBounds_toArray, List.set_cons_succ, List.set_cons_zero]
    refine fr1 (u := .int .i64 X.most) rfl (fun x hx => run_load1 rfl rfl (hx.cell c4d) isAgg3) ?_
    simp only [Act.put, List.setIfInBounds_toArray, List.set_cons_succ, List.set_cons_zero]
    refine fr0 (u := .bool (decide (X.most < (L1.length : Int)))) rfl (run_gtr rfl rfl rfl) ?_
    simp only [Act.put, List.setIfInBounds_toArray, List.set_cons_succ, List.set_cons_zero]
    refine frnil ?_
    show Exit.then _ _ _ _ _
    generalize wA.drew = w5 at *
    by_cases hgt : X.most < (L1.length : Int)
    · rw [decide_eq_true hgt]
      clear c4d c7d
      go_wp2_with fail
      go_loopw [2] (fun x wr => ∃ k : Nat, k ≤ L1.length ∧ x = .int .i64 k ∧ (∀ j, j < k → ∀ q, L1[j]? = some q → q.pin = true) ∧ Only [] w5 wr) (fun x _ => L1.length - (RowKit.intOf x).toNat)
      case atStart => exact ⟨0, by omega, rfl, fun j hj => by omega, Only.refl _ _⟩
      case round =>
        obtain ⟨k, hk, rfl, hpin, ow⟩ := hrel
        obtain ⟨c7, f7⟩ := HY.out wr ow
        by_cases hkl : k < L1.length
        · obtain ⟨p, hp⟩ : ∃ p, L1[k]? = some p := ⟨_, List.getElem?_eq_getElem hkl⟩
          obtain ⟨g, rfl, hg, q1, ⟨sq, q2, q3⟩, q4⟩ := HL.out k p hp
          have bl := ow.block g (HLT.out g (by simp [hg])) (by simp)
          have t3 : wr.cell? ⟨g, k * 3 + 2, none⟩ = some (.bool p.pin) := (World.cell?_of_block (w := w5) bl).trans q4
          have HP := Lib.hid hpin
          have OW := Lib.hid ow
          have HPK := Lib.hid hp
          clear q1 q2 q3 q4 hpin
          cases hpp : p.pin
          · as_aux_lemma =>
            rw [hpp] at t3
            have hLk : ∀ j q, L1[j]? = some q → LnIs w5 G1 g j q := fun j q hq => by
              obtain ⟨g', e, _, h'⟩ := HL.out j q hq
              simp at e
              subst e
              exact h'
            obtain ⟨xs1, hx1, hc1⟩ := Lns.of (w := w5) (G := G1) (g := g) (o := 0) (l := L1.take k) (fun j q hq => by
              rw [Nat.zero_add]
              have hj : j < k := by have := (List.getElem?_eq_some_iff.1 hq).1; simp at this; omega
              rw [List.getElem?_take_of_lt hj] at hq
              exact hLk j q hq)
            obtain ⟨xs2, hx2, hc2⟩ := Lns.of (w := w5) (G := G1) (g := g) (o := k + 1) (l := L1.drop (k + 1)) (fun j q hq => by
              rw [List.getElem?_drop] at hq
              exact hLk _ q hq)
            have hgl : g < w5.heap.size := HLT.out g (by simp [hg])
            have hown0 : (wr.alloc (.cells #[] 46)).ownsRow wr.heap.size 46 3 (.slice (some ⟨wr.heap.size, 0, none⟩) 0 0) 0 [] := ⟨rfl, .inr ⟨wr.heap.size, 0, #[], rfl, Nat.le_refl _, heap_alloc_last wr _, Nat.le_refl _, Nat.zero_le _, rfl, rfl⟩⟩
            have o1 : Only [] w5 (wr.alloc (.cells #[] 46)) := ow.alloc _
            have e1 : (L1.take k).length = k := by rw [List.length_take]; omega
            have e2 : (L1.drop (k + 1)).length = L1.length - (k + 1) := List.length_drop
            have l1 := hx1.len
            have l2 := hx2.len
            rw [e1] at l1
            rw [e2] at l2
            obtain ⟨v5, w6, run1, own6, o6, hloc⟩ := append42 hown0 (by simp) (g := g) (o := 0) (m := k) (cap := cap) (ys := xs1) l1 (fun j u hu => (World.cell?_of_block (w := w5) (o1.block g hgl (by simp))).trans (by have := hc1 j u hu; simpa using this)) hx1.one_cells (by omega) 42
            have hsz6 := o6.size
            have osz := ow.size
            rw [World.size_alloc] at hsz6
            have o6' : Only [] w5 w6 := o1.trans o6 (fun x hx => .inr (by simp [Value.ownBlock] at hx; omega))
            obtain ⟨v7, w7, run2, own7, o7, _⟩ := append42 own6 (by omega) (g := g) (o := if cap = k + 1 then 0 else (k + 1) * 3) (m := L1.length - (k + 1)) (cap := cap - (k + 1)) (ys := xs2) l2 (fun j u hu => (World.cell?_of_block (w := w5) (o6'.block g hgl (by simp))).trans (by
              by_cases hck : cap = k + 1
              · have := (List.getElem?_eq_some_iff.1 hu).1
                omega
              · rw [if_neg hck]
                exact hc2 j u hu)) hx2.one_cells (by omega) 42
            have o7' : Only [] w5 w7 := o6'.trans o7 (fun x hx => .inr (by have := (own6.lt x (by simpa using hx)).1; omega))
            have hL : Lns w5 G1 (L1.take k ++ L1.drop (k + 1)) _ := hx1.append hx2
            have hll : (L1.take k ++ L1.drop (k + 1)).length = 0 + k + (L1.length - (k + 1)) := by rw [List.length_append, e1, e2]; omega
            obtain ⟨G7, hG7, hG7b⟩ := hL.at_own (w' := w7) (base := wr.heap.size) (v := v7) (by rw [hll]; exact own7) (fun x hx => o7'.block x (HLT.out x (by simp [hx])) (by simp))
            have hset := H1.out.setL o7' hG7 (fun x hx => ⟨by have := (hG7b x hx).1; omega, (hG7b x hx).2⟩) (by omega) (fun z hz => by
              rcases List.mem_append.1 hz with hz | hz
              · exact H1.out.ok.at0 z (List.mem_of_mem_take hz)
              · exact H1.out.ok.at0 z (List.mem_of_mem_drop hz))
            have hdf := dropFirst_some HP.out HPK.out hpp
            have hT8 : ∃ L2 G2, TrI w y r G X (L1.length - 1) L2 G2 (w7.setCell ⟨y, 7, none⟩ v7) := by
              obtain ⟨G8, a8, b8, c8, o8⟩ := hset
              refine ⟨L1.take k ++ L1.drop (k + 1), G8, a8, fun x hx => b8 x (HT.out.sub x hx), fun x hx => ?_, HT.out.only.trans o8 (fun x hx => .inl hx), by omega, ?_⟩
              · rcases c8 x hx with h | h
                · exact HT.out.new x h
                · exact .inr (Nat.le_trans HT.out.only.size h)
              · rw [← HT.out.same, ← HT.out.len]
                obtain ⟨m, hm'⟩ : ∃ m, L1.length = m + 1 := ⟨L1.length - 1, by omega⟩
                rw [hm', Nat.add_sub_cancel, trimN, if_pos hgt, hdf]
            obtain ⟨c76, _⟩ := HY.out w6 o6'
            obtain ⟨c77, f77⟩ := HY.out w7 o7'
            obtain ⟨va, vc, rfl⟩ := own_slice own7
            have FIN := Lib.hid hT8
            have RUN1 := Lib.hid run1
            have RUN2 := Lib.hid run2
            have hkb : ((k : Int) == (L1.length : Int)) = false := beq_eq_false_iff_ne.2 (by omega)
            have HGK := Lib.hid HT.out.len
            have c71 := (HY.out _ o1).1
            have hb42 := build420
            clear hx1 hx2 hc1 hc2 hLk hown0 o1 e1 e2 l1 l2 run1 run2 own6 own7 o6 o7 o6' o7' hL hll hG7 hG7b hset hdf hT8 hloc HY HL HLT H1 HT hsz6 osz bl ow
            generalize 0 + k + (L1.length - (k + 1)) = nl at *
            go_wp2_with (first | (refine wpL_value rfl (run_sliceFrom (k := k + 1) (n := L1.length) (cap := cap) (by omega) hcap hcap2 rfl rfl rfl (by omega) _) ?_) | (refine wpL_value rfl (run_builtin_append rfl rfl rfl RUN1.out) ?_) | (refine wpL_value rfl (run_builtin_append rfl rfl rfl RUN2.out) ?_))
            all_goals
              go_roundg (L1.length - 1)
              case measure => have := HGK.out; omega
              case rel => exact FIN.out
          · rw [hpp] at t3
            have HP2 : Hid (∀ j, j < k + 1 → ∀ q, L1[j]? = some q → q.pin = true) := (fun j hj q hq => by
              by_cases hjk : j < k
              · exact HP.out j hjk q hq
              · obtain rfl : j = k := by omega
                rw [HPK.out] at hq
                cases hq
                exact hpp : ∀ j, j < k + 1 → ∀ q, L1[j]? = some q → q.pin = true)
            clear HP bl ow
            go_wp2
            go_roundw
            case rel => exact ⟨k + 1, by omega, by go_num, HP2.out, OW.out⟩
            case measure => simp [RowKit.intOf]; omega
        · have hkk : k = L1.length := by omega
          subst hkk
          have hn : dropFirst L1 = none := dropFirst_none (fun p hp => by
            obtain ⟨j, hj⟩ := List.getElem?_of_mem hp
            exact hpin j (List.getElem?_eq_some_iff.1 hj).1 p hj)
          have fin : RCPost w wr y r G { X with L := trimR X.most X.L } := by
            have e1 : trimR X.most X.L = L1 := by
              rw [← HT.out.same, ← HT.out.len]
              obtain ⟨m, hm'⟩ : ∃ m, L1.length = m + 1 := ⟨L1.length - 1, by omega⟩
              rw [hm', trimN, if_pos hgt, hn]
            rw [e1]
            exact ⟨G1, RCAt.congr ⟨_, H1.out⟩ (fun x hx => ow.block x (HLT.out x hx) (by simp)), HT.out.sub, HT.out.new, HT.out.only.trans ow (by simp)⟩
          have FIN := Lib.hid fin
          have hkb : ((L1.length : Int) == (L1.length : Int)) = true := by simp
          clear fin hn hpin ow HT H1 HL HLT HY
          go_wp2
          refine bodyPost_ret (results_none rfl _ _ _) rfl ?_
          exact ⟨rfl, FIN.out⟩
    · rw [decide_eq_false hgt]
      have fin : RCPost w w5 y r G { X with L := trimR X.most X.L } := by
        have e1 : trimR X.most X.L = L1 := by
          rw [← HT.out.same, ← HT.out.len]
          cases hm' : L1.length with
          | zero => rfl
          | succ m => rw [trimN, if_neg hgt]
        rw [e1]
        exact ⟨G1, ⟨_, H1.out⟩, HT.out.sub, HT.out.new, HT.out.only⟩
      have FIN := Lib.hid fin
      clear fin HT H1 HL HLT HY c4d c7d
      go_wp2
      go_end0
      exact ⟨rfl, FIN.out⟩
end Go.Proofs.Ytoccnaebckcfmaa.Ref
end
