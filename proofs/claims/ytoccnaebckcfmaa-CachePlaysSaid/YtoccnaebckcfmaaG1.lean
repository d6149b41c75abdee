/- What a map keyed by int, whose elements are arrays or structs by value, does at a look-up, a store and a step of a range: said by a function from keys to cells. A disk in memory: its seven cells, its two maps and its row of pending writes, said by a plain state; which blocks a call may change; the laws of the operations on sectors. What the disk's small calls do. What the disk's reads and writes of sectors do. A statement whose order is left open may be gone through in the order of its text: where its reads hold in every later world, and whatever changes the world is waited for by all that stands behind it. What a write does. What Barrier, full and kind do. What maps.Copy between two maps of sectors does. What survives and Boot do. A region that draws its order, walked once in the order of its text, where what a call does is known by its contract alone. -/
import Derived.WalkKit
import Derived.Maps.RangeRun
import Derived.Test.YtoccnaebckcfmaaProg
import Derived.Maps.AppendAt
import Derived.Deep.MidRow
import Derived.Deep.WholeRow
import Derived.Lib.Hide
import Derived.WalkSpells
import Derived.WalkLawsBesides
import Derived.StillTailTactics
import Derived.Deep.RegionLaw
import Derived.Deep.RegionLawGrows
import Derived.BigQuiet
section
namespace Go.Proofs.Ytoccnaebckcfmaa
open Go.RowKit Go.MapKept
open Go.ChangeMaps (setBlock)

/-- The entries of a map that reads as f. -/
structure MapOk (es : List MapEntry) (clock : Nat) (f : Int → Option (Array Value)) : Prop where
  form : ∀ e ∈ es, ∃ k v, e.key = .int .i64 k ∧ e.val = .agg v
  keys : es.Pairwise (fun x y => x.key ≠ y.key)
  born : (es.map (·.born)).Nodup
  lt : ∀ e ∈ es, e.born < clock
  has : ∀ k v, f k = some v ↔ ∃ e ∈ es, e.key = .int .i64 k ∧ e.val = .agg v

/-- Block b is a map that reads as f. -/
def MapAt (w : World) (b : Nat) (f : Int → Option (Array Value)) : Prop := ∃ es clock, w.heap[b]? = some (.map es clock) ∧ MapOk es.toList clock f

def updF (f : Int → Option (Array Value)) (k : Int) (v : Array Value) : Int → Option (Array Value) := fun j => if j = k then some v else f j

theorem mapAt_congr {w w' : World} {b : Nat} {f : Int → Option (Array Value)} (h : MapAt w b f) (he : w'.heap[b]? = w.heap[b]?) : MapAt w' b f := by
  obtain ⟨es, c, hb, ok⟩ := h
  exact ⟨es, c, he.trans hb, ok⟩

theorem mapAt_lt {w : World} {b : Nat} {f : Int → Option (Array Value)} (h : MapAt w b f) : b < w.heap.size := by
  obtain ⟨es, c, hb, ok⟩ := h
  exact (Array.getElem?_eq_some_iff.1 hb).1

theorem mapOk_empty (c : Nat) : MapOk [] c (fun _ => none) := ⟨by simp, List.Pairwise.nil, by simp, by simp, by simp⟩

theorem mapAt_made (w : World) : MapAt (w.alloc (.map #[] 0)) w.heap.size (fun _ => none) := ⟨#[], 0, by show (w.heap.push _)[w.heap.size]? = _; simp, mapOk_empty 0⟩

theorem MapOk.isKey {es : List MapEntry} {c : Nat} {f : Int → Option (Array Value)} (h : MapOk es c f) : ∀ x ∈ es, IsKey (.int .i64) x.key := fun x hx => by
  obtain ⟨k, v, e, _⟩ := h.form x hx
  rw [e]; rfl

theorem pairwise_at : ∀ {l : List MapEntry}, l.Pairwise (fun x y => x.key ≠ y.key) → ∀ {x y : MapEntry}, x ∈ l → y ∈ l → x.key = y.key → x = y
  | a :: l, h, x, y, hx, hy, e => by
    obtain ⟨h1, h2⟩ := List.pairwise_cons.1 h
    rcases List.mem_cons.1 hx with rfl | hx <;> rcases List.mem_cons.1 hy with rfl | hy
    · rfl
    · exact absurd e (h1 _ hy)
    · exact absurd e.symm (h1 _ (by assumption))
    · exact pairwise_at h2 (by assumption) (by assumption) e

section
variable {P : Program} {w : World} {b : Nat} {f : Int → Option (Array Value)} {mt kt et : TypeId}

theorem MapAt.lookup (h : MapAt w b f) (hm : P.underlying mt = some (.map kt et)) (hk : P.underlying kt = some (.int .i64)) {z : Array Value} (hz : (zeroValue et).run P w = .ok (.agg z) w) (k : Int) (c : Bool) :
    (Instr.lookup mt (.map (some b)) (.int .i64 k) c).run P w = .ok (if c then .tuple #[.agg ((f k).getD z), .bool (f k).isSome] else .agg ((f k).getD z)) w := by
  obtain ⟨es, clock, hb, ok⟩ := h
  have hkk : IsKey (.int .i64) (.int .i64 k) := rfl
  rcases findNow_spec hkk es.toList 0 ok.isKey with ⟨h1, h2⟩ | ⟨j, e, h1, h2, h3⟩
  · have hf : f k = none := by
      cases hf : f k with
      | none => rfl
      | some v =>
        obtain ⟨e, he, hk1, _⟩ := (ok.has k v).1 hf
        exact absurd hk1 (h2 e he)
    simp [Instr.lookup, run_underlying hm, Go.MapKept.run_getObj_map hb, run_checkKey hk hkk, run_findKey hk h1, hz, hf, Result.andThen]
  · have he : e ∈ es.toList := List.mem_of_getElem? h2
    obtain ⟨k', v, ek, ev⟩ := ok.form e he
    have hf : f k = some v := (ok.has k v).2 ⟨e, he, h3, ev⟩
    simp [Instr.lookup, run_underlying hm, Go.MapKept.run_getObj_map hb, run_checkKey hk hkk, run_findKey hk h1, hf, Result.andThen, ev]

theorem modify_mem {es : Array MapEntry} {j : Nat} {e : MapEntry} {g : MapEntry → MapEntry} (hj : es.toList[j]? = some e) (x : MapEntry) (hn : (es.toList.map (·.born)).Nodup) :
    x ∈ (es.modify j g).toList ↔ x = g e ∨ (x ∈ es.toList ∧ x ≠ e) := by
  have hlt : j < es.size := by
    have := (List.getElem?_eq_some_iff.1 hj).1
    simpa using this
  have hej : es[j] = e := by
    have := (List.getElem?_eq_some_iff.1 hj).2
    simpa using this
  rw [List.mem_iff_getElem?]
  constructor
  · rintro ⟨i, hi⟩
    rw [Array.getElem?_toList, Array.getElem?_modify] at hi
    split at hi
    · rename_i hij
      subst hij
      rw [Array.getElem?_eq_getElem hlt] at hi
      simp [hej] at hi
      exact .inl hi.symm
    · rename_i hij
      refine .inr ⟨List.mem_of_getElem? (by rw [Array.getElem?_toList]; exact hi), fun hxe => ?_⟩
      subst hxe
      have hi' : (es.toList.map (·.born))[i]? = some x.born := by rw [List.getElem?_map, Array.getElem?_toList, hi]; rfl
      have hj' : (es.toList.map (·.born))[j]? = some x.born := by rw [List.getElem?_map, hj]; rfl
      have hil := (List.getElem?_eq_some_iff.1 hi')
      have hjl := (List.getElem?_eq_some_iff.1 hj')
      obtain ⟨hil, hil'⟩ := hil
      obtain ⟨hjl, hjl'⟩ := hjl
      rcases Nat.lt_or_gt_of_ne hij with hlt' | hlt'
      · exact List.pairwise_iff_getElem.1 hn j i hjl hil hlt' (hjl'.trans hil'.symm)
      · exact List.pairwise_iff_getElem.1 hn i j hil hjl hlt' (hil'.trans hjl'.symm)
  · rintro (rfl | ⟨hx, hne⟩)
    · exact ⟨j, by rw [Array.getElem?_toList, Array.getElem?_modify, if_pos rfl, Array.getElem?_eq_getElem hlt]; simp [hej]⟩
    · obtain ⟨i, hi⟩ := List.mem_iff_getElem?.1 hx
      have hij : j ≠ i := fun hij => by subst hij; rw [hj] at hi; exact hne (Option.some.inj hi).symm
      exact ⟨i, by rw [Array.getElem?_toList, Array.getElem?_modify, if_neg hij, ← Array.getElem?_toList]; exact hi⟩

theorem modify_map {es : Array MapEntry} {j : Nat} {g : MapEntry → MapEntry} {α : Type} (p : MapEntry → α) (hg : ∀ e, es.toList[j]? = some e → p (g e) = p e) : (es.modify j g).toList.map p = es.toList.map p := by
  apply List.ext_getElem?
  intro i
  rw [List.getElem?_map, List.getElem?_map, Array.getElem?_toList, Array.getElem?_modify]
  split
  · rename_i hij
    subst hij
    rw [← Array.getElem?_toList]
    cases he : es.toList[j]? with
    | none => rfl
    | some e => simp [hg e he]
  · rw [Array.getElem?_toList]

theorem MapAt.update (h : MapAt w b f) (hm : P.underlying mt = some (.map kt et)) (hk : P.underlying kt = some (.int .i64)) (k : Int) (v : Array Value) :
    ∃ o, (Instr.mapUpdate mt (.map (some b)) (.int .i64 k) (.agg v)).run P w = .ok () (setBlock w b o) ∧ MapAt (setBlock w b o) b (updF f k v) := by
  obtain ⟨es, clock, hb, ok⟩ := h
  have hkk : IsKey (.int .i64) (.int .i64 k) := rfl
  rcases findNow_spec hkk es.toList 0 ok.isKey with ⟨h1, h2⟩ | ⟨j, e, h1, h2, h3⟩
  · refine ⟨.map (es.push { key := .int .i64 k, val := .agg v, born := clock }) (clock + 1), ?_, es.push { key := .int .i64 k, val := .agg v, born := clock }, clock + 1, (heap_set hb).1, ?_⟩
    · simp [Instr.mapUpdate, run_underlying hm, Go.MapKept.run_getObj_map hb, run_checkKey hk hkk, run_findKey hk h1, run_setObj_map _ hb, Result.andThen, setBlock]
    · rw [Array.toList_push]
      refine ⟨?_, ?_, ?_, ?_, ?_⟩
      · intro x hx
        rcases List.mem_append.1 hx with hx | hx
        · exact ok.form x hx
        · simp at hx; subst hx; exact ⟨k, v, rfl, rfl⟩
      · refine List.pairwise_append.2 ⟨ok.keys, by simp, fun x hx y hy => ?_⟩
        simp at hy; subst hy; exact h2 x hx
      · rw [List.map_append, List.nodup_append]
        refine ⟨ok.born, by simp, fun x hx y hy => ?_⟩
        simp at hy; subst hy
        obtain ⟨z, hz, rfl⟩ := List.mem_map.1 hx
        exact Nat.ne_of_lt (ok.lt z hz)
      · intro x hx
        rcases List.mem_append.1 hx with hx | hx
        · exact Nat.lt_succ_of_lt (ok.lt x hx)
        · simp at hx; subst hx; exact Nat.lt_succ_self _
      · intro i u
        unfold updF
        by_cases hi : i = k
        · subst hi
          simp only [if_true, Option.some.injEq]
          constructor
          · rintro rfl; exact ⟨{ key := .int .i64 i, val := .agg v, born := clock }, List.mem_append.2 (.inr (by simp)), rfl, rfl⟩
          · rintro ⟨x, hx, e1, e2⟩
            rcases List.mem_append.1 hx with hx | hx
            · exact absurd e1 (h2 x hx)
            · simp at hx; subst hx; simpa using e2
        · rw [if_neg hi, ok.has]
          constructor
          · rintro ⟨x, hx, e1, e2⟩; exact ⟨x, List.mem_append.2 (.inl hx), e1, e2⟩
          · rintro ⟨x, hx, e1, e2⟩
            rcases List.mem_append.1 hx with hx | hx
            · exact ⟨x, hx, e1, e2⟩
            · simp at hx; subst hx; simp at e1; exact absurd e1.symm hi
  · have he : e ∈ es.toList := List.mem_of_getElem? h2
    have hlt : j < es.size := by
      have := (List.getElem?_eq_some_iff.1 h2).1
      simpa using this
    have hej : es[j]? = some e := by rw [← Array.getElem?_toList]; exact h2
    refine ⟨.map (es.modify j fun e => { e with key := .int .i64 k, val := .agg v }) clock, ?_, es.modify j fun e => { e with key := .int .i64 k, val := .agg v }, clock, (heap_set hb).1, ?_⟩
    · simp [Instr.mapUpdate, run_underlying hm, Go.MapKept.run_getObj_map hb, run_checkKey hk hkk, run_findKey hk h1, hej, h3, run_keyThatStays hkk, run_setObj_map _ hb, Result.andThen, setBlock]
    · have hmem := fun x => modify_mem (g := fun e => { e with key := .int .i64 k, val := .agg v }) h2 x ok.born
      refine ⟨?_, ?_, ?_, ?_, ?_⟩
      · intro x hx
        rcases (hmem x).1 hx with rfl | ⟨hx, _⟩
        · exact ⟨k, v, rfl, rfl⟩
        · exact ok.form x hx
      · have := modify_map (es := es) (j := j) (g := fun e => { e with key := .int .i64 k, val := .agg v }) (fun e => e.key) (fun e' he' => by rw [h2] at he'; cases he'; exact h3.symm)
        have hp : (es.toList.map (fun e => e.key)).Pairwise (· ≠ ·) := by rw [List.pairwise_map]; exact ok.keys
        rw [← this, List.pairwise_map] at hp
        exact hp
      · rw [modify_map (es := es) (j := j) (g := fun e => { e with key := .int .i64 k, val := .agg v }) (fun e => e.born) (fun _ _ => rfl)]
        exact ok.born
      · intro x hx
        rcases (hmem x).1 hx with rfl | ⟨hx, _⟩
        · exact ok.lt e he
        · exact ok.lt x hx
      · intro i u
        unfold updF
        by_cases hi : i = k
        · subst hi
          simp only [if_true, Option.some.injEq]
          constructor
          · rintro rfl; exact ⟨_, (hmem _).2 (.inl rfl), rfl, rfl⟩
          · rintro ⟨x, hx, e1, e2⟩
            rcases (hmem x).1 hx with rfl | ⟨hx, hne⟩
            · simpa using e2
            · exact absurd (pairwise_at ok.keys hx he (e1.trans h3.symm)) hne
        · rw [if_neg hi, ok.has]
          constructor
          · rintro ⟨x, hx, e1, e2⟩
            exact ⟨x, (hmem x).2 (.inr ⟨hx, fun q => by subst q; rw [h3] at e1; simp at e1; exact hi e1.symm⟩), e1, e2⟩
          · rintro ⟨x, hx, e1, e2⟩
            rcases (hmem x).1 hx with rfl | ⟨hx, _⟩
            · simp at e1; exact absurd e1.symm hi
            · exact ⟨x, hx, e1, e2⟩

end
end Go.Proofs.Ytoccnaebckcfmaa
end

section
namespace Go.Proofs.Ytoccnaebckcfmaa
open Go.RowKit
open Go.ChangeMaps (setBlock)

/-- All blocks of w but those on the list are as they were. -/
structure Only (F : List Nat) (w w' : World) : Prop where
  os : w'.os = w.os
  tape : w'.tape = w.tape
  output : w'.output = w.output
  size : w.heap.size ≤ w'.heap.size
  block : ∀ k, k < w.heap.size → k ∉ F → w'.heap[k]? = w.heap[k]?

theorem Only.refl (F : List Nat) (w : World) : Only F w w := ⟨rfl, rfl, rfl, Nat.le_refl _, fun _ _ _ => rfl⟩
theorem Only.trans {F F' : List Nat} {a b c : World} (h : Only F a b) (k : Only F' b c) (hF : ∀ x ∈ F', x ∈ F ∨ a.heap.size ≤ x) : Only F a c :=
  ⟨k.os.trans h.os, k.tape.trans h.tape, k.output.trans h.output, Nat.le_trans h.size k.size, fun i hi hn =>
    (k.block i (Nat.lt_of_lt_of_le hi h.size) (fun hx => by rcases hF i hx with h1 | h1; exact hn h1; omega)).trans (h.block i hi hn)⟩
theorem Only.mono {F F' : List Nat} {a b : World} (h : Only F a b) (hF : ∀ x ∈ F, x ∈ F') : Only F' a b := ⟨h.os, h.tape, h.output, h.size, fun k hk hn => h.block k hk (fun hx => hn (hF k hx))⟩
theorem Only.drew {F : List Nat} {a b : World} (h : Only F a b) : Only F a b.drew := ⟨h.os, h.tape, h.output, h.size, h.block⟩
theorem Only.alloc {F : List Nat} {a b : World} (h : Only F a b) (o : Obj) : Only F a (b.alloc o) :=
  ⟨h.os, h.tape, h.output, Nat.le_trans h.size (by simp), fun k hk hn => by rw [← h.block k hk hn]; exact Below.heap_alloc _ _ _ (Nat.lt_of_lt_of_le hk h.size)⟩
theorem Only.setCell {F : List Nat} {a b : World} (h : Only F a b) {p : Addr} (hp : p.block ∈ F ∨ a.heap.size ≤ p.block) (v : Value) : Only F a (b.setCell p v) :=
  ⟨h.os, h.tape, h.output, by simpa using h.size, fun k hk hn => by
    rw [← h.block k hk hn]; exact Below.heap_setCell _ _ _ _ (fun e => by subst e; rcases hp with hp | hp; exact hn hp; omega)⟩
theorem Only.setBlock {F : List Nat} {a b : World} (h : Only F a b) {g : Nat} (hp : g ∈ F ∨ a.heap.size ≤ g) (o : Obj) : Only F a (setBlock b g o) :=
  ⟨h.os, h.tape, h.output, by simpa [Go.ChangeMaps.setBlock] using h.size, fun k hk hn => by
    rw [← h.block k hk hn]
    have hne : g ≠ k := fun e => by subst e; rcases hp with hp | hp; exact hn hp; omega
    simp [Go.ChangeMaps.setBlock, hne]⟩
theorem Only.grown {F : List Nat} {a b c : World} {row : Option Nat} (h : Only F a b) (hg : b.grownBy c row) (hr : ∀ k, row = some k → k ∈ F ∨ a.heap.size ≤ k) : Only F a c :=
  ⟨hg.os.trans h.os, hg.tape.trans h.tape, hg.output.trans h.output, Nat.le_trans h.size hg.size, fun k hk hn =>
    (hg.block k (Nat.lt_of_lt_of_le hk h.size) (fun e => by rcases hr k e.symm with h1 | h1; exact hn h1; omega)).trans (h.block k hk hn)⟩
theorem Only.below {F : List Nat} {a b : World} (h : Only F a b) {B : Nat} (hB : B ≤ a.heap.size) (hF : ∀ x ∈ F, B ≤ x) : Below B a b :=
  ⟨h.os, h.tape, h.output, h.size, fun k hk => h.block k (Nat.lt_of_lt_of_le hk hB) (fun hx => by have := hF k hx; omega)⟩

/-- A sector's cells. -/
def SecOk (c : Array Value) : Prop := c.size = 64 ∧ c.all (·.oneCell') = true
def Z : Array Value := Array.replicate 64 (.int .u8 0)
theorem Z_ok : SecOk Z := ⟨by simp [Z], by decide +kernel⟩

structure St where
  n : Int
  on : Bool
  fuse : Int
  steps : Int
  now : Int → Option (Array Value)
  sure : Int → Option (Array Value)
  pend : List (Int × Array Value)

structure StOk (S : St) : Prop where
  n0 : 0 ≤ S.n
  n1 : S.n ≤ 8192
  s0 : 0 ≤ S.steps
  f1 : S.fuse ≤ 9223372036854775807
  now : ∀ i v, S.now i = some v → SecOk v
  sure : ∀ i v, S.sure i = some v → SecOk v
  pend : ∀ p ∈ S.pend, SecOk p.2

def wcells (p : Int × Array Value) : List Value := .int .i64 p.1 :: p.2.toList

def drow (S : St) (mn ms : Nat) (pv : Value) : Array Value := #[.int .i64 S.n, .bool S.on, .int .i64 S.fuse, .int .i64 S.steps, .map (some mn), .map (some ms), pv]

structure DiskAt (w : World) (b mn ms : Nat) (pv : Value) (S : St) : Prop where
  row : w.heap[b]? = some (.cells (drow S mn ms pv) 91 (0, 0))
  now : MapAt w mn S.now
  sure : MapAt w ms S.sure
  pend : w.ownsRow 0 96 65 pv S.pend.length (S.pend.flatMap wcells)
  ne : mn ≠ ms
  ok : StOk S

def foot (b mn ms : Nat) (pv : Value) : List Nat := b :: mn :: ms :: pv.ownBlock.toList

/-- At block b lies a disk in the state S; all of it lies in the blocks F. -/
def DAt (w : World) (b : Nat) (F : List Nat) (S : St) : Prop := ∃ mn ms pv, DiskAt w b mn ms pv S ∧ F = foot b mn ms pv

/-- Behind a call on the disk at b: its new state; nothing but its own blocks has changed. -/
def DPost (w w' : World) (b : Nat) (F : List Nat) (S' : St) : Prop := ∃ F', DAt w' b F' S' ∧ (∀ x ∈ F', x ∈ F ∨ w.heap.size ≤ x) ∧ Only F w w'

theorem ownsRow_congr {w w' : World} {e : TypeId} {size n : Nat} {v : Value} {xs : List Value} (h : w.ownsRow 0 e size v n xs) (he : ∀ g, v.ownBlock = some g → w'.heap[g]? = w.heap[g]?) : w'.ownsRow 0 e size v n xs := by
  obtain ⟨h1, h2⟩ := h
  refine ⟨h1, ?_⟩
  rcases h2 with h2 | ⟨g, cap, cur, hv, hg, hh, r⟩
  · exact .inl h2
  · exact .inr ⟨g, cap, cur, hv, hg, (he g (by rw [hv]; rfl)).trans hh, r⟩

theorem diskAt_congr {w w' : World} {b mn ms : Nat} {pv : Value} {S : St} (h : DiskAt w b mn ms pv S) (he : ∀ x ∈ foot b mn ms pv, w'.heap[x]? = w.heap[x]?) : DiskAt w' b mn ms pv S :=
  ⟨(he b (by simp [foot])).trans h.row, mapAt_congr h.now (he mn (by simp [foot])), mapAt_congr h.sure (he ms (by simp [foot])), ownsRow_congr h.pend (fun g hg => he g (by simp [foot, hg])), h.ne, h.ok⟩

theorem dAt_congr {w w' : World} {b : Nat} {F : List Nat} {S : St} (h : DAt w b F S) (he : ∀ x ∈ F, w'.heap[x]? = w.heap[x]?) : DAt w' b F S := by
  obtain ⟨mn, ms, pv, h, rfl⟩ := h
  exact ⟨mn, ms, pv, diskAt_congr h he, rfl⟩

theorem diskAt_lt {w : World} {b mn ms : Nat} {pv : Value} {S : St} (h : DiskAt w b mn ms pv S) : ∀ x ∈ foot b mn ms pv, x < w.heap.size := by
  intro x hx
  simp only [foot, List.mem_cons, Option.mem_toList] at hx
  rcases hx with rfl | rfl | rfl | hx
  · exact (Array.getElem?_eq_some_iff.1 h.row).1
  · exact mapAt_lt h.now
  · exact mapAt_lt h.sure
  · exact (h.pend.lt x hx).2

theorem dAt_lt {w : World} {b : Nat} {F : List Nat} {S : St} (h : DAt w b F S) : ∀ x ∈ F, x < w.heap.size := by
  obtain ⟨mn, ms, pv, h, rfl⟩ := h
  exact diskAt_lt h

theorem DAt.only {w w' : World} {b : Nat} {F G : List Nat} {S : St} (h : DAt w b F S) (ho : Only G w w') (hd : ∀ x ∈ F, x ∉ G) : DAt w' b F S :=
  dAt_congr h (fun x hx => ho.block x (dAt_lt h x hx) (hd x hx))

theorem DAt.alloc {w : World} {b : Nat} {F : List Nat} {S : St} (h : DAt w b F S) (o : Obj) : DAt (w.alloc o) b F S := h.only ((Only.refl [] w).alloc o) (by simp)
theorem DAt.drew {w : World} {b : Nat} {F : List Nat} {S : St} (h : DAt w b F S) : DAt w.drew b F S := h.only (Only.refl [] w).drew (by simp)

theorem DPost.trans {w w1 w2 : World} {b : Nat} {F : List Nat} {S2 : St} (h : Only F w w1) {F1 : List Nat} (h1 : ∀ x ∈ F1, x ∈ F ∨ w.heap.size ≤ x) (h2 : DPost w1 w2 b F1 S2) : DPost w w2 b F S2 := by
  obtain ⟨F2, d2, g2, o2⟩ := h2
  refine ⟨F2, d2, fun x hx => ?_, h.trans o2 h1⟩
  rcases g2 x hx with h3 | h3
  · exact h1 x h3
  · exact .inr (Nat.le_trans h.size h3)

/-- The seven cells of a disk, for a walk. -/
theorem DiskAt.cells {w : World} {b mn ms : Nat} {pv : Value} {S : St} (h : DiskAt w b mn ms pv S) :
    w.cell? ⟨b, 0, none⟩ = some (.int .i64 S.n) ∧ w.cell? ⟨b, 1, none⟩ = some (.bool S.on) ∧ w.cell? ⟨b, 2, none⟩ = some (.int .i64 S.fuse) ∧ w.cell? ⟨b, 3, none⟩ = some (.int .i64 S.steps) ∧
    w.cell? ⟨b, 4, none⟩ = some (.map (some mn)) ∧ w.cell? ⟨b, 5, none⟩ = some (.map (some ms)) ∧ w.cell? ⟨b, 6, none⟩ = some pv ∧ (∀ i, w.frozen? ⟨b, i, none⟩ = false) := by
  have hr := h.row
  refine ⟨?_, ?_, ?_, ?_, ?_, ?_, ?_, ?_⟩
  all_goals first
    | (rw [cell_of_row w b _ _ _ _ hr]; rfl)
    | (intro i; simp [World.frozen?, hr])

/-- One cell of the disk's row is written. -/
theorem heap_setCell_row {w : World} {b : Nat} {cs : Array Value} {t : TypeId} (h : w.heap[b]? = some (.cells cs t (0, 0))) (i : Nat) (v : Value) : (w.setCell ⟨b, i, none⟩ v).heap[b]? = some (.cells (cs.setIfInBounds i v) t (0, 0)) := by
  rw [setCell_eq_setRow w b i cs t (0, 0) v h]
  exact setRow_heap w b cs _ t _ h

theorem DiskAt.ne_now {w : World} {b mn ms : Nat} {pv : Value} {S : St} (h : DiskAt w b mn ms pv S) : b ≠ mn := fun e => by
  obtain ⟨es, c, hb, _⟩ := h.now
  rw [← e, h.row] at hb
  cases hb
theorem DiskAt.ne_sure {w : World} {b mn ms : Nat} {pv : Value} {S : St} (h : DiskAt w b mn ms pv S) : b ≠ ms := fun e => by
  obtain ⟨es, c, hb, _⟩ := h.sure
  rw [← e, h.row] at hb
  cases hb
theorem ownsRow_block {w : World} {e : TypeId} {size n g : Nat} {v : Value} {xs : List Value} (h : w.ownsRow 0 e size v n xs) (hg : v.ownBlock = some g) : ∃ cur, w.heap[g]? = some (.cells cur e (0, 0)) := by
  obtain ⟨h1, h2⟩ := h
  rcases h2 with ⟨h2, _⟩ | ⟨g', cap, cur, hv, _, hh, _⟩
  · rw [h2] at hg; simp [Value.ownBlock] at hg
  · rw [hv] at hg
    simp [Value.ownBlock] at hg
    subst hg
    exact ⟨cur, hh⟩
theorem DiskAt.ne_pend {w : World} {b mn ms g : Nat} {pv : Value} {S : St} (h : DiskAt w b mn ms pv S) (hg : pv.ownBlock = some g) : g ≠ b ∧ g ≠ mn ∧ g ≠ ms := by
  obtain ⟨cur, hc⟩ := ownsRow_block h.pend hg
  refine ⟨fun e => ?_, fun e => ?_, fun e => ?_⟩
  · rw [e, h.row] at hc; simp at hc
  · obtain ⟨es, c, hb, _⟩ := h.now
    rw [e, hb] at hc; simp at hc
  · obtain ⟨es, c, hb, _⟩ := h.sure
    rw [e, hb] at hc; simp at hc

/-- Numbers and flags of the disk's row have changed, nothing else of it. -/
theorem DiskAt.scalar {w w' : World} {b mn ms : Nat} {pv : Value} {S S' : St} (h : DiskAt w b mn ms pv S) (hrow : w'.heap[b]? = some (.cells (drow S' mn ms pv) 91 (0, 0))) (ho : Only [b] w w')
    (e1 : S'.now = S.now) (e2 : S'.sure = S.sure) (e3 : S'.pend = S.pend) (ok : StOk S') : DiskAt w' b mn ms pv S' := by
  have lt := diskAt_lt h
  refine ⟨hrow, ?_, ?_, ?_, h.ne, ok⟩
  · rw [e1]; exact mapAt_congr h.now (ho.block mn (lt mn (by simp [foot])) (by simpa using h.ne_now.symm))
  · rw [e2]; exact mapAt_congr h.sure (ho.block ms (lt ms (by simp [foot])) (by simpa using h.ne_sure.symm))
  · rw [e3]; exact ownsRow_congr h.pend (fun g hg => ho.block g (lt g (by simp [foot, hg])) (by simpa using (h.ne_pend hg).1))

theorem DiskAt.post {w w' : World} {b mn ms : Nat} {pv : Value} {S S' : St} (_h : DiskAt w b mn ms pv S) (h' : DiskAt w' b mn ms pv S') {G : List Nat} (ho : Only G w w') (hG : ∀ x ∈ G, x ∈ foot b mn ms pv) : DPost w w' b (foot b mn ms pv) S' :=
  ⟨_, ⟨mn, ms, pv, h', rfl⟩, fun _ hx => .inl hx, ho.mono hG⟩

end Go.Proofs.Ytoccnaebckcfmaa
end

section
set_option linter.unusedSimpArgs false
namespace Go.Proofs.Ytoccnaebckcfmaa
open Go.RowKit
open Go.ChangeMaps (setBlock)

def St.reach (S : St) (i : Int) : Int := if S.on = false then 2 else if i < 0 ∨ S.n ≤ i then 10 else 0

set_option maxHeartbeats 400000 in
theorem reach_any {w : World} {b : Nat} {F : List Nat} {S : St} (h : DAt w b F S) (i : Int) :
    Calls Try.prog 65 #[.pointer (some ⟨b, 0, none⟩), .int .i64 i] w fun e w' => e = .returned (.int .i64 (S.reach i)) ∧ w = w' := by
  obtain ⟨mn, ms, pv, h, -⟩ := h
  obtain ⟨c0, c1, c2, c3, c4, c5, c6, fz⟩ := h.cells
  clear h
  obtain ⟨n, on, fu, st, now, sure, pend⟩ := S
  simp only at *
  unfold St.reach
  cases on with
  | false =>
    go_enter Try.func65, Try.ntmps65
    go_wp2
    go_ret
    exact ⟨rfl, rfl⟩
  | true =>
    simp only [Bool.true_eq_false, if_false]
    by_cases h1 : i < 0
    · go_enter Try.func65, Try.ntmps65
      go_wp2
      go_ret
      exact ⟨by simp [h1], rfl⟩
    · by_cases h2 : n ≤ i
      · go_enter Try.func65, Try.ntmps65
        go_wp2
        go_ret
        exact ⟨by simp [h2], rfl⟩
      · go_enter Try.func65, Try.ntmps65
        go_wp2
        go_ret
        exact ⟨by simp [h1, h2], rfl⟩

/-- A step that is done. -/
def St.stepped (S : St) : St := { S with fuse := if 0 < S.fuse then S.fuse - 1 else S.fuse, steps := S.steps + 1 }
/-- The power goes off. -/
def St.fallen (S : St) : St := { S with on := false, fuse := -1 }

theorem StOk.scalar {S S' : St} (h : StOk S) (e0 : S'.n = S.n) (e1 : S'.now = S.now) (e2 : S'.sure = S.sure) (e3 : S'.pend = S.pend) (s0 : 0 ≤ S'.steps) (f1 : S'.fuse ≤ 9223372036854775807) : StOk S' :=
  ⟨by rw [e0]; exact h.n0, by rw [e0]; exact h.n1, s0, f1, by rw [e1]; exact h.now, by rw [e2]; exact h.sure, by rw [e3]; exact h.pend⟩

theorem StOk.stepped {S : St} (h : StOk S) : StOk S.stepped := h.scalar rfl rfl rfl rfl (by have := h.s0; simp only [St.stepped]; omega) (by have := h.f1; simp only [St.stepped]; split <;> omega)
theorem StOk.fallen {S : St} (h : StOk S) : StOk S.fallen := h.scalar rfl rfl rfl rfl h.s0 (by simp [St.fallen])

set_option maxHeartbeats 400000 in
theorem step_zero {w : World} {b : Nat} {F : List Nat} {S : St} (h : DAt w b F S) (hf : S.fuse = 0) :
    Calls Try.prog 91 #[.pointer (some ⟨b, 0, none⟩)] w fun e w' => e = .returned (.int .i64 2) ∧ DPost w w' b F S.fallen := by
  obtain ⟨mn, ms, pv, h, rfl⟩ := h
  obtain ⟨c0, c1, c2, c3, c4, c5, c6, fz⟩ := h.cells
  rw [hf] at c2
  have H := Lib.hid h
  clear h hf
  go_enter Try.func91, Try.ntmps91
  go_wp2
  go_ret
  have h := H.out
  have ho : Only [b] w ((w.setCell ⟨b, 1, none⟩ (.bool false)).setCell ⟨b, 2, none⟩ (.int .i64 (-1))) := ((Only.refl _ w).setCell (by simp) _).setCell (by simp) _
  refine ⟨rfl, h.post (h.scalar (S' := S.fallen) ?_ ho rfl rfl rfl h.ok.fallen) ho (by simp [foot])⟩
  rw [heap_setCell_row (heap_setCell_row h.row _ _)]
  rfl

set_option maxHeartbeats 400000 in
theorem step_ok {w : World} {b : Nat} {F : List Nat} {S : St} (h : DAt w b F S) (hf : S.fuse ≠ 0) (hs : S.steps < 1000000000) :
    Calls Try.prog 91 #[.pointer (some ⟨b, 0, none⟩)] w fun e w' => e = .returned (.int .i64 0) ∧ DPost w w' b F S.stepped := by
  obtain ⟨mn, ms, pv, h, rfl⟩ := h
  obtain ⟨c0, c1, c2, c3, c4, c5, c6, fz⟩ := h.cells
  have s0 := h.ok.s0
  have f1 := h.ok.f1
  have H := Lib.hid h
  clear h
  have hz : (S.fuse == 0) = false := by simpa using hf
  clear hf
  by_cases hp : 0 < S.fuse
  · go_enter Try.func91, Try.ntmps91
    go_wp2
    go_ret
    have h := H.out
    have ho : Only [b] w ((w.setCell ⟨b, 2, none⟩ (.int .i64 (S.fuse - 1))).setCell ⟨b, 3, none⟩ (.int .i64 (S.steps + 1))) := ((Only.refl _ w).setCell (by simp) _).setCell (by simp) _
    refine ⟨rfl, h.post (h.scalar (S' := S.stepped) ?_ ho rfl rfl rfl h.ok.stepped) ho (by simp [foot])⟩
    rw [heap_setCell_row (heap_setCell_row h.row _ _)]
    simp only [drow, St.stepped, if_pos hp]
    rfl
  · go_enter Try.func91, Try.ntmps91
    go_wp2
    go_ret
    have h := H.out
    have ho : Only [b] w (w.setCell ⟨b, 3, none⟩ (.int .i64 (S.steps + 1))) := (Only.refl _ w).setCell (by simp) _
    refine ⟨rfl, h.post (h.scalar (S' := S.stepped) ?_ ho rfl rfl rfl h.ok.stepped) ho (by simp [foot])⟩
    rw [heap_setCell_row h.row _ _]
    have hp' : ¬ 0 < S.fuse := by omega
    simp only [drow, St.stepped, if_neg hp']
    rfl

def St.settled (S : St) : St := { S with sure := fun _ => none, pend := [] }

theorem StOk.settled {S : St} (h : StOk S) : StOk S.settled := ⟨h.n0, h.n1, h.s0, h.f1, h.now, by simp [St.settled], by simp [St.settled]⟩

set_option maxHeartbeats 400000 in
theorem settle_any {w : World} {b : Nat} {F : List Nat} {S : St} (h : DAt w b F S) :
    Calls Try.prog 64 #[.pointer (some ⟨b, 0, none⟩)] w fun e w' => e = .returned (.tuple #[]) ∧ DPost w w' b F S.settled := by
  obtain ⟨mn, ms, pv, h, rfl⟩ := h
  obtain ⟨c0, c1, c2, c3, c4, c5, c6, fz⟩ := h.cells
  have lt := diskAt_lt h
  have hb : b < w.heap.size := lt b (by simp [foot])
  have hmm := @run_makeMap Try.prog
  have H := Lib.hid h
  have LT := Lib.hid lt
  clear h lt
  go_enter Try.func64, Try.ntmps64
  go_wp2
  go_end0
  have h := H.out
  have lt := LT.out
  have hsz : ((w.setCell ⟨b, 5, none⟩ (.map (some w.heap.size))).setCell ⟨b, 6, none⟩ (.slice none 0 0)).heap.size = w.heap.size := by simp
  have ho : Only [b] w (((w.setCell ⟨b, 5, none⟩ (.map (some w.heap.size))).setCell ⟨b, 6, none⟩ (.slice none 0 0)).alloc (.map #[] 0)) := (((Only.refl _ w).setCell (by simp) _).setCell (by simp) _).alloc _
  have hmn := lt mn (by simp [foot])
  refine ⟨rfl, foot b mn w.heap.size (.slice none 0 0), ⟨mn, w.heap.size, _, ⟨?_, ?_, ?_, ?_, ?_, h.ok.settled⟩, rfl⟩, ?_, ?_⟩
  · rw [Below.heap_alloc _ _ _ (by rw [hsz]; exact hb), heap_setCell_row (heap_setCell_row h.row _ _)]
    rfl
  · exact mapAt_congr h.now (ho.block mn hmn (by simpa using h.ne_now.symm))
  · have := mapAt_made ((w.setCell ⟨b, 5, none⟩ (.map (some w.heap.size))).setCell ⟨b, 6, none⟩ (.slice none 0 0))
    rw [hsz] at this
    exact this
  · exact World.ownsRow_nil _ _ _ _
  · omega
  · intro x hx
    simp [foot, Value.ownBlock] at hx
    rcases hx with rfl | rfl | rfl
    · simp [foot]
    · simp [foot]
    · simp
  · exact ho.mono (by simp [foot])


set_option maxHeartbeats 400000 in
theorem steps_any {w : World} {b : Nat} {F : List Nat} {S : St} (h : DAt w b F S) :
    Calls Try.prog 34 #[.pointer (some ⟨b, 0, none⟩)] w fun e w' => e = .returned (.int .i64 S.steps) ∧ w = w' := by
  obtain ⟨mn, ms, pv, h, rfl⟩ := h
  obtain ⟨c0, c1, c2, c3, c4, c5, c6, fz⟩ := h.cells
  clear h
  go_enter Try.func34, Try.ntmps34
  go_wp2
  go_ret
  exact ⟨rfl, rfl⟩

set_option maxHeartbeats 400000 in
theorem len_any {w : World} {b : Nat} {F : List Nat} {S : St} (h : DAt w b F S) :
    Calls Try.prog 45 #[.pointer (some ⟨b, 0, none⟩)] w fun e w' => e = .returned (.int .i64 S.n) ∧ w = w' := by
  obtain ⟨mn, ms, pv, h, rfl⟩ := h
  obtain ⟨c0, c1, c2, c3, c4, c5, c6, fz⟩ := h.cells
  clear h
  go_enter Try.func45, Try.ntmps45
  go_wp2
  go_ret
  exact ⟨rfl, rfl⟩

def St.fused (S : St) (n : Int) : St := if S.on then { S with fuse := n } else S

theorem StOk.fused {S : St} (h : StOk S) {n : Int} (hn : n ≤ 9223372036854775807) : StOk (S.fused n) := by
  unfold St.fused
  split
  · exact h.scalar rfl rfl rfl rfl h.s0 hn
  · exact h

set_option maxHeartbeats 400000 in
theorem fuse_any {w : World} {b : Nat} {F : List Nat} {S : St} (h : DAt w b F S) (n : Int) (hn : n ≤ 9223372036854775807) :
    Calls Try.prog 31 #[.pointer (some ⟨b, 0, none⟩), .int .i64 n] w fun e w' => e = .returned (.tuple #[]) ∧ DPost w w' b F (S.fused n) := by
  obtain ⟨mn, ms, pv, h, rfl⟩ := h
  obtain ⟨c0, c1, c2, c3, c4, c5, c6, fz⟩ := h.cells
  cases hon : S.on with
  | false =>
    rw [hon] at c1
    have H := Lib.hid h
    have HON := Lib.hid hon
    clear h hon
    go_enter Try.func31, Try.ntmps31
    go_wp2
    go_end0
    have h := H.out
    refine ⟨rfl, ?_⟩
    rw [show S.fused n = S by simp [St.fused, HON.out]]
    exact h.post h (Only.refl [] w) (by simp)
  | true =>
    rw [hon] at c1
    have H := Lib.hid h
    have HON := Lib.hid hon
    clear h hon
    go_enter Try.func31, Try.ntmps31
    go_wp2
    go_end0
    have h := H.out
    have ho : Only [b] w (w.setCell ⟨b, 2, none⟩ (.int .i64 n)) := (Only.refl _ w).setCell (by simp) _
    have e : S.fused n = { S with fuse := n } := by simp [St.fused, HON.out]
    refine ⟨rfl, h.post (h.scalar (S' := S.fused n) ?_ ho (by rw [e]) (by rw [e]) (by rw [e]) (h.ok.fused hn)) ho (by simp [foot])⟩
    rw [heap_setCell_row h.row _ _, e]
    rfl

def St.new (n : Int) : St := ⟨n, true, -1, 0, fun _ => none, fun _ => none, []⟩

set_option maxHeartbeats 400000 in
theorem new_no (w : World) (n : Int) (h : n < 1 ∨ 8192 < n) :
    Calls Try.prog 35 #[.int .i64 n] w fun e w' => e = .returned (.tuple #[.pointer none, .int .i64 1]) ∧ w = w' := by
  rcases h with h | h
  · go_enter Try.func35, Try.ntmps35
    go_wp2
    go_ret2
    exact ⟨rfl, rfl⟩
  · have h' : ¬ n < 1 := by omega
    go_enter Try.func35, Try.ntmps35
    go_wp2
    go_ret2
    exact ⟨rfl, rfl⟩

set_option maxHeartbeats 400000 in
theorem new_ok (w : World) (n : Int) (h1 : 1 ≤ n) (h2 : n ≤ 8192) :
    Calls Try.prog 35 #[.int .i64 n] w fun e w' => e = .returned (.tuple #[.pointer (some ⟨w.heap.size + 2, 0, none⟩), .int .i64 0]) ∧ DAt w' (w.heap.size + 2) [w.heap.size + 2, w.heap.size, w.heap.size + 1] (St.new n) ∧ Only [] w w' := by
  have hmm := @run_makeMap Try.prog
  go_enter Try.func35, Try.ntmps35
  go_wp2
  go_ret2
  refine ⟨rfl, ⟨w.heap.size, w.heap.size + 1, .slice none 0 0, ⟨?_, ?_, ?_, World.ownsRow_nil _ _ _ _, by omega, ⟨by simp only [St.new]; omega, by simp only [St.new]; omega, by simp [St.new], by simp [St.new], by simp [St.new], by simp [St.new], by simp [St.new]⟩⟩, by simp [foot, Value.ownBlock]⟩, (((Only.refl [] w).alloc _).alloc _).alloc _⟩
  · have := heap_alloc_last ((w.alloc (.map #[] 0)).alloc (.map #[] 0)) (.cells #[.int .i64 n, .bool true, .int .i64 (-1), .int .i64 0, .map (some w.heap.size), .map (some (w.heap.size + 1)), .slice none 0 0] 91)
    simp only [World.size_alloc] at this
    exact this
  · exact mapAt_congr (mapAt_made w) (by rw [Below.heap_alloc _ _ _ (by simp; omega), Below.heap_alloc _ _ _ (by simp)])
  · have := mapAt_made (w.alloc (.map #[] 0))
    simp only [World.size_alloc] at this
    exact mapAt_congr this (by rw [Below.heap_alloc _ _ _ (by simp)])

end Go.Proofs.Ytoccnaebckcfmaa
end

section
set_option linter.unusedSimpArgs false
set_option maxRecDepth 8000
namespace Go.Proofs.Ytoccnaebckcfmaa
open Go.RowKit
open Go.ChangeMaps (setBlock)

theorem zero88 (w : World) : (zeroValue 93).run Try.prog w = .ok (.agg Z) w := by kernel_rfl
theorem info88 : (Try.prog.info? 93).map (·.size) = some 64 := by kernel_rfl
theorem info90 : (Try.prog.info? 96).map (·.size) = some 65 := by kernel_rfl
theorem zero90 (w : World) : (zeroValue 96).run Try.prog w = .ok (.agg (#[.int .i64 0] ++ Z)) w := by kernel_rfl

section
variable {ops : Array Oper} {rest : List Oper} {o : Oper} {a : Act} {Q : Exit → Act → World → Prop} {w : World}

theorem wpL_value {P : Program} {v : Value} {w' : World} (hg : o.guard = none) (hr : (execOp a.eval o).run P w = .ok (.value v) w') (h : wpList P ops Q rest (a.put o.dst v) w') : wpList P ops Q (o :: rest) a w :=
  wpList_plain hg fun K hK => by unfold Oper.wp; rw [hr]; exact hK _ _ h
theorem wpL_skip {P : Program} {w' : World} (hg : o.guard = none) (hr : (execOp a.eval o).run P w = .ok .skip w') (h : wpList P ops Q rest (a.put o.dst undef) w') : wpList P ops Q (o :: rest) a w :=
  wpList_plain hg fun K hK => by unfold Oper.wp; rw [hr]; exact hK _ _ h

/-- 'var s sector'. -/
theorem wpL_alloc88 (hg : o.guard = none) (ho : o.op = .alloc 93) (h : wpList Try.prog ops Q rest (a.put o.dst (.pointer (some ⟨w.heap.size, 0, none⟩))) (w.alloc (.cells Z 93))) : wpList Try.prog ops Q (o :: rest) a w := by
  refine wpL_value hg ?_ h
  unfold execOp
  rw [ho]
  simp only [Instr.alloc, Sem.run_bind, zero88, Result.andThen, newVar, newRow, Value.cells]
  rfl

/-- A sector into the block that was made last. -/
theorem wpL_store88 {c c' : Array Value} {x y : Operand} (hg : o.guard = none) (ho : o.op = .store 93 x y) (hx : a.eval x = .pointer (some ⟨w.heap.size, 0, none⟩)) (hy : a.eval y = .agg c') (hc : c.size = 64) (hc' : SecOk c')
    (h : wpList Try.prog ops Q rest (a.put o.dst undef) (w.alloc (.cells c' 93))) : wpList Try.prog ops Q (o :: rest) a (w.alloc (.cells c 93)) := by
  refine wpL_skip hg ?_ h
  unfold execOp
  rw [ho]
  simp only [hx, hy, Sem.run_bind, run_storeAt_new (P := Try.prog) w 93 c c' (by rw [info88, hc'.1]) (by rw [hc, hc'.1]) hc'.2, Result.andThen]
  rfl

/-- A look-up in a map of sectors. -/
theorem wpL_lookup {m x : Operand} {b : Nat} {f : Int → Option (Array Value)} {k : Int} (hg : o.guard = none) (ho : o.op = .lookup 88 m x false) (hm : a.eval m = .map (some b)) (hx : a.eval x = .int .i64 k) (hf : MapAt w b f)
    (h : wpList Try.prog ops Q rest (a.put o.dst (.agg ((f k).getD Z))) w) : wpList Try.prog ops Q (o :: rest) a w := by
  refine wpL_value hg ?_ h
  unfold execOp
  rw [ho]
  simp only [hm, hx, Sem.run_bind, hf.lookup Try.underlying88 Try.underlying3 (zero88 w) k false, Result.andThen]
  rfl
theorem wpL_lookup_ok {m x : Operand} {b : Nat} {f : Int → Option (Array Value)} {k : Int} (hg : o.guard = none) (ho : o.op = .lookup 88 m x true) (hm : a.eval m = .map (some b)) (hx : a.eval x = .int .i64 k) (hf : MapAt w b f)
    (h : wpList Try.prog ops Q rest (a.put o.dst (.tuple #[.agg ((f k).getD Z), .bool (f k).isSome])) w) : wpList Try.prog ops Q (o :: rest) a w := by
  refine wpL_value hg ?_ h
  unfold execOp
  rw [ho]
  simp only [hm, hx, Sem.run_bind, hf.lookup Try.underlying88 Try.underlying3 (zero88 w) k true, Result.andThen]
  rfl
/-- A store into a map of sectors. -/
theorem wpL_update {m x y : Operand} {b : Nat} {f : Int → Option (Array Value)} {k : Int} {v : Array Value} (hg : o.guard = none) (ho : o.op = .mapUpdate 88 m x y) (hm : a.eval m = .map (some b)) (hx : a.eval x = .int .i64 k) (hy : a.eval y = .agg v) (hf : MapAt w b f)
    (h : ∀ ob, MapAt (setBlock w b ob) b (updF f k v) → wpList Try.prog ops Q rest (a.put o.dst undef) (setBlock w b ob)) : wpList Try.prog ops Q (o :: rest) a w := by
  obtain ⟨ob, hr, hm'⟩ := hf.update (P := Try.prog) Try.underlying88 Try.underlying3 k v
  refine wpL_skip hg ?_ (h ob hm')
  unfold execOp
  rw [ho]
  simp only [hm, hx, hy, Sem.run_bind, hr, Result.andThen]
  rfl
end

theorem secOk_getD {f : Int → Option (Array Value)} (h : ∀ i v, f i = some v → SecOk v) (k : Int) : SecOk ((f k).getD Z) := by
  cases hk : f k with
  | none => exact Z_ok
  | some v => exact h k v hk

theorem heap_setBlock_ne (w : World) (g : Nat) (o : Obj) {x : Nat} (h : x ≠ g) : (setBlock w g o).heap[x]? = w.heap[x]? := by
  have : ¬ g = x := fun e => h e.symm
  simp [Go.ChangeMaps.setBlock, this]

theorem DiskAt.sureUp {w W : World} {b mn ms : Nat} {pv : Value} {S : St} (h : DiskAt w b mn ms pv S) (ho : Only [] w W) {ob : Obj} {g : Int → Option (Array Value)} (hm : MapAt (setBlock W ms ob) ms g) (hg : ∀ i v, g i = some v → SecOk v) :
    DiskAt (setBlock W ms ob) b mn ms pv { S with sure := g } ∧ Only [ms] w (setBlock W ms ob) := by
  have lt := diskAt_lt h
  have hw := diskAt_congr h (fun x hx => ho.block x (lt x hx) (by simp))
  refine ⟨⟨?_, ?_, hm, ?_, h.ne, ⟨h.ok.n0, h.ok.n1, h.ok.s0, h.ok.f1, h.ok.now, hg, h.ok.pend⟩⟩, (ho.mono (by simp)).setBlock (by simp) _⟩
  · rw [heap_setBlock_ne _ _ _ h.ne_sure]; exact hw.row
  · exact mapAt_congr hw.now (heap_setBlock_ne _ _ _ h.ne)
  · exact ownsRow_congr hw.pend (fun x hx => heap_setBlock_ne _ _ _ (h.ne_pend hx).2.2)

theorem DiskAt.nowUp {w W : World} {b mn ms : Nat} {pv : Value} {S : St} (h : DiskAt w b mn ms pv S) (ho : Only [] w W) {ob : Obj} {g : Int → Option (Array Value)} (hm : MapAt (setBlock W mn ob) mn g) (hg : ∀ i v, g i = some v → SecOk v) :
    DiskAt (setBlock W mn ob) b mn ms pv { S with now := g } ∧ Only [mn] w (setBlock W mn ob) := by
  have lt := diskAt_lt h
  have hw := diskAt_congr h (fun x hx => ho.block x (lt x hx) (by simp))
  refine ⟨⟨?_, hm, ?_, ?_, h.ne, ⟨h.ok.n0, h.ok.n1, h.ok.s0, h.ok.f1, hg, h.ok.sure, h.ok.pend⟩⟩, (ho.mono (by simp)).setBlock (by simp) _⟩
  · rw [heap_setBlock_ne _ _ _ h.ne_now]; exact hw.row
  · exact mapAt_congr hw.sure (heap_setBlock_ne _ _ _ h.ne.symm)
  · exact ownsRow_congr hw.pend (fun x hx => heap_setBlock_ne _ _ _ (h.ne_pend hx).2.1)

theorem secOk_upd {f : Int → Option (Array Value)} (h : ∀ i v, f i = some v → SecOk v) {k : Int} {v : Array Value} (hv : SecOk v) : ∀ i u, updF f k v i = some u → SecOk u := by
  intro i u hu
  unfold updF at hu
  split at hu
  · cases hu; exact hv
  · exact h i u hu

set_option maxHeartbeats 400000 in
theorem read_no {w : World} {b : Nat} {F : List Nat} {S : St} (h : DAt w b F S) (i : Int) (hr : S.reach i ≠ 0) :
    Calls Try.prog 33 #[.pointer (some ⟨b, 0, none⟩), .int .i64 i] w fun e w' => e = .returned (.tuple #[.slice none 0 0, .int .i64 (S.reach i)]) ∧ w = w' := by
  have hn : (S.reach i != 0) = true := by simpa using hr
  have H := Lib.hid (reach_any h i)
  clear hr h
  go_enter Try.func33, Try.ntmps33
  go_wp2_with (go_at_call 65; refine H.out.mono ?_; rintro e w' ⟨rfl, rfl⟩)
  go_ret2
  exact ⟨rfl, rfl⟩

set_option maxHeartbeats 400000 in
theorem read_ok {w : World} {b : Nat} {F : List Nat} {S : St} (h : DAt w b F S) (i : Int) (hr : S.reach i = 0) :
    Calls Try.prog 33 #[.pointer (some ⟨b, 0, none⟩), .int .i64 i] w fun e w' => e = .returned (.tuple #[.slice (some ⟨w.heap.size, 0, none⟩) 64 64, .int .i64 0]) ∧ w' = w.alloc (.cells ((S.now i).getD Z) 93) := by
  have H := reach_any h i
  rw [hr] at H
  have H := Lib.hid H
  obtain ⟨mn, ms, pv, h, rfl⟩ := h
  obtain ⟨c0, c1, c2, c3, c4, c5, c6, fz⟩ := h.cells
  have hnow := h.now
  have hok := secOk_getD h.ok.now i
  clear h hr
  go_enter Try.func33, Try.ntmps33
  go_wp2_with (first | (go_at_call 65; refine H.out.mono ?_; rintro e w' ⟨rfl, rfl⟩) | (refine wpL_alloc88 rfl rfl ?_) | (refine wpL_store88 rfl rfl rfl rfl rfl hok ?_) | (refine wpL_lookup rfl rfl rfl rfl hnow ?_))
  go_ret2
  exact ⟨rfl, rfl⟩

set_option maxHeartbeats 400000 in
theorem keep_there {w : World} {b : Nat} {F : List Nat} {S : St} (h : DAt w b F S) (i : Int) (v : Array Value) (hs : S.sure i = some v) :
    Calls Try.prog 92 #[.pointer (some ⟨b, 0, none⟩), .int .i64 i] w fun e w' => e = .returned (.tuple #[]) ∧ w' = w.alloc (.cells v 93) := by
  obtain ⟨mn, ms, pv, h, rfl⟩ := h
  obtain ⟨c0, c1, c2, c3, c4, c5, c6, fz⟩ := h.cells
  have hsure := h.sure
  have hok : SecOk v := h.ok.sure i v hs
  have HS := Lib.hid hs
  clear h hs
  go_enter Try.func92, Try.ntmps92
  go_wp2_with (first | (refine wpL_alloc88 rfl rfl ?_) | (refine wpL_store88 rfl rfl rfl rfl rfl hok ?_) | (refine wpL_lookup_ok rfl rfl rfl rfl hsure ?_; rw [HS.out]))
  go_end0
  exact ⟨rfl, rfl⟩

set_option maxHeartbeats 400000 in
theorem keep_new {w : World} {b : Nat} {F : List Nat} {S : St} (h : DAt w b F S) (i : Int) (hs : S.sure i = none) :
    Calls Try.prog 92 #[.pointer (some ⟨b, 0, none⟩), .int .i64 i] w fun e w' => e = .returned (.tuple #[]) ∧ DPost w w' b F { S with sure := updF S.sure i ((S.now i).getD Z) } := by
  obtain ⟨mn, ms, pv, h, rfl⟩ := h
  obtain ⟨c0, c1, c2, c3, c4, c5, c6, fz⟩ := h.cells
  have hsure := h.sure
  have hnow := h.now
  have lt := diskAt_lt h
  have hb : b < w.heap.size := lt b (by simp [foot])
  have H := Lib.hid h
  have LT := Lib.hid lt
  have HS := Lib.hid hs
  have hl := (mapAt_congr (w' := (w.alloc (.cells Z 93)).drew) hnow (Below.heap_alloc _ _ _ (mapAt_lt hnow))).lookup (P := Try.prog) Try.underlying88 Try.underlying3 (zero88 _) i false
  simp only [Bool.false_eq_true, if_false] at hl
  clear h hs lt
  go_enter Try.func92, Try.ntmps92
  go_wp2_with (first | (refine wpL_alloc88 rfl rfl ?_) | (refine wpL_store88 rfl rfl rfl rfl rfl Z_ok ?_) | (refine wpL_lookup_ok rfl rfl rfl rfl hsure ?_; rw [HS.out]))
  refine wp_region_still_tail 11 (by kernel_rfl) (by kernel_rfl) ?_
  change wpStill Try.prog _ (World.drew _) _ _ _
  simp only [List.take_succ_cons, List.take_zero, List.drop_succ_cons, List.drop_zero]
  repeat still_step
  refine wpStill_nil ?_
  refine wpL_update rfl rfl rfl rfl rfl (mapAt_congr (w' := (w.alloc (.cells Z 93)).drew) hsure (Below.heap_alloc _ _ _ (mapAt_lt hsure))) ?_
  intro ob hm
  go_wp2
  go_end0
  have h := H.out
  show _ ∧ DPost w (setBlock (w.alloc (.cells Z 93)).drew ms ob) b _ _
  obtain ⟨h1, h2⟩ := h.sureUp ((Only.refl [] w).alloc (.cells Z 93)).drew hm (secOk_upd h.ok.sure (secOk_getD h.ok.now i))
  exact ⟨rfl, h.post h1 h2 (by simp [foot])⟩

def St.kept (S : St) (i : Int) : St := { S with sure := if (S.sure i).isSome then S.sure else updF S.sure i ((S.now i).getD Z) }

theorem keep_any {w : World} {b : Nat} {F : List Nat} {S : St} (h : DAt w b F S) (i : Int) :
    Calls Try.prog 92 #[.pointer (some ⟨b, 0, none⟩), .int .i64 i] w fun e w' => e = .returned (.tuple #[]) ∧ DPost w w' b F (S.kept i) := by
  cases hs : S.sure i with
  | some v =>
    refine (keep_there h i v hs).mono ?_
    rintro e w' ⟨rfl, rfl⟩
    refine ⟨rfl, F, ?_, fun x hx => .inl hx, (Only.refl F w).alloc _⟩
    have : S.kept i = S := by simp [St.kept, hs]
    rw [this]
    exact h.alloc _
  | none =>
    refine (keep_new h i hs).mono ?_
    rintro e w' ⟨rfl, h'⟩
    refine ⟨rfl, ?_⟩
    have : S.kept i = { S with sure := updF S.sure i ((S.now i).getD Z) } := by simp [St.kept, hs]
    rw [this]
    exact h'

end Go.Proofs.Ytoccnaebckcfmaa
end

section
namespace Go.Proofs.Ytoccnaebckcfmaa

def fMask (acc : Array Nat) (o : Oper) : Nat := o.after.toList.foldr (fun e s => if Region.binds .any e then s ||| 2 ^ e.on ||| acc.getD e.on 0 else s) 0
def fMasks : List Oper → Array Nat → Array Nat
  | [], acc => acc
  | o :: r, acc => fMasks r (acc.push (fMask acc o))

def fDst (l : List Oper) (j : Nat) : Option Tmp := (l[j]?).bind (·.dst)

def flowB (l : List Oper) (ks : List Nat) : Bool :=
  let m := fMasks l #[]
  let n := l.length
  Region.noSelect l.toArray &&
  ((List.range n).all fun i =>
    ((match l[i]? with | some o => o.after.toList.all (fun e => !Region.binds .any e || decide (e.on < i)) | none => false)) &&
    ((List.range i).all fun j =>
      (!decide (2 ≤ ks.getD j 3) || (m.getD i 0).testBit j) && (!(decide (3 ≤ ks.getD i 3) && (ks.getD j 3 == 1)) || (m.getD i 0).testBit j) &&
      ((fDst l i).isNone || fDst l i != fDst l j)) &&
    ((match l[i]? with | some o => o.looksAt l.toArray | none => []).all fun t => (List.range n).all fun j => fDst l j != some t || (decide (j < i) && (m.getD i 0).testBit j) || (decide (i < j) && (m.getD j 0).testBit i)))

/-- What a set of operations that have come up is like: whatever one waits for has come up too. -/
def Closed (l : List Oper) (D : Nat → Prop) : Prop := ∀ i o, l[i]? = some o → D i → ∀ e ∈ o.after, Region.binds .any e = true → D e.on
def Fits (l : List Oper) (D : Nat → Prop) (i : Nat) : Prop := ∀ o, l[i]? = some o → ∀ e ∈ o.after, Region.binds .any e = true → D e.on

theorem mask_good {l : List Oper} {D : Nat → Prop} (hc : Closed l D) (acc : Array Nat) (i : Nat) (o : Oper) (ho : l[i]? = some o) (hf : Fits l D i)
    (ha : ∀ k, k < acc.size → Fits l D k → ∀ j, (acc.getD k 0).testBit j = true → D j) : ∀ j, (fMask acc o).testBit j = true → D j := by
  intro j hj
  have hf' := hf o ho
  unfold fMask at hj
  have key : ∀ es : List Edge, (∀ e ∈ es, e ∈ o.after) → (es.foldr (fun e s => if Region.binds .any e then s ||| 2 ^ e.on ||| acc.getD e.on 0 else s) 0).testBit j = true → D j := by
    intro es
    induction es with
    | nil => intro _ h; simp at h
    | cons e es ih =>
      intro hm h
      rw [List.foldr_cons] at h
      split at h
      · rename_i hb
        rw [Nat.testBit_or, Nat.testBit_or, Bool.or_eq_true, Bool.or_eq_true] at h
        have he := hm e (by simp)
        rcases h with (h | h) | h
        · exact ih (fun x hx => hm x (by simp [hx])) h
        · rw [Nat.testBit_two_pow] at h
          have : e.on = j := by simpa using h
          rw [← this]
          exact hf' e he hb
        · by_cases hk : e.on < acc.size
          · exact ha e.on hk (fun oe hoe => hc e.on oe hoe (hf' e he hb)) j h
          · have : acc.getD e.on 0 = 0 := by simp [Array.getD, hk]
            rw [this] at h
            simp at h
      · exact ih (fun x hx => hm x (by simp [hx])) h
  exact key o.after.toList (fun e he => by simpa using he) hj

theorem masks_size : ∀ (r : List Oper) (acc : Array Nat), (fMasks r acc).size = acc.size + r.length
  | [], acc => by simp [fMasks]
  | o :: r, acc => by rw [fMasks, masks_size r]; simp; omega

theorem masks_good {l : List Oper} {D : Nat → Prop} (hc : Closed l D) : ∀ (r : List Oper) (acc : Array Nat), (∀ k, r[k]? = l[acc.size + k]?) →
    (∀ k, k < acc.size → Fits l D k → ∀ j, (acc.getD k 0).testBit j = true → D j) →
    ∀ k, Fits l D k → ∀ j, ((fMasks r acc).getD k 0).testBit j = true → D j
  | [], acc, _, ha, k, hf, j, h => by
    unfold fMasks at h
    by_cases hk : k < acc.size
    · exact ha k hk hf j h
    · have : acc.getD k 0 = 0 := by simp [Array.getD, hk]
      rw [this] at h
      simp at h
  | o :: r, acc, hr, ha, k, hf, j, h => by
    have ho : l[acc.size]? = some o := by simpa using (hr 0).symm
    refine masks_good hc r (acc.push (fMask acc o)) (fun k => ?_) (fun k hk hfk j hj => ?_) k hf j h
    · have := hr (k + 1)
      simp only [List.getElem?_cons_succ] at this
      rw [this, Array.size_push]
      congr 1
      omega
    · rw [Array.size_push] at hk
      by_cases hk' : k < acc.size
      · have e : (acc.push (fMask acc o)).getD k 0 = acc.getD k 0 := by simp [Array.getD, hk', Nat.lt_succ_of_lt hk', Array.getElem_push_lt hk']
        rw [e] at hj
        exact ha k hk' hfk j hj
      · have : k = acc.size := by omega
        subst this
        have e : (acc.push (fMask acc o)).getD acc.size 0 = fMask acc o := by simp [Array.getD]
        rw [e] at hj
        exact mask_good hc acc acc.size o ho hfk ha j hj

/-- The operation does just this. -/
def Does (P : Program) (o : Oper) (a : Act) (w : World) (v : Value) (w' : World) : Prop :=
  (execOp a.eval o).run P w = .ok (.value v) w' ∨ ((execOp a.eval o).run P w = .ok .skip w' ∧ v = undef) ∨
  ∃ f args, (execOp a.eval o).run P w = .ok (.enter f args) w ∧ Calls P f args w (fun e w'' => e = .returned v ∧ w'' = w')

def StepOk (P : Program) (L : World → World → Prop) (k : Nat) (o : Oper) (a : Act) (w : World) (v : Value) (w' : World) : Prop :=
  match k with
  | 0 => w' = w ∧ ∀ x, (execOp a.eval o).run P x = .ok (.value v) x
  | 1 => w' = w ∧ ∀ x, L w x → Does P o a x v x
  | 2 => L w w' ∧ Does P o a w v w'
  | _ => Does P o a w v w'

/-- An operation whose guard says yes does its step; one whose guard says no is passed over. -/
def OneStep (P : Program) (ops : Array Oper) (L : World → World → Prop) (k : Nat) (o : Oper) (a : Act) (w : World) (v : Value) (w' : World) : Prop :=
  (Region.wanted o (yielded ops a.tmps) = true ∧ StepOk P L k o a w v w') ∨ (Region.wanted o (yielded ops a.tmps) = false ∧ v = undef ∧ w' = w)

/-- In the order of the text: 0: in whatever world; 1: in every later world; 2: changes the world to a later one; 3: changes the world. -/
def wpFlow (P : Program) (ops : Array Oper) (L : World → World → Prop) (K : Act → World → Prop) : List Nat → List Oper → Act → World → Prop
  | _, [], a, w => K a w
  | ks, o :: r, a, w => ∃ v w', OneStep P ops L (ks.headD 3) o a w v w' ∧ wpFlow P ops L K ks.tail r (a.put o.dst v) w'

structure Trace (P : Program) (ops : Array Oper) (L : World → World → Prop) (ks : List Nat) (l : List Oper) (A : Nat → Act) (W : Nat → World) (v : Nat → Value) : Prop where
  act : ∀ i o, l[i]? = some o → A (i + 1) = (A i).put o.dst (v i)
  step : ∀ i o, l[i]? = some o → OneStep P ops L (ks.getD i 3) o (A i) (W i) (v i) (W (i + 1))

theorem trace_of {P : Program} {ops : Array Oper} {L : World → World → Prop} {K : Act → World → Prop} : ∀ (l : List Oper) (ks : List Nat) (a : Act) (w : World), wpFlow P ops L K ks l a w →
    ∃ A W v, A 0 = a ∧ W 0 = w ∧ Trace P ops L ks l A W v ∧ K (A l.length) (W l.length)
  | [], ks, a, w, h => ⟨fun _ => a, fun _ => w, fun _ => undef, rfl, rfl, ⟨by simp, by simp⟩, h⟩
  | o :: r, ks, a, w, h => by
    obtain ⟨v, w', h2, h3⟩ := h
    obtain ⟨A, W, u, hA, hW, ht, hK⟩ := trace_of r ks.tail _ _ h3
    refine ⟨fun i => match i with | 0 => a | i + 1 => A i, fun i => match i with | 0 => w | i + 1 => W i, fun i => match i with | 0 => v | i + 1 => u i, rfl, rfl, ⟨?_, ?_⟩, hK⟩
    · intro i o' ho
      cases i with
      | zero => simp at ho; subst ho; exact hA
      | succ i => exact ht.act i o' (by simpa using ho)
    · intro i o' ho
      cases i with
      | zero =>
        simp at ho; subst ho
        show OneStep P ops L (ks.getD 0 3) o a w v (W 0)
        rw [hW]
        cases ks <;> exact h2
      | succ i =>
        have := ht.step i o' (by simpa using ho)
        cases ks <;> exact this

section
variable {P : Program} {L : World → World → Prop} {ks : List Nat} {l : List Oper} {A : Nat → Act} {W : Nat → World} {v : Nat → Value}

theorem Trace.size (t : Trace P l.toArray L ks l A W v) : ∀ i, i ≤ l.length → (A i).tmps.size = (A 0).tmps.size ∧ (A i).defers = (A 0).defers
  | 0, _ => ⟨rfl, rfl⟩
  | i + 1, h => by
    obtain ⟨o, ho⟩ : ∃ o, l[i]? = some o := ⟨l[i], List.getElem?_eq_getElem (by omega)⟩
    obtain ⟨h1, h2⟩ := t.size i (by omega)
    rw [t.act i o ho]
    cases hd : o.dst with
    | none => exact ⟨h1, h2⟩
    | some d => exact ⟨by simpa [Act.put] using h1, h2⟩

theorem Trace.between (t : Trace P l.toArray L ks l A W v) (x : Nat) (i : Nat) : ∀ d, i + d ≤ l.length → (∀ j, i ≤ j → j < i + d → fDst l j ≠ some x) → (A (i + d)).tmps[x]? = (A i).tmps[x]?
  | 0, _, _ => rfl
  | d + 1, h, hn => by
    have ih := t.between x i d (by omega) (fun j h1 h2 => hn j h1 (by omega))
    obtain ⟨o, ho⟩ : ∃ o, l[i + d]? = some o := ⟨l[i + d], List.getElem?_eq_getElem (by omega)⟩
    have hd := hn (i + d) (by omega) (by omega)
    rw [show i + (d + 1) = (i + d) + 1 by omega, t.act (i + d) o ho, ← ih]
    simp only [fDst, ho, Option.bind_some] at hd
    cases he : o.dst with
    | none => rfl
    | some y =>
      have : y ≠ x := fun e => hd (by rw [he, e])
      simp [Act.put, Array.getElem?_setIfInBounds_ne this]

/-- A state on some way through the region. -/
structure FInv (l : List Oper) (ks : List Nat) (A : Nat → Act) (W : Nat → World) (D : Nat → Prop) (a : Act) (w : World) : Prop where
  closed : Closed l D
  dom : ∀ i, D i → i < l.length
  stage : ∃ m, m ≤ l.length ∧ (∀ e, e < m → 2 ≤ ks.getD e 3 → D e) ∧ (∀ e, m ≤ e → e < l.length → 2 ≤ ks.getD e 3 → ¬ D e) ∧ w = W m
  size : a.tmps.size = (A 0).tmps.size
  defers : a.defers = (A 0).defers
  done : ∀ j x, D j → fDst l j = some x → a.tmps[x]? = (A l.length).tmps[x]?
  rest : ∀ x, (∀ j, D j → fDst l j ≠ some x) → a.tmps[x]? = (A 0).tmps[x]?

theorem world_const (t : Trace P l.toArray L ks l A W v) (i : Nat) : ∀ d, i + d ≤ l.length → (∀ j, i ≤ j → j < i + d → ¬ 2 ≤ ks.getD j 3) → W (i + d) = W i
  | 0, _, _ => rfl
  | d + 1, h, hn => by
    have ih := world_const t i d (by omega) (fun j h1 h2 => hn j h1 (by omega))
    obtain ⟨o, ho⟩ : ∃ o, l[i + d]? = some o := ⟨l[i + d], List.getElem?_eq_getElem (by omega)⟩
    have hs := t.step (i + d) o ho
    have hk := hn (i + d) (by omega) (by omega)
    rw [show i + (d + 1) = (i + d) + 1 by omega, ← ih]
    rcases hs with ⟨_, hs⟩ | ⟨_, _, hs⟩
    case inr => exact hs
    revert hs
    generalize ks.getD (i + d) 3 = k at *
    match k, hk with
    | 0, _ => exact fun hs => hs.1
    | 1, _ => exact fun hs => hs.1
    | n + 2, hk => exact absurd (by omega) hk

theorem world_later (t : Trace P l.toArray L ks l A W v) (hr : ∀ w, L w w) (htr : ∀ a b c, L a b → L b c → L a c) (i : Nat) : ∀ d, i + d ≤ l.length → (∀ j, i ≤ j → j < i + d → ¬ 3 ≤ ks.getD j 3) → L (W i) (W (i + d))
  | 0, _, _ => hr _
  | d + 1, h, hn => by
    have ih := world_later t hr htr i d (by omega) (fun j h1 h2 => hn j h1 (by omega))
    obtain ⟨o, ho⟩ : ∃ o, l[i + d]? = some o := ⟨l[i + d], List.getElem?_eq_getElem (by omega)⟩
    have hs := t.step (i + d) o ho
    have hk := hn (i + d) (by omega) (by omega)
    rw [show i + (d + 1) = (i + d) + 1 by omega]
    refine htr _ _ _ ih ?_
    rcases hs with ⟨_, hs⟩ | ⟨_, _, hs⟩
    case inr => rw [hs]; exact hr _
    revert hs
    generalize ks.getD (i + d) 3 = k at *
    match k, hk with
    | 0, _ => exact fun hs => by rw [hs.1]; exact hr _
    | 1, _ => exact fun hs => by rw [hs.1]; exact hr _
    | 2, _ => exact fun hs => hs.1
    | n + 3, hk => exact absurd (by omega) hk

/-- What the check says. -/
structure FlowOk (l : List Oper) (ks : List Nat) : Prop where
  sel : Region.noSelect l.toArray = true
  less : ∀ i o, l[i]? = some o → ∀ e ∈ o.after, Region.binds .any e = true → e.on < i
  eff : ∀ D, Closed l D → ∀ i j, i < l.length → j < i → 2 ≤ ks.getD j 3 → Fits l D i → D j
  hard : ∀ D, Closed l D → ∀ i j, i < l.length → j < i → 3 ≤ ks.getD i 3 → ks.getD j 3 = 1 → Fits l D i → D j
  one : ∀ i j x, i < l.length → j < i → fDst l i = some x → fDst l j ≠ some x
  look : ∀ D, Closed l D → ∀ i o x j, l[i]? = some o → x ∈ o.looksAt l.toArray → j < l.length → fDst l j = some x → (j < i ∧ (Fits l D i → D j)) ∨ (i < j ∧ (Fits l D j → D i))

theorem flowOk_of {l : List Oper} {ks : List Nat} (h : flowB l ks = true) : FlowOk l ks := by
  unfold flowB at h
  simp only [Bool.and_eq_true] at h
  obtain ⟨h0, h1⟩ := h
  have hm : ∀ D, Closed l D → ∀ i, Fits l D i → ∀ j, ((fMasks l #[]).getD i 0).testBit j = true → D j := fun D hc i hf j hj =>
    masks_good hc l #[] (fun k => by simp) (fun k hk => absurd hk (by simp)) i hf j hj
  have hi : ∀ i, i < l.length → _ := fun i hi => List.all_eq_true.1 h1 i (List.mem_range.2 hi)
  refine ⟨h0, ?_, ?_, ?_, ?_, ?_⟩
  · intro i o ho e he hb
    have hlt : i < l.length := (List.getElem?_eq_some_iff.1 ho).1
    have := hi i hlt
    simp only [Bool.and_eq_true, ho] at this
    have := List.all_eq_true.1 this.1.1 e (by simpa using he)
    simpa [hb] using this
  · intro D hc i j hlt hj hk hf
    have := hi i hlt
    simp only [Bool.and_eq_true] at this
    have := List.all_eq_true.1 this.1.2 j (List.mem_range.2 hj)
    simp only [Bool.and_eq_true, Bool.or_eq_true] at this
    refine hm D hc i hf j ?_
    rcases this.1.1 with h | h
    · simp only [Bool.not_eq_true', decide_eq_false_iff_not] at h; exact absurd hk h
    · exact h
  · intro D hc i j hlt hj hk hk1 hf
    have := hi i hlt
    simp only [Bool.and_eq_true] at this
    have := List.all_eq_true.1 this.1.2 j (List.mem_range.2 hj)
    simp only [Bool.and_eq_true, Bool.or_eq_true] at this
    refine hm D hc i hf j ?_
    rcases this.1.2 with h | h
    · rw [hk1] at h
      simp only [beq_self_eq_true, Bool.and_true, Bool.not_eq_true', decide_eq_false_iff_not] at h
      exact absurd hk h
    · exact h
  · intro i j x hlt hj hx hx'
    have := hi i hlt
    simp only [Bool.and_eq_true] at this
    have := List.all_eq_true.1 this.1.2 j (List.mem_range.2 hj)
    simp only [Bool.and_eq_true, Bool.or_eq_true] at this
    have := this.2
    rw [hx, hx'] at this
    simp at this
  · intro D hc i o x j ho hx hj hxj
    have hlt : i < l.length := (List.getElem?_eq_some_iff.1 ho).1
    have := hi i hlt
    simp only [Bool.and_eq_true, ho] at this
    have := List.all_eq_true.1 this.2 x hx
    have := List.all_eq_true.1 this j (List.mem_range.2 hj)
    rw [hxj] at this
    simp only [bne_self_eq_false, Bool.false_or, Bool.or_eq_true, Bool.and_eq_true, decide_eq_true_eq] at this
    rcases this with this | this
    · exact .inl ⟨this.1, fun hf => hm D hc i hf j this.2⟩
    · exact .inr ⟨this.1, fun hf => hm D hc j hf i this.2⟩

theorem fInv_fits {D : Nat → Prop} {a : Act} {w : World} (hok : FlowOk l ks) (t : Trace P l.toArray L ks l A W v) (inv : FInv l ks A W D a w) {i : Nat} {o : Oper} (ho : l[i]? = some o) (hf : Fits l D i) (hnd : ¬ D i) :
    execOp a.eval o = execOp (A i).eval o ∧ Region.wanted o (yielded l.toArray a.tmps) = Region.wanted o (yielded l.toArray (A i).tmps) := by
  have hlt : i < l.length := (List.getElem?_eq_some_iff.1 ho).1
  have same : ∀ x ∈ o.looksAt l.toArray, a.tmps[x]? = (A i).tmps[x]? := by
    intro x hx
    by_cases hex : ∃ j, j < l.length ∧ fDst l j = some x
    · obtain ⟨j, hj, hjx⟩ := hex
      rcases hok.look D inv.closed i o x j ho hx hj hjx with ⟨h1, h2⟩ | ⟨h1, h2⟩
      case inr =>
        have hnj : ¬ D j := fun hD => hnd (h2 (fun oj hoj e he hb => inv.closed j oj hoj hD e he hb))
        have honly : ∀ k, k < l.length → fDst l k = some x → k = j := fun k hk hkx => by
          rcases Nat.lt_trichotomy k j with h | h | h
          · exact absurd hkx (hok.one j k x hj h hjx)
          · exact h
          · exact absurd hjx (hok.one k j x hk h hkx)
        rw [inv.rest x (fun k hk hkx => hnj (honly k (inv.dom k hk) hkx ▸ hk))]
        have := t.between x 0 i (by omega) (fun k _ hk2 hkx => by have := honly k (by omega) hkx; omega)
        rw [Nat.zero_add] at this
        exact this.symm
      rw [inv.done j x (h2 hf) hjx]
      have := t.between x i (l.length - i) (by omega) (fun k hk1 hk2 hkx => hok.one k j x (by omega) (by omega) hkx hjx)
      rw [show i + (l.length - i) = l.length by omega] at this
      exact this
    · have hno : ∀ j, j < l.length → fDst l j ≠ some x := fun j hj e => hex ⟨j, hj, e⟩
      rw [inv.rest x (fun j hj => hno j (inv.dom j hj))]
      have := t.between x 0 i (by omega) (fun k _ hk2 => hno k (by omega))
      rw [Nat.zero_add] at this
      exact this.symm
  constructor
  · refine execOp_congr o (fun cs b => Region.noSelect_spec hok.sel i o cs b (by simpa using ho)) (fun x hx => ?_)
    cases x with
    | tmp y =>
      have := same y (List.mem_append_left _ (List.mem_filterMap.2 ⟨.tmp y, by simpa using hx, rfl⟩))
      simp [Act.eval, this]
    | _ => rfl
  · unfold Region.wanted
    cases hg : o.guard with
    | none => rfl
    | some gw =>
      obtain ⟨g, b⟩ := gw
      simp only
      congr 1
      unfold yielded
      cases hd : (l.toArray[g]?).bind (·.dst) with
      | none => rfl
      | some y =>
        have := same y (List.mem_append_right _ (by simp only [hg]; rw [hd]; simp))
        simp only [Option.bind_some, this]

theorem fInv_step {D D' : Nat → Prop} {a : Act} {w w' : World} (hok : FlowOk l ks) (t : Trace P l.toArray L ks l A W v) (inv : FInv l ks A W D a w) {i : Nat} {o : Oper} (ho : l[i]? = some o) (hf : Fits l D i) (hnd : ¬ D i)
    (hD' : ∀ j, D' j ↔ D j ∨ j = i) (hst : ∃ m, m ≤ l.length ∧ (∀ e, e < m → 2 ≤ ks.getD e 3 → D' e) ∧ (∀ e, m ≤ e → e < l.length → 2 ≤ ks.getD e 3 → ¬ D' e) ∧ w' = W m) : FInv l ks A W D' (a.put o.dst (v i)) w' := by
  have hlt : i < l.length := (List.getElem?_eq_some_iff.1 ho).1
  refine ⟨?_, ?_, hst, ?_, ?_, ?_, ?_⟩
  · intro j oj hoj hj e he hb
    rw [hD'] at hj ⊢
    rcases hj with hj | rfl
    · exact .inl (inv.closed j oj hoj hj e he hb)
    · exact .inl (hf oj hoj e he hb)
  · intro j hj
    rcases (hD' j).1 hj with hj | rfl
    · exact inv.dom j hj
    · exact hlt
  · rw [← inv.size]
    cases o.dst <;> simp [Act.put]
  · rw [← inv.defers]
    cases o.dst <;> rfl
  · intro j x hj hx
    have hfi : ∀ y, o.dst = some y → fDst l i = some y := fun y hy => by simp [fDst, ho, hy]
    rcases (hD' j).1 hj with hj | rfl
    · have hne : o.dst ≠ some x := fun e => by
        have h1 := hfi x e
        have hjl := inv.dom j hj
        rcases Nat.lt_trichotomy i j with h | h | h
        · exact hok.one j i x hjl h hx h1
        · subst h; exact hnd hj
        · exact hok.one i j x hlt h h1 hx
      rw [← inv.done j x hj hx]
      cases hd : o.dst with
      | none => rfl
      | some y =>
        have : y ≠ x := fun e => hne (by rw [hd, e])
        simp [Act.put, Array.getElem?_setIfInBounds_ne this]
    · have hd : o.dst = some x := by simpa [fDst, ho] using hx
      have h2 := t.between x (j + 1) (l.length - (j + 1)) (by omega) (fun k hk1 hk2 hkx => hok.one k j x (by omega) (by omega) hkx hx)
      rw [show j + 1 + (l.length - (j + 1)) = l.length by omega, t.act j o ho] at h2
      rw [h2]
      simp only [hd, Act.put, Array.getElem?_setIfInBounds, inv.size, (t.size j (by omega)).1]
      by_cases hx' : x < (A 0).tmps.size
      · simp [hx']
      · simp [hx']
  · intro x hx
    have h1 := inv.rest x (fun j hj => hx j ((hD' j).2 (.inl hj)))
    have h2 := hx i ((hD' i).2 (.inr rfl))
    rw [← h1]
    cases hd : o.dst with
    | none => rfl
    | some y =>
      have : y ≠ x := fun e => h2 (by simp [fDst, ho, hd, e])
      simp [Act.put, Array.getElem?_setIfInBounds_ne this]

theorem flow_any {Q : Exit → Act → World → Prop} (hok : FlowOk l ks) (t : Trace P l.toArray L ks l A W v) (hr : ∀ w, L w w) (htr : ∀ a b c, L a b → L b c → L a c) (hQ : Q .normal (A l.length) (W l.length)) :
    ∀ (fuel : Nat) (listed : Array Bool) (a : Act) (w : World), listed.size = l.length → listed.toList.count false ≤ fuel → FInv l ks A W (fun i => listed.getD i false = true) a w → wpAny P .any l.toArray Q fuel listed a w := by
  intro fuel
  -- where nothing may come up any more, all has
  have fin : ∀ (listed : Array Bool) (a : Act) (w : World), listed.size = l.length → FInv l ks A W (fun i => listed.getD i false = true) a w → Region.ready .any l.toArray listed = [] → Q .normal a w := by
    intro listed a w hsz inv hrd
    have all : ∀ i, i < l.length → listed.getD i false = true := by
      intro i
      induction i using Nat.strongRecOn with
      | _ i ih =>
        intro hi
        cases hli : listed.getD i false with
        | true => rfl
        | false =>
          exfalso
          have hm : i ∈ Region.ready .any l.toArray listed := by
            rw [mem_ready]
            refine ⟨?_, l[i], by simp [hi], fun e he hb => ?_⟩
            · have hi' : i < listed.size := by omega
              simp [Array.getD, hi'] at hli ⊢
              exact hli
            · have hlt := hok.less i l[i] (List.getElem?_eq_getElem hi) e he hb
              exact ih e.on hlt (by omega)
          rw [hrd] at hm
          cases hm
    obtain ⟨m, hm1, hm2, hm3, rfl⟩ := inv.stage
    have hw : W l.length = W m := by
      have := world_const t m (l.length - m) (by omega) (fun j h1 h2 hk => hm3 j h1 (by omega) hk (all j (by omega)))
      rw [show m + (l.length - m) = l.length by omega] at this
      exact this
    rw [← hw]
    have ha : a = A l.length := by
      have hs := t.size l.length (Nat.le_refl _)
      have htm : a.tmps = (A l.length).tmps := by
        apply Array.ext_getElem?
        intro x
        by_cases hex : ∃ j, j < l.length ∧ fDst l j = some x
        · obtain ⟨j, hj, hjx⟩ := hex
          exact inv.done j x (all j hj) hjx
        · have hno : ∀ j, j < l.length → fDst l j ≠ some x := fun j hj e => hex ⟨j, hj, e⟩
          rw [inv.rest x (fun j hj => hno j (inv.dom j hj))]
          have := t.between x 0 l.length (by omega) (fun k _ hk2 => hno k (by omega))
          rw [Nat.zero_add] at this
          exact this.symm
      have hdf : a.defers = (A l.length).defers := inv.defers.trans hs.2.symm
      cases ha : a
      cases hb : A l.length
      simp_all
    rw [ha]
    exact hQ
  induction fuel with
  | zero =>
    intro listed a w hsz hc inv
    have hrd : Region.ready .any l.toArray listed = [] := by
      cases hr' : Region.ready .any l.toArray listed with
      | nil => rfl
      | cons i r =>
        exfalso
        have hm : i ∈ Region.ready .any l.toArray listed := by rw [hr']; simp
        obtain ⟨h1, o, ho, _⟩ := mem_ready.1 hm
        have hi : i < listed.size := by
          rw [hsz]
          have := (Array.getElem?_eq_some_iff.1 ho).1
          simpa using this
        have hf : listed[i] = false := by simpa [Array.getD, hi] using h1
        have : 0 < listed.toList.count false := List.count_pos_iff.2 (by rw [← hf]; simp)
        omega
    exact ⟨hrd, fin listed a w hsz inv hrd⟩
  | succ fuel ih =>
    intro listed a w hsz hc inv
    refine ⟨fun hrd => fin listed a w hsz inv hrd, fun i hi => ?_⟩
    obtain ⟨h1, o, ho', hall⟩ := mem_ready.1 hi
    have ho : l[i]? = some o := by simpa using ho'
    have hlt : i < l.length := (List.getElem?_eq_some_iff.1 ho).1
    have hil : i < listed.size := by omega
    have hlf : listed[i] = false := by simpa [Array.getD, hil] using h1
    have hnd : ¬ listed.getD i false = true := by simp [Array.getD, hil, hlf]
    have hf : Fits l (fun i => listed.getD i false = true) i := fun o' ho'' e he hb => by
      rw [ho] at ho''
      cases ho''
      exact hall e he hb
    have hD' : ∀ j, (listed.setIfInBounds i true).getD j false = true ↔ listed.getD j false = true ∨ j = i := by
      intro j
      by_cases hj : j = i
      · subst hj; simp [Array.getD, hil]
      · have : i ≠ j := fun e => hj e.symm
        simp only [hj, or_false]
        by_cases hjs : j < listed.size
        · simp [Array.getD, hjs, Array.getElem_setIfInBounds_ne, this]
        · simp [Array.getD, hjs]
    obtain ⟨hex, hwant⟩ := fInv_fits hok t inv ho hf hnd
    have hcnt : (listed.setIfInBounds i true).toList.count false ≤ fuel := by
      rw [Array.toList_setIfInBounds, List.count_set (by simpa using hil)]
      have : listed.toList[i]'(by simpa using hil) = false := by simpa using hlf
      rw [this]
      simp only [show (true == false) = false from rfl, Bool.false_eq_true, if_false, beq_self_eq_true, if_true]
      omega
    have go : ∀ w', (∃ m, m ≤ l.length ∧ (∀ e, e < m → 2 ≤ ks.getD e 3 → (listed.setIfInBounds i true).getD e false = true) ∧ (∀ e, m ≤ e → e < l.length → 2 ≤ ks.getD e 3 → ¬ (listed.setIfInBounds i true).getD e false = true) ∧ w' = W m) →
        wpAny P .any l.toArray Q fuel (listed.setIfInBounds i true) (a.put o.dst (v i)) w' := fun w' hst =>
      ih _ _ _ (by simpa using hsz) hcnt (fInv_step hok t inv ho hf hnd hD' hst)
    obtain ⟨m, hm1, hm2, hm3, hw⟩ := inv.stage
    -- whatever changes the world and stands ahead has come up
    have hahead : ∀ e, e < i → 2 ≤ ks.getD e 3 → e < m := fun e he hk => by
      have hD := hok.eff _ inv.closed i e hlt he hk hf
      rcases Nat.lt_or_ge e m with h | h
      · exact h
      · exact absurd hD (hm3 e h (by omega) hk)
    have hstep := t.step i o ho
    unfold wpOp
    rw [ho']
    simp only [hwant]
    have hmid : W i = W m ∨ (i < m ∧ ¬ 2 ≤ ks.getD i 3) := by
      rcases Nat.lt_or_ge i m with h | h
      · by_cases hk : 2 ≤ ks.getD i 3
        · exact absurd (hm2 i h hk) hnd
        · exact .inr ⟨h, hk⟩
      · refine .inl ?_
        have := world_const t m (i - m) (by omega) (fun j h1 h2 hkj => by have := hahead j (by omega) hkj; omega)
        rw [show m + (i - m) = i by omega] at this
        exact this
    rcases hstep with ⟨hwt, hstep⟩ | ⟨hwt, hv, hsame⟩
    case inr =>
      rw [if_neg (by simp [hwt])]
      rw [← hv]
      refine go _ ?_
      by_cases hk : 2 ≤ ks.getD i 3
      · refine ⟨i + 1, by omega, fun e he hke => ?_, fun e he hel hke => ?_, ?_⟩
        · rw [hD']
          by_cases hei : e = i
          · exact .inr hei
          · exact .inl (hm2 e (hahead e (by omega) hke) hke)
        · rw [hD']
          rintro (h | h)
          · rcases Nat.lt_or_ge e m with h2 | h2
            · have : ¬ i < m := fun him => hnd (hm2 i him hk)
              omega
            · exact hm3 e h2 hel hke h
          · omega
        · rcases hmid with h | h
          · rw [hsame, h, hw]
          · exact absurd hk h.2
      · refine ⟨m, hm1, fun e he hke => (hD' e).2 (.inl (hm2 e he hke)), fun e he hel hke => ?_, hw⟩
        rw [hD']
        rintro (h | h)
        · exact hm3 e he hel hke h
        · subst h; exact hk hke
    rw [if_pos hwt]
    refine .inl ?_
    unfold Oper.wp
    rw [hex]
    by_cases hk : 2 ≤ ks.getD i 3
    · -- it changes the world
      have hmi : m ≤ i := by
        rcases Nat.lt_or_ge i m with h | h
        · exact absurd (hm2 i h hk) hnd
        · exact h
      have hwi : W i = W m := by
        have := world_const t m (i - m) (by omega) (fun j h1 h2 hkj => by have := hahead j (by omega) hkj; omega)
        rw [show m + (i - m) = i by omega] at this
        exact this
      have hst : ∃ m, m ≤ l.length ∧ (∀ e, e < m → 2 ≤ ks.getD e 3 → (listed.setIfInBounds i true).getD e false = true) ∧ (∀ e, m ≤ e → e < l.length → 2 ≤ ks.getD e 3 → ¬ (listed.setIfInBounds i true).getD e false = true) ∧ W (i + 1) = W m := by
        refine ⟨i + 1, by omega, fun e he hke => ?_, fun e he hel hke => ?_, rfl⟩
        · rw [hD']
          by_cases hei : e = i
          · exact .inr hei
          · exact .inl (hm2 e (hahead e (by omega) hke) hke)
        · rw [hD']
          rintro (h | h)
          · exact hm3 e (by omega) hel hke h
          · omega
      have hdoes : Does P o (A i) (W i) (v i) (W (i + 1)) := by
        revert hstep
        generalize ks.getD i 3 = k at *
        match k, hk with
        | 2, _ => exact fun hs => hs.2
        | n + 3, _ => exact fun hs => hs
      rw [hw, ← hwi]
      rcases hdoes with hd | ⟨hd, hv⟩ | ⟨f, args, hd, hcall⟩
      · rw [hd]; exact go _ hst
      · rw [hd]
        have := go _ hst
        rw [hv] at this
        exact this
      · rw [hd]
        refine hcall.mono ?_
        rintro e w'' ⟨rfl, rfl⟩
        exact go _ hst
    · -- it only reads
      have hst : ∃ m, m ≤ l.length ∧ (∀ e, e < m → 2 ≤ ks.getD e 3 → (listed.setIfInBounds i true).getD e false = true) ∧ (∀ e, m ≤ e → e < l.length → 2 ≤ ks.getD e 3 → ¬ (listed.setIfInBounds i true).getD e false = true) ∧ w = W m := by
        refine ⟨m, hm1, fun e he hke => (hD' e).2 (.inl (hm2 e he hke)), fun e he hel hke => ?_, hw⟩
        rw [hD']
        rintro (h | h)
        · exact hm3 e he hel hke h
        · subst h; exact hk hke
      have hdoes : Does P o (A i) w (v i) w := by
        have hlat : ks.getD i 3 = 1 → L (W i) w := by
          intro hk1
          rw [hw]
          rcases Nat.le_total m i with h | h
          · have := world_const t m (i - m) (by omega) (fun j h1 h2 hkj => by have := hahead j (by omega) hkj; omega)
            rw [show m + (i - m) = i by omega] at this
            rw [this]
            exact hr _
          · have := world_later t hr htr i (m - i) (by omega) (fun j h1 h2 hkj => by
              have hji : i < j := by
                rcases Nat.lt_or_ge i j with h | h
                · exact h
                · have : j = i := by omega
                  subst this
                  omega
              have hDj := hm2 j (by omega) (by omega)
              have hfj : Fits l (fun i => listed.getD i false = true) j := fun oj hoj e he hb => inv.closed j oj hoj hDj e he hb
              exact hnd (hok.hard _ inv.closed j i (by omega) hji hkj hk1 hfj))
            rw [show i + (m - i) = m by omega] at this
            exact this
        revert hstep hlat
        generalize ks.getD i 3 = k at *
        match k, hk with
        | 0, _ => exact fun hs _ => .inl (hs.2 w)
        | 1, _ => exact fun hs hl => hs.2 w (hl rfl)
        | n + 2, hk => exact absurd (by omega) hk
      rcases hdoes with hd | ⟨hd, hv⟩ | ⟨f, args, hd, hcall⟩
      · rw [hd]; exact go _ hst
      · rw [hd]
        have := go _ hst
        rw [hv] at this
        exact this
      · rw [hd]
        refine hcall.mono ?_
        rintro e w'' ⟨rfl, rfl⟩
        exact go _ hst

/-- A region that draws its order, gone through in the order of its text. -/
theorem wp_region_flow {Q : Exit → Act → World → Prop} {id : Nat} {a : Act} {w : World} (L : World → World → Prop) (ks : List Nat) (hm : P.follows .mixedOrders = true) (hB : flowB l ks = true) (hr : ∀ w, L w w) (htr : ∀ a b c, L a b → L b c → L a c)
    (h : wpFlow P l.toArray L (fun a w => Q .normal a w) ks l a w.drew) : (Code.region id l.toArray true).wp P Q a w := by
  obtain ⟨A, W, v, rfl, hW, t, hQ⟩ := trace_of l ks a w.drew h
  have hok := flowOk_of hB
  refine wp_region_any hm ?_
  have hnone : ∀ i, (Array.replicate l.toArray.size false).getD i false = false := fun i => by
    by_cases hi : i < l.toArray.size
    · simp [Array.getD]
    · simp [Array.getD]
  have := flow_any hok t hr htr hQ l.toArray.size (Array.replicate l.toArray.size false) (A 0) w.drew (by simp) (by simp) (by
    refine ⟨fun i o _ hi => ?_, fun i hi => ?_, ⟨0, Nat.zero_le _, fun e he => absurd he (by omega), fun e _ _ _ hd => ?_, hW.symm⟩, rfl, rfl, fun j x hj => ?_, fun x _ => rfl⟩
    · rw [hnone] at hi; cases hi
    · rw [hnone] at hi; cases hi
    · rw [hnone] at hd; cases hd
    · rw [hnone] at hj; cases hj)
  exact this

variable {ops : Array Oper} {K : Act → World → Prop} {r : List Oper} {o : Oper} {a : Act} {w : World}

theorem fl0 {u : Value} (hw : Region.wanted o (yielded ops a.tmps) = true) (hrun : ∀ x, (execOp a.eval o).run P x = .ok (.value u) x) (h : wpFlow P ops L K ks r (a.put o.dst u) w) : wpFlow P ops L K (0 :: ks) (o :: r) a w :=
  ⟨u, w, .inl ⟨hw, rfl, hrun⟩, h⟩
theorem fl1 {u : Value} (hw : Region.wanted o (yielded ops a.tmps) = true) (hrun : ∀ x, L w x → (execOp a.eval o).run P x = .ok (.value u) x) (h : wpFlow P ops L K ks r (a.put o.dst u) w) : wpFlow P ops L K (1 :: ks) (o :: r) a w :=
  ⟨u, w, .inl ⟨hw, rfl, fun x hx => .inl (hrun x hx)⟩, h⟩
/-- A call that only reads. -/
theorem fl1c {u : Value} (hw : Region.wanted o (yielded ops a.tmps) = true) (hrun : ∀ x, L w x → Does P o a x u x) (h : wpFlow P ops L K ks r (a.put o.dst u) w) : wpFlow P ops L K (1 :: ks) (o :: r) a w :=
  ⟨u, w, .inl ⟨hw, rfl, hrun⟩, h⟩
theorem fl2 {u : Value} {w' : World} (hw : Region.wanted o (yielded ops a.tmps) = true) (hL : L w w') (hd : Does P o a w u w') (h : wpFlow P ops L K ks r (a.put o.dst u) w') : wpFlow P ops L K (2 :: ks) (o :: r) a w :=
  ⟨u, w', .inl ⟨hw, hL, hd⟩, h⟩
theorem fl3 {u : Value} {w' : World} (hw : Region.wanted o (yielded ops a.tmps) = true) (hd : Does P o a w u w') (h : wpFlow P ops L K ks r (a.put o.dst u) w') : wpFlow P ops L K (3 :: ks) (o :: r) a w :=
  ⟨u, w', .inl ⟨hw, hd⟩, h⟩
theorem flx {k : Nat} (hw : Region.wanted o (yielded ops a.tmps) = false) (h : wpFlow P ops L K ks r (a.put o.dst undef) w) : wpFlow P ops L K (k :: ks) (o :: r) a w :=
  ⟨undef, w, .inr ⟨hw, rfl, rfl⟩, h⟩

theorem flnil {ks : List Nat} (h : K a w) : wpFlow P ops L K ks [] a w := by cases ks <;> exact h

/-- All blocks that are there stay as they are. -/
def Lat (w x : World) : Prop := w.heap.size ≤ x.heap.size ∧ ∀ k, k < w.heap.size → x.heap[k]? = w.heap[k]?
theorem Lat.refl (w : World) : Lat w w := ⟨Nat.le_refl _, fun _ _ => rfl⟩
theorem Lat.trans (a b c : World) (h : Lat a b) (k : Lat b c) : Lat a c := ⟨Nat.le_trans h.1 k.1, fun i hi => (k.2 i (Nat.lt_of_lt_of_le hi h.1)).trans (h.2 i hi)⟩
theorem Lat.alloc (w : World) (ob : Obj) : Lat w (w.alloc ob) := ⟨by simp, fun _ hk => Go.RowKit.Below.heap_alloc _ _ _ hk⟩
theorem Lat.at {w x : World} (h : Lat w x) {k : Nat} {ob : Obj} (hk : w.heap[k]? = some ob) : x.heap[k]? = some ob := by
  rw [h.2 k (Array.getElem?_eq_some_iff.1 hk).1]; exact hk
theorem Lat.cell {w x : World} (h : Lat w x) {p : Addr} {u : Value} (hc : w.cell? p = some u) : x.cell? p = some u := by
  rw [World.cell?_of_block (w := w) (h.2 p.block (World.block_lt_of_cell? w p hc))]; exact hc

end
end Go.Proofs.Ytoccnaebckcfmaa
end

section
set_option linter.unusedSimpArgs false
set_option maxRecDepth 8000
namespace Go.Proofs.Ytoccnaebckcfmaa
open Go.RowKit
open Go.ChangeMaps (setBlock)

theorem fold_get (off : Nat) : ∀ (l : List Value) (k : Nat) (cells : Array Value) (i : Nat),
    ((l.zipIdx k).foldl (fun (cs : Array Value) (x : Value × Nat) => cs.setIfInBounds (off + x.2) x.1) cells)[i]? = if off + k ≤ i ∧ i < off + k + l.length ∧ i < cells.size then l[i - (off + k)]? else cells[i]?
  | [], k, cells, i => by simp; intro h1 h2; omega
  | c :: l, k, cells, i => by
    rw [List.zipIdx_cons, List.foldl_cons, fold_get off l (k + 1)]
    simp only [Array.size_setIfInBounds, List.length_cons]
    by_cases h1 : off + (k + 1) ≤ i ∧ i < off + (k + 1) + l.length ∧ i < cells.size
    · rw [if_pos h1, if_pos (by omega), show i - (off + k) = (i - (off + (k + 1))) + 1 by omega]
      simp
    · rw [if_neg h1]
      by_cases h2 : i = off + k
      · subst h2
        by_cases h3 : off + k < cells.size
        · rw [if_pos (by omega)]
          simp [h3]
        · rw [if_neg (by omega)]
          simp [h3]
      · rw [if_neg (by omega), Array.getElem?_setIfInBounds_ne (by omega)]

theorem fold_eq {off : Nat} {v cells : Array Value} (h : off + v.size ≤ cells.size) :
    v.zipIdx.foldl (fun (cs : Array Value) (x : Value × Nat) => cs.setIfInBounds (off + x.2) x.1) cells = (cells.toList.take off ++ v.toList ++ cells.toList.drop (off + v.size)).toArray := by
  rw [← Array.foldl_toList, Array.toList_zipIdx]
  apply Array.ext_getElem?
  intro i
  rw [fold_get off v.toList 0 cells i]
  simp only [Nat.add_zero, Array.length_toList, List.getElem?_toArray]
  by_cases h1 : off ≤ i ∧ i < off + v.size ∧ i < cells.size
  · rw [if_pos h1, List.append_assoc, List.getElem?_append_right (by simp; omega), List.getElem?_append_left (by simp; omega)]
    simp
    congr 1
    omega
  · rw [if_neg h1]
    by_cases h2 : i < off
    · rw [List.append_assoc, List.getElem?_append_left (by simp; omega), List.getElem?_take_of_lt h2, Array.getElem?_toList]
    · rw [List.getElem?_append_right (by simp; omega), List.getElem?_drop, Array.getElem?_toList]
      simp
      congr 1
      omega

theorem fill_step {place : Nat → Option (Nat × Nat)} {cells : Array Value} {i off size : Nat} {v : Value} {rest : List (Nat × Value)} (hp : place i = some (off, size)) (hv : v.cells.size = size) (hc : off + size ≤ cells.size) :
    Instr.fill place cells ((i, v) :: rest) = Instr.fill place (cells.toList.take off ++ v.cells.toList ++ cells.toList.drop (off + size)).toArray rest := by
  subst hv
  have h1 : (v.cells.size ≠ v.cells.size || off + v.cells.size > cells.size) = false := by simp; omega
  rw [Instr.fill, hp]
  simp only [ne_eq, not_true_eq_false, decide_false, Bool.false_or, decide_eq_true_eq, gt_iff_lt, if_neg (Nat.not_lt.2 hc)]
  rw [← fold_eq hc]

theorem build_run (i : Int) (v : Array Value) (hv : v.size = 64) (w : World) : (Instr.build 96 #[(0, .int .i64 i), (1, .agg v)]).run Try.prog w = .ok (.agg (wcells (i, v)).toArray) w := by
  have hz := zero90 w
  have hs1 : (sizeOf 3).run Try.prog w = .ok 1 w := by kernel_rfl
  have hs2 : (sizeOf 93).run Try.prog w = .ok 64 w := by kernel_rfl
  unfold Instr.build
  simp only [Sem.run_bind, hz, Result.andThen_ok, run_underlying Try.underlying96]
  simp only [List.mapM_toArray, List.mapM_cons, List.mapM_nil, map_eq_pure_bind, bind_assoc, pure_bind, Sem.run_bind, Sem.run_pure, hs1, hs2, Result.andThen_ok]
  have hsz : (Value.agg (#[Value.int .i64 0] ++ Z)).cells.size = 65 := by simp [Value.cells, Z]
  rw [fill_step (off := 0) (size := 1) rfl rfl (by rw [hsz]; omega), fill_step (off := 1) (size := 64) (v := .agg v) rfl hv (by simp [Value.cells, Z])]
  simp [Instr.fill, Value.cells, wcells, Z]

theorem buildSlice_run (c : Array Value) (hc : c.size = 65) (w : World) : (Instr.buildSlice 89 1 #[(0, .agg c)]).run Try.prog w = .ok (.slice (some ⟨w.heap.size, 0, none⟩) 1 1) (w.alloc (.cells c 96)) := by
  have hz := zero90 w
  have hs : (sizeOf 96).run Try.prog w = .ok 65 w := by kernel_rfl
  unfold Instr.buildSlice
  simp only [Sem.run_bind, run_underlying Try.underlying89, Result.andThen_ok, hs]
  rw [if_neg (by decide), if_neg (by decide)]
  simp only [Sem.run_bind, hz, Result.andThen_ok, Sem.run_pure]
  rw [fill_step (off := 0) (size := 65) (v := .agg c) rfl hc (by simp)]
  simp only [List.take_zero, List.nil_append, Value.cells, Nat.zero_add]
  rw [List.drop_of_length_le (by simp), List.append_nil, Array.toArray_toList]
  simp [Instr.fill, newRow, newObj, Sem.run]

section
variable {ops : Array Oper} {rest : List Oper} {o : Oper} {a : Act} {Q : Exit → Act → World → Prop} {w : World}

/-- 'copy(s[:], b)' into the sector that was made last. -/
theorem wpL_copy88 {c v : Array Value} {x y : Operand} {ad : Addr} {cap : Nat} (hg : o.guard = none) (ho : o.op = .call { callee := .builtin .copy, args := #[x, y], argTypes := #[34, 34] })
    (hx : a.eval x = .slice (some ⟨w.heap.size, 0, none⟩) 64 64) (hy : a.eval y = .slice (some ad) 64 cap) (hc : c.size = 64) (hv : SecOk v) (hsrc : ∀ j u, v.toList[j]? = some u → (w.alloc (.cells c 93)).cell? (ad.add j) = some u)
    (h : wpList Try.prog ops Q rest (a.put o.dst (.int .i64 64)) (w.alloc (.cells v 93))) : wpList Try.prog ops Q (o :: rest) a (w.alloc (.cells c 93)) := by
  have hl : v.toList.length = 64 := by simpa using hv.1
  have hr := run_copy_row (P := Try.prog) (w.alloc (.cells c 93)) 34 34 o.type 5 w.heap.size 0 64 64 ad 64 cap c 93 v.toList Try.underlying34 (by kernel_rfl) (heap_alloc_last w _) (by rw [hl]; rfl) hsrc (by rw [hl, hc]; omega) (fun u hu => (Array.all_eq_true_iff_forall_mem.1 hv.2) u (by simpa using hu))
  rw [hl] at hr
  have e : (c.toList.take 0 ++ v.toList ++ c.toList.drop (0 + 64)).toArray = v := by
    rw [List.take_zero, List.nil_append, List.drop_of_length_le (by simp [hc]), List.append_nil, Array.toArray_toList]
  rw [e, World.setRow_alloc_new] at hr
  refine wpL_value hg ?_ h
  unfold execOp
  simp only [ho, resolve, invoke, builtin, Sem.run_bind, Sem.run_pure, Result.andThen_ok, List.map_toArray, List.map_cons, List.map_nil, hx, hy, hr]
  rfl

theorem wpSt_value {P : Program} {K : Act → Prop} {v : Value} (hg : o.guard = none) (hr : (execOp a.eval o).run P w = .ok (.value v) w) (h : wpStill P ops w K rest (a.put o.dst v)) : wpStill P ops w K (o :: rest) a :=
  wpStill_step fun K' hK => by
    rw [if_pos (by simp [Region.wanted, hg])]
    unfold Oper.still
    rw [hr]
    exact ⟨rfl, hK _ h⟩

/-- A whole sector is read out of its block. -/
theorem run_load88 {x : Operand} {g : Nat} {v : Array Value} {t : TypeId} (ho : o.op = .load 93 x) (hx : a.eval x = .pointer (some ⟨g, 0, none⟩)) (hb : w.heap[g]? = some (.cells v t (0, 0))) (hv : v.size = 64) :
    (execOp a.eval o).run Try.prog w = .ok (.value (.agg v)) w := by
  unfold execOp
  simp only [ho, hx, Instr.loadAt, Instr.sureAddr, Sem.run_bind, Sem.run_pure, Result.andThen_ok, run_loadVar_row (P := Try.prog) w g t 93 v (0, 0) (.array 64 5) hb Try.underlying93 rfl (by rw [info88, hv])]

theorem st_value {P : Program} {K : Act → World → Prop} {E : Prop} {v : Value} {w' : World} (hg : o.guard = none) (hr : (execOp a.eval o).run P w = .ok (.value v) w') (h : K (a.put o.dst v) w') :
    if Region.wanted o (yielded ops a.tmps) = true then Oper.wp P o a w K Q else E := by
  rw [if_pos (by simp [Region.wanted, hg])]
  unfold Oper.wp
  rw [hr]
  exact h
theorem st_skip {P : Program} {K : Act → World → Prop} {E : Prop} {w' : World} (hg : o.guard = none) (hr : (execOp a.eval o).run P w = .ok .skip w') (h : K (a.put o.dst undef) w') :
    if Region.wanted o (yielded ops a.tmps) = true then Oper.wp P o a w K Q else E := by
  rw [if_pos (by simp [Region.wanted, hg])]
  unfold Oper.wp
  rw [hr]
  exact h

theorem run_build90 {x y : Operand} {i : Int} {v : Array Value} (ho : o.op = .build 96 #[(0, x), (1, y)]) (hx : a.eval x = .int .i64 i) (hy : a.eval y = .agg v) (hv : v.size = 64) :
    ∀ w, (execOp a.eval o).run Try.prog w = .ok (.value (.agg (wcells (i, v)).toArray)) w := by
  intro w
  unfold execOp
  simp only [ho, List.map_toArray, List.map_cons, List.map_nil, hx, hy, Sem.run_bind, build_run i v hv w, Result.andThen_ok, Sem.run_pure]
theorem run_field71 {x : Operand} {b k : Nat} (hk : k < 7) (ho : o.op = .fieldAddr 91 x k) (hx : a.eval x = .pointer (some ⟨b, 0, none⟩)) :
    ∀ w, (execOp a.eval o).run Try.prog w = .ok (.value (.pointer (some ⟨b, k, none⟩))) w := by
  intro w
  unfold execOp
  simp only [ho, hx]
  match k, hk with
  | 0, _ | 1, _ | 2, _ | 3, _ | 4, _ | 5, _ | 6, _ => go_simp
theorem run_load1 {x : Operand} {p : Addr} {t : TypeId} {u : Value} (ho : o.op = .load t x) (hx : a.eval x = .pointer (some p)) (hc : w.cell? p = some u) (ht : ∀ w, (isAgg t).run Try.prog w = .ok false w) :
    (execOp a.eval o).run Try.prog w = .ok (.value u) w := by
  unfold execOp
  simp only [ho, hx, Instr.loadAt, Instr.sureAddr, loadVar, Sem.run_bind, Sem.run_pure, Result.andThen_ok, ht, Bool.false_eq_true, if_false]
  simp [load, Sem.run, hc]
theorem isAgg69 (w : World) : (isAgg 89).run Try.prog w = .ok false w := by kernel_rfl
theorem isAgg68 (w : World) : (isAgg 88).run Try.prog w = .ok false w := by kernel_rfl
theorem isAgg3 (w : World) : (isAgg 3).run Try.prog w = .ok false w := by kernel_rfl
theorem run_store1 {x y : Operand} {p : Addr} {t : TypeId} {u u' : Value} (ho : o.op = .store t x y) (hx : a.eval x = .pointer (some p)) (hy : a.eval y = u') (hc : w.cell? p = some u) (hf : w.frozen? p = false) (h1 : u'.oneCell' = true)
    (ht : ∀ w, (sizeOf t).run Try.prog w = .ok 1 w) (hcs : u'.cells = #[u']) : (execOp a.eval o).run Try.prog w = .ok .skip (w.setCell p u') := by
  unfold execOp
  simp only [ho, hx, hy, Instr.storeAt, Instr.sureAddr, storeVar, Sem.run_bind, Sem.run_pure, Result.andThen_ok, ht, hcs]
  simp [storeCells, Addr.add, run_store _ _ _ _ _ h1, hc, hf]
theorem info90a : (Try.prog.info? 96).map (fun i => (i.zero, i.size, i.bytes)) = some (some (.agg (#[.int .i64 0] ++ Z)), 65, 72) := by kernel_rfl
theorem run_builtin_append {x y : Operand} {u1 u2 u : Value} {t : TypeId} {w' : World} (ho : o.op = .call { callee := .builtin .append, args := #[x, y], argTypes := #[t, t] }) (hx : a.eval x = u1) (hy : a.eval y = u2)
    (hr : (Builtin.append_ #[t, t] o.type #[u1, u2]).run Try.prog w = .ok u w') : (execOp a.eval o).run Try.prog w = .ok (.value u) w' := by
  unfold execOp
  simp only [ho, resolve, invoke, builtin, Sem.run_bind, Sem.run_pure, Result.andThen_ok, List.map_toArray, List.map_cons, List.map_nil, hx, hy, hr]
theorem sizeOf69 (w : World) : (sizeOf 89).run Try.prog w = .ok 1 w := by kernel_rfl
theorem run_buildSlice69 {x : Operand} {c : Array Value} (ho : o.op = .buildSlice 89 1 #[(0, x)]) (hx : a.eval x = .agg c) (hc : c.size = 65) :
    (execOp a.eval o).run Try.prog w = .ok (.value (.slice (some ⟨w.heap.size, 0, none⟩) 1 1)) (w.alloc (.cells c 96)) := by
  unfold execOp
  simp only [ho, List.map_toArray, List.map_cons, List.map_nil, hx, Sem.run_bind, buildSlice_run c hc w, Result.andThen_ok, Sem.run_pure]
end

set_option maxHeartbeats 400000 in
theorem write_no {w : World} {b : Nat} {F : List Nat} {S : St} (h : DAt w b F S) (i : Int) (s : Value) (hr : S.reach i ≠ 0) :
    Calls Try.prog 83 #[.pointer (some ⟨b, 0, none⟩), .int .i64 i, s] w fun e w' => e = .returned (.int .i64 (S.reach i)) ∧ w = w' := by
  have hn : (S.reach i != 0) = true := by simpa using hr
  have H := Lib.hid (reach_any h i)
  clear hr h
  go_enter Try.func83, Try.ntmps83
  go_wp2_with (go_at_call 65; refine H.out.mono ?_; rintro e w' ⟨rfl, rfl⟩)
  go_ret
  exact ⟨rfl, rfl⟩

set_option maxHeartbeats 400000 in
theorem write_bytes {w : World} {b : Nat} {F : List Nat} {S : St} (h : DAt w b F S) (i : Int) (ad : Option Addr) (len cap : Nat) (hr : S.reach i = 0) (hl : len ≠ 64) :
    Calls Try.prog 83 #[.pointer (some ⟨b, 0, none⟩), .int .i64 i, .slice ad len cap] w fun e w' => e = .returned (.int .i64 11) ∧ w = w' := by
  have hn : ((len : Int) != 64) = true := by simp; omega
  have H := reach_any h i
  rw [hr] at H
  have H2 := Lib.hid H
  clear hr h H hl
  go_enter Try.func83, Try.ntmps83
  go_wp2_with (go_at_call 65; refine H2.out.mono ?_; rintro e w' ⟨rfl, rfl⟩)
  go_ret
  exact ⟨rfl, rfl⟩

set_option maxHeartbeats 400000 in
theorem write_fall {w : World} {b : Nat} {F : List Nat} {S : St} (h : DAt w b F S) (i : Int) (ad : Option Addr) (cap : Nat) (hr : S.reach i = 0) (hf : S.fuse = 0) :
    Calls Try.prog 83 #[.pointer (some ⟨b, 0, none⟩), .int .i64 i, .slice ad 64 cap] w fun e w' => e = .returned (.int .i64 2) ∧ DPost w w' b F S.fallen := by
  have H := reach_any h i
  rw [hr] at H
  have H2 := Lib.hid H
  have H3 := Lib.hid (step_zero h hf)
  clear hr h H hf
  go_enter Try.func83, Try.ntmps83
  go_wp2_with (first | (go_at_call 65; refine H2.out.mono ?_; rintro e w' ⟨rfl, rfl⟩) | (go_at_call 91; refine H3.out.mono ?_; rintro e w' ⟨rfl, hp⟩))
  go_ret
  exact ⟨rfl, hp⟩

theorem DiskAt.pendUp {w Wa w' : World} {b mn ms : Nat} {pv v' : Value} {S : St} {p : Int × Array Value} (h : DiskAt w b mn ms pv S) (ho : Only [] w Wa) (hg : Wa.grownBy w' pv.ownBlock)
    (hown : w'.ownsRow 0 96 65 v' (S.pend.length + 1) (S.pend.flatMap wcells ++ wcells p)) (hloc : v'.ownBlock = pv.ownBlock ∨ v'.ownBlock = some Wa.heap.size) (hp : SecOk p.2) :
    w'.heap[b]? = w.heap[b]? ∧ DiskAt (w'.setCell ⟨b, 6, none⟩ v') b mn ms v' { S with pend := S.pend ++ [p] } ∧ Only (foot b mn ms pv) w (w'.setCell ⟨b, 6, none⟩ v') ∧ (∀ x ∈ foot b mn ms v', x ∈ foot b mn ms pv ∨ w.heap.size ≤ x) := by
  have lt := diskAt_lt h
  have keep : ∀ x, x < w.heap.size → pv.ownBlock ≠ some x → w'.heap[x]? = w.heap[x]? := fun x hx hne =>
    (hg.block x (Nat.lt_of_lt_of_le hx ho.size) (fun e => hne e.symm)).trans (ho.block x hx (by simp))
  have hb := keep b (lt b (by simp [foot])) (fun e => (h.ne_pend e).1 rfl)
  have hmn := keep mn (lt mn (by simp [foot])) (fun e => (h.ne_pend e).2.1 rfl)
  have hms := keep ms (lt ms (by simp [foot])) (fun e => (h.ne_pend e).2.2 rfl)
  have hvb : ∀ x, v'.ownBlock = some x → x ≠ b := fun x hx e => by
    subst e
    rcases hloc with hl | hl
    · exact (h.ne_pend (hl.symm.trans hx)).1 rfl
    · rw [hl] at hx
      cases hx
      have := lt Wa.heap.size (by simp [foot])
      have := ho.size
      omega
  refine ⟨hb, ⟨?_, ?_, ?_, ?_, h.ne, ⟨h.ok.n0, h.ok.n1, h.ok.s0, h.ok.f1, h.ok.now, h.ok.sure, ?_⟩⟩, ?_, ?_⟩
  · rw [heap_setCell_row (hb.trans h.row)]
    rfl
  · exact mapAt_congr h.now ((Below.heap_setCell _ _ _ _ h.ne_now.symm).trans hmn)
  · exact mapAt_congr h.sure ((Below.heap_setCell _ _ _ _ h.ne_sure.symm).trans hms)
  · refine ownsRow_congr (w := w') ?_ (fun x hx => Below.heap_setCell _ _ _ _ (hvb x hx))
    simpa using hown
  · intro q hq
    simp only [List.mem_append, List.mem_singleton] at hq
    rcases hq with hq | rfl
    · exact h.ok.pend q hq
    · exact hp
  · exact ((ho.mono (by simp)).grown hg (fun k hk => .inl (by simp [foot, hk]))).setCell (by simp [foot]) _
  · intro x hx
    simp only [foot, List.mem_cons, Option.mem_toList] at hx ⊢
    rcases hx with hx | hx | hx | hx
    · exact .inl (.inl hx)
    · exact .inl (.inr (.inl hx))
    · exact .inl (.inr (.inr (.inl hx)))
    · rcases hloc with hl | hl
      · exact .inl (.inr (.inr (.inr (hl.symm.trans hx))))
      · rw [hl] at hx
        cases hx
        exact .inr ho.size

def St.written (S : St) (i : Int) (v : Array Value) : St := { S with now := updF S.now i v, pend := S.pend ++ [(i, v)] }

set_option maxHeartbeats 400000 in
theorem write_ok {w : World} {b : Nat} {F : List Nat} {S : St} (h : DAt w b F S) (i : Int) (g o : Nat) (cap : Nat) (v : Array Value) (hv : SecOk v) (hsrc : w.rangeAt g o v.toList) (hg : g < w.heap.size) (hgF : g ∉ F)
    (hr : S.reach i = 0) (hf : S.fuse ≠ 0) (hs : S.steps < 1000000000) (hp : S.pend.length < 1000000000) :
    Calls Try.prog 83 #[.pointer (some ⟨b, 0, none⟩), .int .i64 i, .slice (some ⟨g, o, none⟩) 64 cap] w fun e w' => e = .returned (.int .i64 0) ∧ DPost w w' b F ((S.stepped.kept i).written i v) := by
  have H := reach_any h i
  rw [hr] at H
  have H2 := Lib.hid H
  have H3 := Lib.hid (step_ok h hf hs)
  have HP := Lib.hid hp
  have HF := Lib.hid hgF
  have HSRC := Lib.hid hsrc
  clear hr h H hf hs hp hgF hsrc
  go_enter Try.func83, Try.ntmps83
  go_wp2_with (go_at_call 65; refine H2.out.mono ?_; rintro e w' ⟨rfl, rfl⟩)
  refine H3.out.mono ?_
  rintro e w1 ⟨rfl, F1, d1, f1, o1⟩
  go_wp2_with fail
  refine (keep_any d1 i).mono ?_
  rintro e w2 ⟨rfl, F2, d2, f2, o2⟩
  clear H2 H3
  have o12 := o1.trans o2 f1
  have hg2 : g < w2.heap.size := Nat.lt_of_lt_of_le hg o12.size
  have hsrc : ∀ j u, v.toList[j]? = some u → (w2.alloc (.cells Z 93)).cell? ((⟨g, o, none⟩ : Addr).add j) = some u := fun j u hu => by
    rw [Addr.add_mid, World.cell?_alloc_lt _ _ _ hg2, World.cell?_of_block (w := w) (o12.block g hg HF.out)]
    exact HSRC.out j u hu
  have SRC := Lib.hid hsrc
  clear hsrc
  go_wp2_with (first | (refine wpL_alloc88 rfl rfl ?_) | (refine wpL_copy88 rfl rfl rfl rfl rfl hv SRC.out ?_))
  simp only [Act.put, List.setIfInBounds_toArray, List.set_cons_succ, List.set_cons_zero]
  obtain ⟨mn, ms, pv, h2, rfl⟩ := d2
  obtain ⟨c0, c1, c2, c3, c4, c5, c6, fz⟩ := h2.cells
  have hb2 : b < w2.heap.size := diskAt_lt h2 b (by simp [foot])
  have hnow := mapAt_congr (w' := (w2.alloc (.cells v 93)).drew) h2.now (Below.heap_alloc _ _ _ (mapAt_lt h2.now))
  have hblk : (w2.alloc (.cells v 93)).drew.heap[w2.heap.size]? = some (.cells v 93 (0, 0)) := heap_alloc_last w2 _
  have BLK := Lib.hid hblk
  clear hblk
  refine wp_region_still_tail 6 (by kernel_rfl) (by kernel_rfl) ?_
  change wpStill Try.prog _ (World.drew _) _ _ _
  simp only [List.take_succ_cons, List.take_zero, List.drop_succ_cons, List.drop_zero]
  still_step
  still_step
  still_step
  still_step
  still_step
  refine wpSt_value rfl (run_load88 rfl rfl BLK.out hv.1) ?_
  refine wpStill_nil ?_
  refine wpL_update rfl rfl rfl rfl rfl hnow ?_
  intro ob hm
  go_wp2
  have h3 := h2.nowUp ((Only.refl [] w2).alloc (.cells v 93)).drew hm (secOk_upd h2.ok.now hv)
  change Code.wp Try.prog _ _ _ (setBlock (w2.alloc (.cells v 93)).drew mn ob)
  have hmn : mn ≠ w2.heap.size := Nat.ne_of_lt (mapAt_lt h2.now)
  have BLK3 := Lib.hid ((heap_setBlock_ne (w2.alloc (.cells v 93)).drew mn ob hmn.symm).trans BLK.out)
  generalize setBlock (w2.alloc (.cells v 93)).drew mn ob = w3 at *
  simp only [Act.put, List.setIfInBounds_toArray, List.set_cons_succ, List.set_cons_zero]
  clear hm hnow BLK c0 c1 c2 c3 c4 c5 c6 fz
  obtain ⟨h3, o3⟩ := h3
  obtain ⟨c0, c1, c2, c3, c4, c5, c6, fz⟩ := h3.cells
  have hb3 : b < w3.heap.size := diskAt_lt h3 b (by simp [foot])
  have hwc : (wcells (i, v)).length = 65 := by simp [wcells, hv.1]
  have hone : ∀ u ∈ wcells (i, v), u.oneCell' = true := by
    intro u hu
    simp only [wcells, List.mem_cons] at hu
    rcases hu with rfl | hu
    · rfl
    · exact (Array.all_eq_true_iff_forall_mem.1 hv.2) u (by simpa using hu)
  obtain ⟨i0, hi, hz0, hz1, hz2⟩ := info_parts info90a
  have SRC2 : ∀ j u, (wcells (i, v))[j]? = some u → (w3.drew.alloc (.cells (wcells (i, v)).toArray 96)).cell? ((⟨w3.heap.size, 0, none⟩ : Addr).add j) = some u := fun j u hu => by
    rw [Addr.add_mid, Nat.zero_add]
    have := cell_of_row _ _ j _ _ _ (heap_alloc_last w3.drew (.cells (wcells (i, v)).toArray 96))
    rw [World.size_drew] at this
    rw [this]
    simpa using hu
  have APP := run_append_own_at (P := Try.prog) (w3.drew.alloc (.cells (wcells (i, v)).toArray 96)) 0 89 89 96 i0 _ 65 72 Try.underlying89 hi hz0 hz1 hz2 (by simp [Value.cells, Z]) (by omega)
    pv _ _ (World.ownsRow.alloc (w := w3.drew) h3.pend _) ⟨w3.heap.size, 0, none⟩ 1 1 (wcells (i, v)) (by rw [hwc]) SRC2 hone (by unfold maxLen; have := HP.out; simp only [St.kept, St.stepped]; omega) (by have := HP.out; simp only [St.kept, St.stepped]; omega) (Nat.zero_le _)
  obtain ⟨v', w', hrun, hown, hgrow, hnil, hloc⟩ := APP
  refine wp_region_flow Lat [0, 0, 0, 0, 1, 0, 1, 0, 2, 3, 0, 0, 3] (by kernel_rfl) (by kernel_rfl) Lat.refl Lat.trans ?_
  refine fl0 rfl (fun _ => rfl) ?_
  refine fl0 rfl (fun _ => rfl) ?_
  refine fl0 (u := .pointer (some ⟨b, 0, none⟩)) rfl (fun _ => rfl) ?_
  refine fl0 (u := .pointer (some ⟨b, 6, none⟩)) rfl (run_field71 (by omega) rfl rfl) ?_
  simp only [Act.put, List.setIfInBounds_toArray, List.set_cons_succ, List.set_cons_zero]
  refine fl1 (u := pv) rfl (fun x hx => run_load1 rfl rfl (hx.cell c6) isAgg69) ?_
  refine fl0 (u := .int .i64 i) rfl (fun _ => rfl) ?_
  refine fl1 (u := .agg v) rfl (fun x hx => run_load88 rfl rfl (hx.at BLK3.out) hv.1) ?_
  simp only [Act.put, List.setIfInBounds_toArray, List.set_cons_succ, List.set_cons_zero]
  refine fl0 (u := .agg (wcells (i, v)).toArray) rfl (run_build90 rfl rfl rfl hv.1) ?_
  refine fl2 (u := .slice (some ⟨w3.heap.size, 0, none⟩) 1 1) (w' := w3.drew.alloc (.cells (wcells (i, v)).toArray 96)) rfl (Lat.alloc _ _) (.inl (run_buildSlice69 rfl rfl (by simpa using hwc))) ?_
  simp only [Act.put, List.setIfInBounds_toArray, List.set_cons_succ, List.set_cons_zero]
  refine fl3 (u := v') (w' := w') rfl (.inl (run_builtin_append rfl rfl rfl hrun)) ?_
  refine fl0 (u := .pointer (some ⟨b, 0, none⟩)) rfl (fun _ => rfl) ?_
  refine fl0 (u := .pointer (some ⟨b, 6, none⟩)) rfl (run_field71 (by omega) rfl rfl) ?_
  simp only [Act.put, List.setIfInBounds_toArray, List.set_cons_succ, List.set_cons_zero]
  obtain ⟨hbrow, h4, o4, f4⟩ := h3.pendUp (p := (i, v)) ((Only.refl [] w3).drew.alloc (.cells (wcells (i, v)).toArray 96)) hgrow hown hloc hv
  have hc6' : w'.cell? ⟨b, 6, none⟩ = some pv := (World.cell?_of_block (w := w3) hbrow).trans c6
  have hf6' : w'.frozen? ⟨b, 6, none⟩ = false := (World.frozen?_of_block (w := w3) hbrow).trans (fz 6)
  have hv1 : v'.oneCell' = true ∧ v'.cells = #[v'] := by
    rcases hown.2 with ⟨h1, _⟩ | ⟨g', cap', cur', h1, _⟩ <;> rw [h1] <;> exact ⟨rfl, rfl⟩
  refine fl3 (u := undef) (w' := w'.setCell ⟨b, 6, none⟩ v') rfl (.inr (.inl ⟨run_store1 rfl rfl rfl hc6' hf6' hv1.1 sizeOf69 hv1.2, rfl⟩)) ?_
  refine flnil ?_
  show Exit.then _ _ _ _ _
  go_wp2
  go_ret
  refine ⟨rfl, ?_⟩
  have f12 : ∀ x ∈ foot b mn ms pv, x ∈ F ∨ w.heap.size ≤ x := fun x hx => by
    rcases f2 x hx with h | h
    · exact f1 x h
    · exact .inr (Nat.le_trans o1.size h)
  have o23 : Only F w w3 := o12.trans o3 (fun x hx => by simp at hx; subst hx; exact f12 x (by simp [foot]))
  refine ⟨foot b mn ms v', ⟨mn, ms, v', h4, rfl⟩, fun x hx => ?_, o23.trans o4 f12⟩
  rcases f4 x hx with h | h
  · exact f12 x h
  · exact .inr (Nat.le_trans o23.size h)

end Go.Proofs.Ytoccnaebckcfmaa
end

section
set_option linter.unusedSimpArgs false
set_option maxRecDepth 8000
namespace Go.Proofs.Ytoccnaebckcfmaa
open Go.RowKit
open Go.ChangeMaps (setBlock)

set_option maxHeartbeats 400000 in
theorem barrier_off {w : World} {b : Nat} {F : List Nat} {S : St} (h : DAt w b F S) (hon : S.on = false) :
    Calls Try.prog 84 #[.pointer (some ⟨b, 0, none⟩)] w fun e w' => e = .returned (.int .i64 2) ∧ w = w' := by
  obtain ⟨mn, ms, pv, h, rfl⟩ := h
  obtain ⟨c0, c1, c2, c3, c4, c5, c6, fz⟩ := h.cells
  rw [hon] at c1
  clear h hon
  go_enter Try.func84, Try.ntmps84
  go_wp2
  go_ret
  exact ⟨rfl, rfl⟩

set_option maxHeartbeats 400000 in
theorem barrier_fall {w : World} {b : Nat} {F : List Nat} {S : St} (h : DAt w b F S) (hon : S.on = true) (hf : S.fuse = 0) :
    Calls Try.prog 84 #[.pointer (some ⟨b, 0, none⟩)] w fun e w' => e = .returned (.int .i64 2) ∧ DPost w w' b F S.fallen := by
  have H := Lib.hid (step_zero h hf)
  obtain ⟨mn, ms, pv, h, rfl⟩ := h
  obtain ⟨c0, c1, c2, c3, c4, c5, c6, fz⟩ := h.cells
  rw [hon] at c1
  clear h hon hf c2
  go_enter Try.func84, Try.ntmps84
  go_wp2_with (go_at_call 91; refine H.out.mono ?_; rintro e w' ⟨rfl, hp⟩)
  go_ret
  exact ⟨rfl, hp⟩

theorem DPost.chain {w w1 w2 : World} {b : Nat} {F F1 : List Nat} {S2 : St} (h : Only F w w1) (h1 : ∀ x ∈ F1, x ∈ F ∨ w.heap.size ≤ x) (h2 : DPost w1 w2 b F1 S2) : DPost w w2 b F S2 := DPost.trans h h1 h2

set_option maxHeartbeats 400000 in
theorem barrier_ok {w : World} {b : Nat} {F : List Nat} {S : St} (h : DAt w b F S) (hon : S.on = true) (hf : S.fuse ≠ 0) (hs : S.steps < 1000000000) :
    Calls Try.prog 84 #[.pointer (some ⟨b, 0, none⟩)] w fun e w' => e = .returned (.int .i64 0) ∧ DPost w w' b F S.stepped.settled := by
  have H := Lib.hid (step_ok h hf hs)
  obtain ⟨mn, ms, pv, h, rfl⟩ := h
  obtain ⟨c0, c1, c2, c3, c4, c5, c6, fz⟩ := h.cells
  rw [hon] at c1
  clear h hon hf hs c2 c3
  go_enter Try.func84, Try.ntmps84
  go_wp2_with fail
  refine H.out.mono ?_
  rintro e w1 ⟨rfl, F1, d1, f1, o1⟩
  go_wp2_with fail
  refine (settle_any d1).mono ?_
  rintro e w2 ⟨rfl, hp⟩
  go_wp2
  go_ret
  exact ⟨rfl, hp.chain o1 f1⟩

def fullA (c : Int) : Array Value := Array.replicate 64 (.int .u8 c)
theorem fullA_ok (c : Int) : SecOk (fullA c) := ⟨by simp [fullA], by rw [Array.all_eq_true_iff_forall_mem]; intro x hx; simp [fullA] at hx; rw [hx]; rfl⟩

def filling (c : Int) (k : Nat) : Array Value := (List.replicate k (Value.int .u8 c) ++ List.replicate (64 - k) (Value.int .u8 0)).toArray
theorem filling_at (c : Int) (k : Nat) (h : k < 64) : (filling c k)[k]? = some (.int .u8 0) := by
  simp only [filling, List.getElem?_toArray]
  rw [List.getElem?_append_right (by simp), List.length_replicate, Nat.sub_self, List.getElem?_replicate, if_pos (by omega)]
theorem filling_step (c : Int) (k : Nat) (h : k < 64) : (filling c k).setIfInBounds k (.int .u8 c) = filling c (k + 1) := by
  simp only [filling, List.setIfInBounds_toArray]
  congr 1
  rw [List.set_append_right _ _ (by simp)]
  obtain ⟨d, hd⟩ : ∃ d, 64 - k = d + 1 := ⟨64 - k - 1, by omega⟩
  rw [hd, show 64 - (k + 1) = d by omega]
  rw [List.length_replicate, Nat.sub_self, List.replicate_succ (n := d), List.set_cons_zero, List.replicate_succ' (n := k), List.append_assoc]
  rfl
theorem filling_end (c : Int) : filling c 64 = fullA c := by simp only [filling, fullA, Nat.sub_self, List.replicate_zero, List.append_nil, List.toArray_replicate]

theorem make64 (w : World) : (Instr.makeSlice 34 (.int .i64 64) (.int .i64 64)).run Try.prog w = .ok (.slice (some ⟨w.heap.size, 0, none⟩) 64 64) (w.alloc (.cells Z 5)) := by kernel_rfl


end Go.Proofs.Ytoccnaebckcfmaa
end

section
set_option linter.unusedSimpArgs false
set_option maxRecDepth 8000
namespace Go.Proofs.Ytoccnaebckcfmaa
open Go.RowKit
open Go.ChangeMaps (setBlock)

theorem filter_lt {α : Type} (p q : α → Bool) (h : ∀ x, q x = true → p x = true) : ∀ (l : List α), (∃ x ∈ l, p x = true ∧ q x = false) → (l.filter q).length < (l.filter p).length
  | [], ⟨x, hx, _⟩ => by cases hx
  | y :: l, ⟨x, hx, hp, hq⟩ => by
    have hle : (l.filter q).length ≤ (l.filter p).length := by
      clear hx
      induction l with
      | nil => simp
      | cons z l ih =>
        by_cases h1 : q z = true
        · simp [h1, h z h1, ih]
        · by_cases h2 : p z = true
          · simp [h1, h2]; omega
          · simp [h1, h2, ih]
    rcases List.mem_cons.1 hx with rfl | hx
    · simp [hp, hq]; omega
    · have ih := filter_lt p q h l ⟨x, hx, hp, hq⟩
      by_cases h1 : q y = true
      · simp [h1, h y h1, ih]
      · by_cases h2 : p y = true
        · simp [h1, h2]; omega
        · simp [h1, h2, ih]

theorem left_lt {es : Array MapEntry} {seen : Array Nat} {e : MapEntry} (he : e ∈ (leftOf es seen).toList) : (leftOf es (seen.push e.born)).size < (leftOf es seen).size := by
  obtain ⟨h1, h2⟩ := mem_left he
  have := filter_lt (fun e => !seen.contains e.born) (fun x => !(seen.push e.born).contains x.born) (fun x hx => by simp at hx ⊢; exact hx.1) es.toList ⟨e, h1, by simpa using h2, by simp⟩
  simpa [leftOf, ← Array.length_toList, Array.toList_filter] using this

section
variable {ops : Array Oper} {rest : List Oper} {o : Oper} {a : Act} {Q : Exit → Act → World → Prop} {w : World}

theorem wpL_next {x : Operand} {r bm since c0 clock : Nat} {seen : Array Nat} {es : Array MapEntry} {g : Int → Option (Array Value)} (hg : o.guard = none) (ho : o.op = .next x false) (hx : a.eval x = .pointer (some ⟨r, 0, none⟩))
    (hr : w.heap[r]? = some (.mapIter (some bm) since seen c0)) (hb : w.heap[bm]? = some (.map es clock)) (hold : ∀ x ∈ es.toList, x.born < since) (hsc : since ≤ c0) (ok : MapOk es.toList clock g)
    (h0 : (leftOf es seen).size = 0 → wpList Try.prog ops Q rest (a.put o.dst (.tuple #[.bool false])) w)
    (h1 : ∀ e ∈ (leftOf es seen).toList, ∀ k v, e.key = .int .i64 k → e.val = .agg v → ∀ w1 : World, (w1 = w ∨ w1 = w.drew) → wpList Try.prog ops Q rest (a.put o.dst (.tuple #[.bool true, .int .i64 k, .agg v])) (setBlock w1 r (.mapIter (some bm) since (seen.push e.born) clock))) :
    wpList Try.prog ops Q (o :: rest) a w := by
  rcases run_next_at (P := Try.prog) w o.type r bm since c0 seen es clock hr hb hold hsc with ⟨hz, hrun⟩ | ⟨e, he, w1, hw1, hrun⟩
  · refine wpL_value hg ?_ (h0 hz)
    unfold execOp
    simp only [ho, hx, Sem.run_bind, hrun, Result.andThen_ok, Sem.run_pure]
  · obtain ⟨k, v, ek, ev⟩ := ok.form e (mem_left he).1
    refine wpL_value hg ?_ (h1 e he k v ek ev w1 hw1)
    unfold execOp
    simp only [ho, hx, Sem.run_bind, hrun, Result.andThen_ok, Sem.run_pure, ek, ev]

theorem wpL_entry {x : Operand} {r bm since clock : Nat} {seen : Array Nat} {es : Array MapEntry} {e : MapEntry} {k : Int} {v : Array Value} (hg : o.guard = none) (ho : o.op = .entry x) (hx : a.eval x = .pointer (some ⟨r, 0, none⟩))
    (hr : w.heap[r]? = some (.mapIter (some bm) since (seen.push e.born) clock)) (hb : w.heap[bm]? = some (.map es clock)) (he : e ∈ es.toList) (hn : (es.toList.map (·.born)).Nodup) (ek : e.key = .int .i64 k) (ev : e.val = .agg v)
    (h : wpList Try.prog ops Q rest (a.put o.dst (.tuple #[.int .i64 k, .agg v])) w) : wpList Try.prog ops Q (o :: rest) a w := by
  refine wpL_value hg ?_ h
  unfold execOp
  simp only [ho, hx, Sem.run_bind, run_entry_at (P := Try.prog) w r bm since seen es clock e hr hb he hn, Result.andThen_ok, Sem.run_pure, ek, ev]

theorem wpL_range {x : Operand} {bm clock : Nat} {es : Array MapEntry} (hg : o.guard = none) (ho : o.op = .range 88 x) (hx : a.eval x = .map (some bm)) (hb : w.heap[bm]? = some (.map es clock))
    (h : wpList Try.prog ops Q rest (a.put o.dst (.pointer (some ⟨w.heap.size, 0, none⟩))) (w.alloc (.mapIter (some bm) clock #[] clock))) : wpList Try.prog ops Q (o :: rest) a w := by
  refine wpL_value hg ?_ h
  unfold execOp
  simp only [ho, hx, Instr.range, Sem.run_bind, run_underlying Try.underlying88, Result.andThen_ok, Go.MapKept.run_getObj_map hb, Sem.run_pure]
  simp [newObj, Sem.run]

theorem wpL_load88 {x : Operand} {g : Nat} {v : Array Value} {t : TypeId} (hg : o.guard = none) (ho : o.op = .load 93 x) (hx : a.eval x = .pointer (some ⟨g, 0, none⟩)) (hb : w.heap[g]? = some (.cells v t (0, 0))) (hv : v.size = 64)
    (h : wpList Try.prog ops Q rest (a.put o.dst (.agg v)) w) : wpList Try.prog ops Q (o :: rest) a w := wpL_value hg (run_load88 ho hx hb hv) h
end

/-- Those keys whose entries have been met read as g, the others as f. -/
def Met (es : List MapEntry) (seen : Array Nat) (g f h : Int → Option (Array Value)) : Prop :=
  ∀ k, ((∃ e ∈ es, e.key = .int .i64 k ∧ seen.contains e.born = true) → h k = g k) ∧ ((¬ ∃ e ∈ es, e.key = .int .i64 k ∧ seen.contains e.born = true) → h k = f k)

theorem born_inj {l : List MapEntry} (hn : (l.map (·.born)).Nodup) {e e' : MapEntry} (he : e ∈ l) (he' : e' ∈ l) (h : e'.born = e.born) : e' = e := by
  have h1 := find_born e l hn he
  have h2 := find_born e' l hn he'
  rw [h, h1] at h2
  exact (Option.some.inj h2).symm

theorem met_start (es : List MapEntry) (g f : Int → Option (Array Value)) : Met es #[] g f f := fun k => ⟨fun ⟨e, _, _, h⟩ => by simp at h, fun _ => rfl⟩
theorem met_step {es : List MapEntry} {c : Nat} {seen : Array Nat} {g f h : Int → Option (Array Value)} (ok : MapOk es c g) (hm : Met es seen g f h) {e : MapEntry} (he : e ∈ es) {k : Int} {v : Array Value} (ek : e.key = .int .i64 k) (ev : e.val = .agg v) :
    Met es (seen.push e.born) g f (updF h k v) := by
  have hg : g k = some v := (ok.has k v).2 ⟨e, he, ek, ev⟩
  intro j
  unfold updF
  by_cases hj : j = k
  · subst hj
    simp only [if_true]
    exact ⟨fun _ => hg.symm, fun hn => absurd ⟨e, he, ek, by simp⟩ hn⟩
  · simp only [hj, if_false]
    have heq : (∃ e' ∈ es, e'.key = .int .i64 j ∧ (seen.push e.born).contains e'.born = true) ↔ ∃ e' ∈ es, e'.key = .int .i64 j ∧ seen.contains e'.born = true := by
      constructor
      · rintro ⟨e', h1, h2, h3⟩
        refine ⟨e', h1, h2, ?_⟩
        simp at h3
        rcases h3 with h3 | h3
        · simpa using h3
        · have := born_inj ok.born he h1 h3
          subst this
          rw [ek] at h2
          simp at h2
          exact absurd h2.symm hj
      · rintro ⟨e', h1, h2, h3⟩
        refine ⟨e', h1, h2, ?_⟩
        simp at h3 ⊢
        exact .inl h3
    rw [heq]
    exact hm j
theorem met_end {es : Array MapEntry} {c : Nat} {seen : Array Nat} {g f h : Int → Option (Array Value)} (ok : MapOk es.toList c g) (hm : Met es.toList seen g f h) (hl : (leftOf es seen).size = 0) : h = fun k => (g k).or (f k) := by
  funext k
  have hall : ∀ e ∈ es.toList, seen.contains e.born = true := by
    intro e he
    cases hc : seen.contains e.born with
    | true => rfl
    | false =>
      have : e ∈ (leftOf es seen).toList := by
        simp only [leftOf, Array.toList_filter, List.mem_filter]
        exact ⟨he, by simp only [hc]; rfl⟩
      have := List.length_pos_of_mem this
      simp at this
      omega
  cases hg : g k with
  | some v =>
    obtain ⟨e, he, ek, ev⟩ := (ok.has k v).1 hg
    rw [(hm k).1 ⟨e, he, ek, hall e he⟩, hg]
    rfl
  | none =>
    rw [(hm k).2 (fun ⟨e, he, ek, _⟩ => by
      obtain ⟨k', v', ek', ev'⟩ := ok.form e he
      rw [ek] at ek'
      cases ek'
      have := (ok.has k v').2 ⟨e, he, ek, ev'⟩
      rw [hg] at this
      cases this)]
    rfl

def iterLeft (es : Array MapEntry) (r : Nat) (w : World) : Nat := match w.heap[r]? with | some (.mapIter _ _ seen _) => (leftOf es seen).size | _ => 0
theorem iterLeft_eq {es : Array MapEntry} {r : Nat} {w : World} {m : Option Nat} {s c : Nat} {seen : Array Nat} (h : w.heap[r]? = some (.mapIter m s seen c)) : iterLeft es r w = (leftOf es seen).size := by simp [iterLeft, h]
theorem heap_setBlock_at {w : World} {r : Nat} (h : r < w.heap.size) (o : Obj) : (setBlock w r o).heap[r]? = some o := by simp [Go.ChangeMaps.setBlock, h]

set_option maxHeartbeats 400000 in
theorem copy_any {w : World} {mn ms : Nat} {f g : Int → Option (Array Value)} (hf : MapAt w mn f) (hg : MapAt w ms g) (hne : mn ≠ ms) (hok : ∀ i v, g i = some v → SecOk v) :
    Calls Try.prog 62 #[.map (some mn), .map (some ms)] w fun e w' => e = .returned (.tuple #[]) ∧ MapAt w' mn (fun k => (g k).or (f k)) ∧ Only [mn] w w' := by
  obtain ⟨es, clock, hb, ok⟩ := hg
  have hmn := mapAt_lt hf
  have hms : ms < w.heap.size := (Array.getElem?_eq_some_iff.1 hb).1
  have HB := Lib.hid hb
  clear hb
  go_enter Try.func62, Try.ntmps62
  go_wp2_with (refine wpL_range rfl rfl rfl HB.out ?_)
  simp only [Act.put, List.setIfInBounds_toArray, List.set_cons_succ, List.set_cons_zero]
  go_loopw [8] (fun _ wr => ∃ seen h, wr.heap[w.heap.size]? = some (.mapIter (some ms) clock seen clock) ∧ MapAt wr mn h ∧ Met es.toList seen g f h ∧ Only [mn] w wr ∧ w.heap.size < wr.heap.size) (fun _ wr => iterLeft es w.heap.size wr)
  case atStart => exact ⟨#[], f, heap_alloc_last w _, mapAt_congr hf (Below.heap_alloc _ _ _ hmn), met_start _ _ _, (Only.refl _ w).alloc _, by simp⟩
  case round =>
    obtain ⟨seen, h, hit, hmap, hmet, honly, hsz⟩ := hrel
    have hms' : wr.heap[ms]? = some (.map es clock) := (honly.block ms hms (by simpa using hne.symm)).trans HB.out
    have HIT := Lib.hid hit
    have HMS := Lib.hid hms'
    clear hit hms'
    apply wp_seq_k
    intro _ _
    apply wp_region_lit
    refine wpL_next rfl rfl rfl HIT.out HMS.out ok.lt (Nat.le_refl _) ok (fun hz => ?_) (fun e he k v ek ev w1 hw1 => ?_)
    · have HZ := Lib.hid hz
      clear hz
      go_wp2
      go_end0
      refine ⟨rfl, ?_, honly⟩
      rw [← met_end ok hmet HZ.out]
      exact hmap
    · have hee := (mem_left he).1
      have hw1h : w1.heap = wr.heap := by rcases hw1 with rfl | rfl <;> rfl
      have o1 : Only [mn] w (setBlock w1 w.heap.size (.mapIter (some ms) clock (seen.push e.born) clock)) := by
        have : Only [mn] w w1 := by rcases hw1 with rfl | rfl; exact honly; exact honly.drew
        exact this.setBlock (.inr (Nat.le_refl _)) _
      have hit1 : (setBlock w1 w.heap.size (.mapIter (some ms) clock (seen.push e.born) clock)).heap[w.heap.size]? = some (.mapIter (some ms) clock (seen.push e.born) clock) := heap_setBlock_at (by rw [hw1h]; exact hsz) _
      have hms1 : (setBlock w1 w.heap.size (.mapIter (some ms) clock (seen.push e.born) clock)).heap[ms]? = some (.map es clock) := by
        rw [heap_setBlock_ne _ _ _ (Nat.ne_of_lt hms), hw1h]; exact HMS.out
      have hmap1 : MapAt (setBlock w1 w.heap.size (.mapIter (some ms) clock (seen.push e.born) clock)) mn h := mapAt_congr hmap (by rw [heap_setBlock_ne _ _ _ (Nat.ne_of_lt hmn), hw1h])
      have hsz1 : w.heap.size < (setBlock w1 w.heap.size (.mapIter (some ms) clock (seen.push e.born) clock)).heap.size := by simp [Go.ChangeMaps.setBlock, hw1h, hsz]
      generalize setBlock w1 w.heap.size (.mapIter (some ms) clock (seen.push e.born) clock) = W at *
      have HIT1 := Lib.hid hit1
      have HMS1 := Lib.hid hms1
      have HE := Lib.hid he
      have EK := Lib.hid ek
      have EV := Lib.hid ev
      have hvok : SecOk v := hok k v ((ok.has k v).2 ⟨e, hee, ek, ev⟩)
      clear hit1 hms1 hw1h hw1 he ek ev
      have hblk := heap_alloc_last W (.cells v 93)
      have BLK := Lib.hid hblk
      clear hblk
      go_wp2_with (first | (refine wpL_entry rfl rfl rfl HIT1.out HMS1.out hee ok.born EK.out EV.out ?_) | (refine wpL_alloc88 rfl rfl ?_) | (refine wpL_store88 rfl rfl rfl rfl rfl hvok ?_) | (refine wpL_load88 rfl rfl rfl BLK.out hvok.1 ?_) | (refine wpL_update rfl rfl rfl rfl rfl (mapAt_congr (w' := W.alloc (.cells v 93)) hmap1 (Below.heap_alloc _ _ _ (mapAt_lt hmap1))) ?_; intro ob hm; simp only [Act.put, List.setIfInBounds_toArray, List.set_cons_succ, List.set_cons_zero]))
      go_roundw
      case rel =>
        have hit2 : (setBlock (W.alloc (.cells v 93)) mn ob).heap[w.heap.size]? = some (.mapIter (some ms) clock (seen.push e.born) clock) := by
          rw [heap_setBlock_ne _ _ _ (Nat.ne_of_gt hmn), Below.heap_alloc _ _ _ hsz1]; exact HIT1.out
        exact ⟨seen.push e.born, updF h k v, hit2, hm, met_step ok hmet hee EK.out EV.out, (o1.alloc _).setBlock (by simp) _, by simp [Go.ChangeMaps.setBlock]; omega⟩
      case measure =>
        have hit2 : (setBlock (W.alloc (.cells v 93)) mn ob).heap[w.heap.size]? = some (.mapIter (some ms) clock (seen.push e.born) clock) := by
          rw [heap_setBlock_ne _ _ _ (Nat.ne_of_gt hmn), Below.heap_alloc _ _ _ hsz1]; exact HIT1.out
        rw [iterLeft_eq hit2, iterLeft_eq HIT.out]
        exact left_lt HE.out

end Go.Proofs.Ytoccnaebckcfmaa
end

section
set_option linter.unusedSimpArgs false
set_option maxRecDepth 8000
namespace Go.Proofs.Ytoccnaebckcfmaa
open Go.RowKit
open Go.ChangeMaps (setBlock)

/-- A slice of ints in memory, outside the blocks F. -/
def KeepAt (w : World) (F : List Nat) (kv : Value) (keep : List Int) : Prop :=
  ∃ ad cap, kv = .slice ad keep.length cap ∧ keep.length ≤ 9223372036854775807 ∧ (keep ≠ [] → ∃ g o, ad = some ⟨g, o, none⟩ ∧ g < w.heap.size ∧ g ∉ F ∧ ∀ j z, keep[j]? = some z → w.cell? ⟨g, o + j, none⟩ = some (.int .i64 z))

theorem KeepAt.only {w w' : World} {F G : List Nat} {kv : Value} {keep : List Int} (h : KeepAt w F kv keep) (ho : Only G w w') (hG : ∀ x ∈ G, x ∈ F ∨ w.heap.size ≤ x) : KeepAt w' F kv keep := by
  obtain ⟨ad, cap, h1, h2, h3⟩ := h
  refine ⟨ad, cap, h1, h2, fun hne => ?_⟩
  obtain ⟨g, o, e1, e2, e3, e4⟩ := h3 hne
  refine ⟨g, o, e1, Nat.lt_of_lt_of_le e2 ho.size, e3, fun j z hz => ?_⟩
  rw [World.cell?_of_block (w := w) (ho.block g e2 (fun hx => by rcases hG g hx with h | h; exact e3 h; omega))]
  exact e4 j z hz

def surv (keep : List Int) (k : Nat) : Bool := !keep.isEmpty && ((keep.getD (k % keep.length) 0).tmod 2 != 0)

set_option maxHeartbeats 400000 in
theorem surv_nil (ad : Option Addr) (cap : Nat) (k : Int) (w : World) : Calls Try.prog 63 #[.slice ad 0 cap, .int .i64 k] w fun e w' => e = .returned (.bool false) ∧ w = w' := by
  go_enter Try.func63, Try.ntmps63
  go_wp2
  go_ret
  exact ⟨rfl, rfl⟩

set_option maxHeartbeats 400000 in
theorem surv_some (g o len cap k : Nat) (z : Int) (w : World) (hl : 0 < len) (hl2 : len ≤ 9223372036854775807) (hk : k ≤ 1000000000) (hc : w.cell? ⟨g, o + k % len, none⟩ = some (.int .i64 z)) :
    Calls Try.prog 63 #[.slice (some ⟨g, o, none⟩) len cap, .int .i64 k] w fun e w' => e = .returned (.bool (z.tmod 2 != 0)) ∧ w = w' := by
  have hlt : k % len < len := Nat.mod_lt _ hl
  go_enter Try.func63, Try.ntmps63
  go_wp2
  go_ret
  exact ⟨rfl, rfl⟩

theorem surv_any {w : World} {F : List Nat} {kv : Value} {keep : List Int} (h : KeepAt w F kv keep) (k : Nat) (hk : k ≤ 1000000000) :
    Calls Try.prog 63 #[kv, .int .i64 k] w fun e w' => e = .returned (.bool (surv keep k)) ∧ w = w' := by
  obtain ⟨ad, cap, rfl, h2, h3⟩ := h
  cases keep with
  | nil => exact surv_nil ad cap k w
  | cons z0 r =>
    obtain ⟨g, o, rfl, e2, e3, e4⟩ := h3 (by simp)
    have hlt : k % (z0 :: r).length < (z0 :: r).length := Nat.mod_lt _ (by simp)
    have hz := e4 (k % (z0 :: r).length) _ (List.getElem?_eq_getElem hlt)
    refine (surv_some g o (z0 :: r).length cap k _ w (by simp) h2 hk hz).mono ?_
    rintro e w' ⟨rfl, rfl⟩
    refine ⟨?_, rfl⟩
    simp only [surv, List.isEmpty_cons, Bool.not_false, Bool.true_and]
    rw [List.getD_eq_getElem?_getD, List.getElem?_eq_getElem hlt]
    rfl

def bootF (base : Int → Option (Array Value)) (keep : List Int) (pend : List (Int × Array Value)) : Nat → Int → Option (Array Value)
  | 0 => base
  | j + 1 => match pend[j]? with
    | some p => if surv keep j then updF (bootF base keep pend j) p.1 p.2 else bootF base keep pend j
    | none => bootF base keep pend j

def St.base (S : St) : Int → Option (Array Value) := fun k => (S.sure k).or (S.now k)
def St.booted (S : St) (keep : List Int) : St := { S with now := bootF S.base keep S.pend S.pend.length, sure := fun _ => none, pend := [], on := true, fuse := -1 }

theorem bootF_none {base : Int → Option (Array Value)} {keep : List Int} {pend : List (Int × Array Value)} {j : Nat} (h : pend[j]? = none) : bootF base keep pend (j + 1) = bootF base keep pend j := by
  rw [bootF, h]
theorem bootF_some {base : Int → Option (Array Value)} {keep : List Int} {pend : List (Int × Array Value)} {j : Nat} {p : Int × Array Value} (h : pend[j]? = some p) :
    bootF base keep pend (j + 1) = if surv keep j then updF (bootF base keep pend j) p.1 p.2 else bootF base keep pend j := by
  rw [bootF, h]

theorem bootF_ok {base : Int → Option (Array Value)} {keep : List Int} {pend : List (Int × Array Value)} (hb : ∀ i v, base i = some v → SecOk v) (hp : ∀ p ∈ pend, SecOk p.2) : ∀ (j : Nat) (i : Int) (v : Array Value), bootF base keep pend j i = some v → SecOk v
  | 0, i, v, h => hb i v h
  | j + 1, i, v, h => by
    have ih := bootF_ok (keep := keep) hb hp j
    cases hpj : pend[j]? with
    | none => rw [bootF_none hpj] at h; exact ih i v h
    | some p =>
      rw [bootF_some hpj] at h
      split at h
      · exact secOk_upd ih (hp p (List.mem_of_getElem? hpj)) i v h
      · exact ih i v h

theorem base_ok {S : St} (h : StOk S) : ∀ i v, S.base i = some v → SecOk v := by
  intro i v hv
  unfold St.base at hv
  cases hs : S.sure i with
  | none => rw [hs] at hv; exact h.now i v (by simpa using hv)
  | some u => rw [hs] at hv; simp at hv; subst hv; exact h.sure i u hs

theorem flat_get : ∀ (pend : List (Int × Array Value)) (k : Nat) (p : Int × Array Value) (j : Nat), (∀ q ∈ pend, SecOk q.2) → pend[k]? = some p → j < 65 → (pend.flatMap wcells)[k * 65 + j]? = (wcells p)[j]?
  | [], k, p, j, _, h, _ => by simp at h
  | q :: r, 0, p, j, hs, h, hj => by
    simp at h
    subst h
    have hl : (wcells q).length = 65 := by simp [wcells, (hs q (by simp)).1]
    rw [List.flatMap_cons, Nat.zero_mul, Nat.zero_add, List.getElem?_append_left (by rw [hl]; exact hj)]
  | q :: r, k + 1, p, j, hs, h, hj => by
    have hl : (wcells q).length = 65 := by simp [wcells, (hs q (by simp)).1]
    rw [List.flatMap_cons, List.getElem?_append_right (by rw [hl]; omega), hl, show (k + 1) * 65 + j - 65 = k * 65 + j by omega]
    exact flat_get r k p j (fun q hq => hs q (by simp [hq])) (by simpa using h) hj

/-- The k-th pending write lies in its row. -/
theorem DiskAt.pend_at {w : World} {b mn ms : Nat} {pv : Value} {S : St} (h : DiskAt w b mn ms pv S) {k : Nat} {p : Int × Array Value} (hp : S.pend[k]? = some p) :
    ∃ g cap, pv = .slice (some ⟨g, 0, none⟩) S.pend.length cap ∧ w.rangeAt g (k * 65) (wcells p) := by
  have hk : k < S.pend.length := (List.getElem?_eq_some_iff.1 hp).1
  rcases h.pend.2 with ⟨_, h2⟩ | ⟨g, cap, cur, hv, _, hh, h3, h4, h5, h6⟩
  · omega
  · refine ⟨g, cap, hv, fun j u hu => ?_⟩
    have hl : (wcells p).length = 65 := by simp [wcells, (h.ok.pend p (List.mem_of_getElem? hp)).1]
    have hj : j < 65 := by rw [← hl]; exact (List.getElem?_eq_some_iff.1 hu).1
    rw [cell_of_row w g _ cur _ _ hh, ← Array.getElem?_toList]
    have h7 := flat_get S.pend k p j h.ok.pend hp hj
    rw [← h6, List.getElem?_take_of_lt (by have : (k + 1) * 65 ≤ S.pend.length * 65 := Nat.mul_le_mul_right _ hk; omega)] at h7
    rw [h7]
    exact hu

section
variable {ops : Array Oper} {rest : List Oper} {o : Oper} {a : Act} {Q : Exit → Act → World → Prop} {w : World}

theorem wpL_alloc90 (hg : o.guard = none) (ho : o.op = .alloc 96) (h : wpList Try.prog ops Q rest (a.put o.dst (.pointer (some ⟨w.heap.size, 0, none⟩))) (w.alloc (.cells (#[.int .i64 0] ++ Z) 96))) : wpList Try.prog ops Q (o :: rest) a w := by
  refine wpL_value hg ?_ h
  unfold execOp
  rw [ho]
  simp only [Instr.alloc, Sem.run_bind, zero90, Result.andThen, newVar, newRow, Value.cells]
  rfl
theorem wpL_store90 {c c' : Array Value} {x y : Operand} (hg : o.guard = none) (ho : o.op = .store 96 x y) (hx : a.eval x = .pointer (some ⟨w.heap.size, 0, none⟩)) (hy : a.eval y = .agg c') (hc : c.size = 65) (hc' : c'.size = 65) (h1 : c'.all (·.oneCell') = true)
    (h : wpList Try.prog ops Q rest (a.put o.dst undef) (w.alloc (.cells c' 96))) : wpList Try.prog ops Q (o :: rest) a (w.alloc (.cells c 96)) := by
  refine wpL_skip hg ?_ h
  unfold execOp
  rw [ho]
  simp only [hx, hy, Sem.run_bind, run_storeAt_new (P := Try.prog) w 96 c c' (by rw [info90, hc']) (by rw [hc, hc']) h1, Result.andThen]
  rfl
theorem run_load90 {x : Operand} {g k : Nat} {p : Int × Array Value} (ho : o.op = .load 96 x) (hx : a.eval x = .pointer (some ⟨g, k, none⟩)) (hr : w.rangeAt g k (wcells p)) (hp : SecOk p.2) :
    (execOp a.eval o).run Try.prog w = .ok (.value (.agg (wcells p).toArray)) w := by
  have hl : (wcells p).length = 65 := by simp [wcells, hp.1]
  unfold execOp
  simp only [ho, hx, Instr.loadAt, Instr.sureAddr, Sem.run_bind, Sem.run_pure, Result.andThen_ok, run_loadVar_mid (P := Try.prog) w g k 96 (wcells p) _ hr Try.underlying96 rfl (by rw [info90, hl])]
theorem run_load88m {x : Operand} {g k : Nat} {v : Array Value} (ho : o.op = .load 93 x) (hx : a.eval x = .pointer (some ⟨g, k, none⟩)) (hr : w.rangeAt g k v.toList) (hv : v.size = 64) :
    (execOp a.eval o).run Try.prog w = .ok (.value (.agg v)) w := by
  unfold execOp
  simp only [ho, hx, Instr.loadAt, Instr.sureAddr, Sem.run_bind, Sem.run_pure, Result.andThen_ok, run_loadVar_mid (P := Try.prog) w g k 93 v.toList _ hr Try.underlying93 rfl (by rw [info88]; simp [hv]), Array.toArray_toList]
end

theorem DiskAt.nowSet {w w' : World} {b mn ms : Nat} {pv : Value} {S : St} (h : DiskAt w b mn ms pv S) {g : Int → Option (Array Value)} (hm : MapAt w' mn g) (ho : Only [mn] w w') (hg : ∀ i v, g i = some v → SecOk v) : DiskAt w' b mn ms pv { S with now := g } := by
  have lt := diskAt_lt h
  refine ⟨?_, hm, ?_, ?_, h.ne, ⟨h.ok.n0, h.ok.n1, h.ok.s0, h.ok.f1, hg, h.ok.sure, h.ok.pend⟩⟩
  · rw [ho.block b (lt b (by simp [foot])) (by simpa using h.ne_now)]; exact h.row
  · exact mapAt_congr h.sure (ho.block ms (lt ms (by simp [foot])) (by simpa using h.ne.symm))
  · exact ownsRow_congr h.pend (fun g hg => ho.block g (lt g (by simp [foot, hg])) (by simpa using (h.ne_pend hg).2.1))

def St.boots (S : St) (keep : List Int) (k : Nat) : St := { S with now := bootF S.base keep S.pend k }

set_option maxHeartbeats 1000000 in
theorem boot_any {w : World} {b : Nat} {F : List Nat} {S : St} {kv : Value} {keep : List Int} (h : DAt w b F S) (hk : KeepAt w F kv keep) (hp : S.pend.length < 1000000000) :
    Calls Try.prog 32 #[.pointer (some ⟨b, 0, none⟩), kv] w fun e w' => e = .returned (.tuple #[]) ∧ DPost w w' b F (S.booted keep) := by
  obtain ⟨mn, ms, pv, h, rfl⟩ := h
  obtain ⟨c0, c1, c2, c3, c4, c5, c6, fz⟩ := h.cells
  have CP := copy_any (mapAt_congr (w' := w.drew) h.now rfl) (mapAt_congr (w' := w.drew) h.sure rfl) h.ne h.ok.sure
  have CPH := Lib.hid CP
  clear CP
  go_enter Try.func32, Try.ntmps32
  go_wp2_with fail
  refine wp_region_still_tail 8 (by kernel_rfl) (by kernel_rfl) ?_
  change wpStill Try.prog _ (World.drew _) _ _ _
  simp only [List.take_succ_cons, List.take_zero, List.drop_succ_cons, List.drop_zero]
  repeat still_step
  refine wpStill_nil ?_
  go_wp2_with fail
  refine CPH.out.mono ?_
  rintro e w1 ⟨rfl, hnow1, o1⟩
  clear CPH c0 c1 c2 c3 c4 c5 c6 fz
  have o1 : Only [mn] w w1 := (Only.refl [mn] w).drew.trans o1 (fun x hx => .inl hx)
  have h1 : DiskAt w1 b mn ms pv (S.boots keep 0) := h.nowSet hnow1 o1 (base_ok h.ok)
  obtain ⟨pa, pcap, hpv⟩ : ∃ a cap, pv = .slice a S.pend.length cap := by
    rcases h.pend.2 with ⟨h1, h2⟩ | ⟨g, cap, cur, h1, _⟩
    · exact ⟨none, 0, by rw [h1, h2]⟩
    · exact ⟨_, _, h1⟩
  subst hpv
  have hk1 := hk.only o1 (fun x hx => by simp at hx; subst hx; exact .inl (by simp [foot]))
  have c6 := h1.cells.2.2.2.2.2.2.1
  have H := Lib.hid h
  clear h hnow1
  go_wp2_with fail
  go_loopw [20] (fun i wr => ∃ k : Nat, k ≤ S.pend.length ∧ i = .int .i64 k ∧ DiskAt wr b mn ms (.slice pa S.pend.length pcap) (S.boots keep k) ∧ Only [mn] w wr ∧ KeepAt wr (foot b mn ms (.slice pa S.pend.length pcap)) kv keep) (fun i _ => S.pend.length - (intOf i).toNat)
  case atStart => exact ⟨0, by omega, rfl, h1, o1, hk1⟩
  case round =>
    clear h1 o1 hk1 c6 hk
    obtain ⟨k, hkl, rfl, h1, o1, hk1⟩ := hrel
    by_cases hlt : k < S.pend.length
    · obtain ⟨p, hpk⟩ : ∃ p, S.pend[k]? = some p := ⟨S.pend[k], List.getElem?_eq_getElem hlt⟩
      obtain ⟨pg, cap', hpv, hrange⟩ := h1.pend_at (k := k) (p := p) hpk
      cases hpv
      have hpok : SecOk p.2 := h1.ok.pend p (List.mem_of_getElem? hpk)
      have hwc : (wcells p).length = 65 := by simp [wcells, hpok.1]
      have hone : (wcells p).toArray.all (·.oneCell') = true := by
        rw [Array.all_eq_true_iff_forall_mem]
        intro u hu
        simp only [wcells, List.mem_toArray, List.mem_cons] at hu
        rcases hu with rfl | hu
        · rfl
        · exact (Array.all_eq_true_iff_forall_mem.1 hpok.2) u (by simpa using hu)
      have HR := Lib.hid hrange
      have HPK := Lib.hid hpk
      have hka := hk1.only ((Only.refl [] wr).alloc (.cells (wcells p).toArray 96)) (by simp)
      have SV := Lib.hid (surv_any hka k (by omega))
      clear hrange hpk
      go_wp2_with (first | (refine wpL_value rfl (run_load90 rfl rfl HR.out hpok) ?_) | (refine wpL_alloc90 rfl rfl ?_) | (refine wpL_store90 rfl rfl rfl rfl rfl (by simpa using hwc) hone ?_))
      refine SV.out.mono ?_
      rintro e w' ⟨rfl, rfl⟩
      have oa : Only [] wr (wr.alloc (.cells (wcells p).toArray 96)) := (Only.refl [] wr).alloc _
      have ha : DiskAt (wr.alloc (.cells (wcells p).toArray 96)) b mn ms (.slice (some ⟨pg, 0, none⟩) S.pend.length pcap) (S.boots keep k) := diskAt_congr h1 (fun x hx => oa.block x (diskAt_lt h1 x hx) (by simp))
      have hblk := heap_alloc_last wr (.cells (wcells p).toArray 96)
      have owa : Only [mn] w (wr.alloc (.cells (wcells p).toArray 96)) := o1.alloc _
      have hszlt : w.heap.size ≤ wr.heap.size := o1.size
      generalize hg0 : wr.heap.size = g0 at *
      generalize wr.alloc (.cells (wcells p).toArray 96) = wa at *
      have HBLK := Lib.hid hblk
      clear hblk SV oa h1 hk1 o1 hg0
      cases hsv : surv keep k with
      | false =>
        have HSV := Lib.hid hsv
        clear hsv
        go_wp2
        go_roundw
        case rel =>
          refine ⟨k + 1, by omega, by go_num, ?_, owa, hka⟩
          have e : S.boots keep (k + 1) = S.boots keep k := by simp only [St.boots]; rw [bootF_some HPK.out, HSV.out]; rfl
          rw [e]
          exact ha
        case measure => simp [intOf]; omega
      | true =>
        have HSV := Lib.hid hsv
        clear hsv
        obtain ⟨c0, c1, c2, c3, c4, c5, c6, fz⟩ := ha.cells
        have hnow := ha.now
        have hr0 : wa.cell? ⟨g0, 0, none⟩ = some (.int .i64 p.1) := by rw [cell_of_row _ _ _ _ _ _ HBLK.out]; rfl
        have hr1 : wa.rangeAt g0 1 p.2.toList := fun j u hu => by
          rw [cell_of_row _ _ _ _ _ _ HBLK.out]
          simp only [wcells, List.getElem?_toArray, Nat.add_comm 1 j, List.getElem?_cons_succ]
          exact hu
        have HR1 := Lib.hid hr1
        clear hr1
        go_wp2_with fail
        refine wp_region_still_tail 8 (by kernel_rfl) (by kernel_rfl) ?_
        change wpStill Try.prog _ (World.drew _) _ _ _
        simp only [List.take_succ_cons, List.take_zero, List.drop_succ_cons, List.drop_zero]
        still_step
        still_step
        still_step
        still_step
        still_step
        still_step
        still_step
        refine wpSt_value rfl (run_load88m rfl rfl (v := p.2) (by rw [World.rangeAt_drew]; exact HR1.out) hpok.1) ?_
        refine wpStill_nil ?_
        refine wpL_update rfl rfl rfl rfl rfl (mapAt_congr (w' := wa.drew) hnow rfl) ?_
        intro ob hm
        simp only [Act.put, List.setIfInBounds_toArray, List.set_cons_succ, List.set_cons_zero]
        change wpList _ _ _ _ _ (setBlock wa.drew mn ob)
        obtain ⟨h2, o2⟩ := ha.nowUp (Only.refl [] wa).drew hm (secOk_upd ha.ok.now hpok)
        have k2 := hka.only o2 (by simp [foot])
        have o3 := owa.trans o2 (by simp)
        generalize setBlock wa.drew mn ob = wb at *
        clear hm hnow c0 c1 c2 c3 c4 c5 c6 fz hr0
        go_wp2
        go_roundw
        case rel =>
          refine ⟨k + 1, by omega, by go_num, ?_, o3, k2⟩
          have e : S.boots keep (k + 1) = { S.boots keep k with now := updF (S.boots keep k).now p.1 p.2 } := by simp only [St.boots]; rw [bootF_some HPK.out, HSV.out]; rfl
          rw [e]
          exact h2
        case measure => simp [intOf]; omega
    · have : k = S.pend.length := by omega
      subst this
      have S1 := Lib.hid (settle_any ⟨mn, ms, _, h1, rfl⟩)
      go_wp2_with fail
      refine S1.out.mono ?_
      rintro e w2 ⟨rfl, F2, d2, f2, o2⟩
      obtain ⟨mn2, ms2, pv2, h2, rfl⟩ := d2
      obtain ⟨c0, c1, c2, c3, c4, c5, c6, fz⟩ := h2.cells
      have H2 := Lib.hid h2
      clear h2 S1
      go_wp2
      go_end0
      have h2 := H2.out
      refine ⟨rfl, ?_⟩
      have o3 : Only [b] w2 ((w2.setCell ⟨b, 1, none⟩ (.bool true)).setCell ⟨b, 2, none⟩ (.int .i64 (-1))) := ((Only.refl [b] w2).setCell (by simp) _).setCell (by simp) _
      have h3 : DiskAt ((w2.setCell ⟨b, 1, none⟩ (.bool true)).setCell ⟨b, 2, none⟩ (.int .i64 (-1))) b mn2 ms2 pv2 (S.booted keep) := by
        refine h2.scalar ?_ o3 rfl rfl rfl (h2.ok.scalar rfl rfl rfl rfl h2.ok.s0 (by simp [St.booted]))
        rw [heap_setCell_row (heap_setCell_row h2.row _ _)]
        rfl
      have f1 : ∀ x ∈ [mn], x ∈ foot b mn ms (.slice pa S.pend.length pcap) := by simp [foot]
      have o12 := (o1.mono f1).trans o2 (fun x hx => .inl hx)
      refine ⟨foot b mn2 ms2 pv2, ⟨mn2, ms2, pv2, h3, rfl⟩, fun x hx => ?_, o12.trans o3 (by simp [foot])⟩
      rcases f2 x hx with h | h
      · exact .inl h
      · exact .inr (Nat.le_trans o1.size h)

end Go.Proofs.Ytoccnaebckcfmaa
end

section
set_option linter.unusedVariables false
namespace Go.Proofs.Ytoccnaebckcfmaa
open Go.RowKit

/-- In the order of the text; an operation of kind 2 or 3 may be a call of which the contract alone is known. -/
def wpFlowR (P : Program) (ops : Array Oper) (L : World → World → Prop) (K : Act → World → Prop) : List Nat → List Oper → Act → World → Prop
  | _, [], a, w => K a w
  | ks, o :: r, a, w =>
    (∃ v w', OneStep P ops L (ks.headD 3) o a w v w' ∧ wpFlowR P ops L K ks.tail r (a.put o.dst v) w') ∨
    (2 ≤ ks.headD 3 ∧ Region.wanted o (yielded ops a.tmps) = true ∧ ∃ f args, (execOp a.eval o).run P w = .ok (.enter f args) w ∧
      Calls P f args w (fun e w' => ∃ v, e = .returned v ∧ (ks.headD 3 = 2 → L w w') ∧ wpFlowR P ops L K ks.tail r (a.put o.dst v) w'))

/-- What has come up ahead of operation m. -/
structure Hist (P : Program) (L : World → World → Prop) (ks : List Nat) (l : List Oper) (m : Nat) (A : Nat → Act) (W : Nat → World) (v : Nat → Value) : Prop where
  act : ∀ i o, i < m → l[i]? = some o → A (i + 1) = (A i).put o.dst (v i)
  read : ∀ i o, i < m → l[i]? = some o → ¬ 2 ≤ ks.getD i 3 → OneStep P l.toArray L (ks.getD i 3) o (A i) (W i) (v i) (W (i + 1))
  mild : ∀ i, i < m → ks.getD i 3 = 2 → L (W i) (W (i + 1))

section
variable {P : Program} {L : World → World → Prop} {ks : List Nat} {l : List Oper} {A : Nat → Act} {W : Nat → World} {v : Nat → Value} {m : Nat}

theorem Hist.size (t : Hist P L ks l m A W v) (hml : m ≤ l.length) : ∀ i, i ≤ m → (A i).tmps.size = (A 0).tmps.size ∧ (A i).defers = (A 0).defers
  | 0, _ => ⟨rfl, rfl⟩
  | i + 1, h => by
    obtain ⟨o, ho⟩ : ∃ o, l[i]? = some o := ⟨l[i], List.getElem?_eq_getElem (by omega)⟩
    obtain ⟨h1, h2⟩ := t.size hml i (by omega)
    rw [t.act i o (by omega) ho]
    cases hd : o.dst with
    | none => exact ⟨h1, h2⟩
    | some d => exact ⟨by simpa [Act.put] using h1, h2⟩

theorem Hist.between (t : Hist P L ks l m A W v) (hml : m ≤ l.length) (x : Nat) (i : Nat) : ∀ d, i + d ≤ m → (∀ j, i ≤ j → j < i + d → fDst l j ≠ some x) → (A (i + d)).tmps[x]? = (A i).tmps[x]?
  | 0, _, _ => rfl
  | d + 1, h, hn => by
    have ih := t.between hml x i d (by omega) (fun j h1 h2 => hn j h1 (by omega))
    obtain ⟨o, ho⟩ : ∃ o, l[i + d]? = some o := ⟨l[i + d], List.getElem?_eq_getElem (by omega)⟩
    have hd := hn (i + d) (by omega) (by omega)
    rw [show i + (d + 1) = (i + d) + 1 by omega, t.act (i + d) o (by omega) ho, ← ih]
    simp only [fDst, ho, Option.bind_some] at hd
    cases he : o.dst with
    | none => rfl
    | some y =>
      have : y ≠ x := fun e => hd (by rw [he, e])
      simp [Act.put, Array.getElem?_setIfInBounds_ne this]

theorem Hist.later (t : Hist P L ks l m A W v) (hml : m ≤ l.length) (hr : ∀ w, L w w) (htr : ∀ a b c, L a b → L b c → L a c) (i : Nat) : ∀ d, i + d ≤ m → (∀ j, i ≤ j → j < i + d → ¬ 3 ≤ ks.getD j 3) → L (W i) (W (i + d))
  | 0, _, _ => hr _
  | d + 1, h, hn => by
    have ih := t.later hml hr htr i d (by omega) (fun j h1 h2 => hn j h1 (by omega))
    obtain ⟨o, ho⟩ : ∃ o, l[i + d]? = some o := ⟨l[i + d], List.getElem?_eq_getElem (by omega)⟩
    have hk := hn (i + d) (by omega) (by omega)
    rw [show i + (d + 1) = (i + d) + 1 by omega]
    refine htr _ _ _ ih ?_
    by_cases h2 : ks.getD (i + d) 3 = 2
    · exact t.mild (i + d) (by omega) h2
    · have hs := t.read (i + d) o (by omega) ho (by omega)
      rcases hs with ⟨_, hs⟩ | ⟨_, _, hs⟩
      case inr => rw [hs]; exact hr _
      revert hs
      generalize ks.getD (i + d) 3 = k at *
      match k, hk, h2 with
      | 0, _, _ => exact fun hs => by rw [hs.1]; exact hr _
      | 1, _, _ => exact fun hs => by rw [hs.1]; exact hr _
      | 2, _, h2 => exact absurd rfl h2
      | n + 3, hk, _ => exact absurd (by omega) hk

/-- A state on some way through the region: m is the next operation that changes the world. -/
structure RInv (P : Program) (L : World → World → Prop) (K : Act → World → Prop) (l : List Oper) (ks : List Nat) (D : Nat → Prop) (a : Act) (w : World) (m : Nat) (A : Nat → Act) (W : Nat → World) (v : Nat → Value) : Prop where
  le : m ≤ l.length
  hist : Hist P L ks l m A W v
  node : wpFlowR P l.toArray L K (ks.drop m) (l.drop m) (A m) (W m)
  next : m = l.length ∨ 2 ≤ ks.getD m 3
  world : w = W m
  closed : Closed l D
  dom : ∀ i, D i → i < m
  eff : ∀ e, e < m → 2 ≤ ks.getD e 3 → D e
  size : a.tmps.size = (A 0).tmps.size
  defers : a.defers = (A 0).defers
  done : ∀ j x, D j → fDst l j = some x → a.tmps[x]? = (A m).tmps[x]?
  rest : ∀ x, (∀ j, D j → fDst l j ≠ some x) → a.tmps[x]? = (A 0).tmps[x]?

theorem headD_drop (ks : List Nat) (m : Nat) : (ks.drop m).headD 3 = ks.getD m 3 := by
  rw [List.headD_eq_head?_getD, List.head?_drop, List.getD_eq_getElem?_getD]

/-- On to the next operation that changes the world. -/
theorem advance {K : Act → World → Prop} : ∀ (d m : Nat) (A : Nat → Act) (W : Nat → World) (v : Nat → Value), l.length - m = d → m ≤ l.length → Hist P L ks l m A W v → wpFlowR P l.toArray L K (ks.drop m) (l.drop m) (A m) (W m) →
    ∃ m' A' W' v', m ≤ m' ∧ m' ≤ l.length ∧ Hist P L ks l m' A' W' v' ∧ wpFlowR P l.toArray L K (ks.drop m') (l.drop m') (A' m') (W' m') ∧ (m' = l.length ∨ 2 ≤ ks.getD m' 3) ∧ (∀ i, i ≤ m → A' i = A i) ∧ (∀ e, m ≤ e → e < m' → ¬ 2 ≤ ks.getD e 3) ∧ W' m' = W m
  | 0, m, A, W, v, hd, hm, ht, hn => ⟨m, A, W, v, Nat.le_refl _, hm, ht, hn, .inl (by omega), fun _ _ => rfl, fun e h1 h2 => absurd h2 (by omega), rfl⟩
  | d + 1, m, A, W, v, hd, hm, ht, hn => by
    by_cases hk : 2 ≤ ks.getD m 3
    · exact ⟨m, A, W, v, Nat.le_refl _, hm, ht, hn, .inr hk, fun _ _ => rfl, fun e h1 h2 => absurd h2 (by omega), rfl⟩
    · have hlt : m < l.length := by omega
      rw [List.drop_eq_getElem_cons hlt] at hn
      unfold wpFlowR at hn
      rw [headD_drop] at hn
      rcases hn with ⟨u, w', h1, h2⟩ | ⟨h1, _⟩
      case inr => exact absurd h1 hk
      rw [List.tail_drop] at h2
      have hww : w' = W m := by
        rcases h1 with ⟨_, hs⟩ | ⟨_, _, hs⟩
        case inr => exact hs
        revert hs
        generalize ks.getD m 3 = k at *
        match k, hk with
        | 0, _ => exact fun hs => hs.1
        | 1, _ => exact fun hs => hs.1
        | n + 2, hk => exact absurd (by omega) hk
      have ho : l[m]? = some l[m] := List.getElem?_eq_getElem hlt
      have key := advance d (m + 1) (fun i => if i = m + 1 then (A m).put l[m].dst u else A i) (fun i => if i = m + 1 then w' else W i) (fun i => if i = m then u else v i) (by omega) (by omega)
        ⟨fun i o hi hoi => by
            by_cases him : i = m
            · subst him
              rw [ho] at hoi
              cases hoi
              simp
            · have h1 : i ≠ m := him
              simp only [show ¬ (i + 1 = m + 1) by omega, show ¬ (i = m + 1) by omega, if_false, him]
              exact ht.act i o (by omega) hoi,
          fun i o hi hoi hki => by
            by_cases him : i = m
            · subst him
              rw [ho] at hoi
              cases hoi
              simp only [show ¬ (i = i + 1) by omega, if_false, if_true]
              exact h1
            · simp only [show ¬ (i + 1 = m + 1) by omega, show ¬ (i = m + 1) by omega, if_false, him]
              exact ht.read i o (by omega) hoi hki,
          fun i hi hki => by
            by_cases him : i = m
            · subst him; omega
            · simp only [show ¬ (i + 1 = m + 1) by omega, show ¬ (i = m + 1) by omega, if_false]
              exact ht.mild i (by omega) hki⟩
        (by simpa using h2)
      obtain ⟨m', A', W', v', e1, e2, e3, e4, e5, e6, e7, e8⟩ := key
      refine ⟨m', A', W', v', by omega, e2, e3, e4, e5, fun i hi => ?_, fun e h1 h2 => ?_, ?_⟩
      · rw [e6 i (by omega), if_neg (by omega)]
      · by_cases hem : e = m
        · subst hem; exact hk
        · exact e7 e (by omega) h2
      · rw [e8, if_pos rfl, hww]

theorem rInv_fits {K : Act → World → Prop} {D : Nat → Prop} {a : Act} {w : World} (hok : FlowOk l ks) (inv : RInv P L K l ks D a w m A W v) {i : Nat} {o : Oper} (ho : l[i]? = some o) (him : i ≤ m) (hf : Fits l D i) (hnd : ¬ D i) :
    execOp a.eval o = execOp (A i).eval o ∧ Region.wanted o (yielded l.toArray a.tmps) = Region.wanted o (yielded l.toArray (A i).tmps) := by
  have hlt : i < l.length := (List.getElem?_eq_some_iff.1 ho).1
  have hml := inv.le
  have dom : ∀ k, D k → k < l.length := fun k hk => Nat.lt_of_lt_of_le (inv.dom k hk) hml
  have same : ∀ x ∈ o.looksAt l.toArray, a.tmps[x]? = (A i).tmps[x]? := by
    intro x hx
    by_cases hex : ∃ j, j < l.length ∧ fDst l j = some x
    · obtain ⟨j, hj, hjx⟩ := hex
      rcases hok.look D inv.closed i o x j ho hx hj hjx with ⟨h1, h2⟩ | ⟨h1, h2⟩
      case inr =>
        have hnj : ¬ D j := fun hD => hnd (h2 (fun oj hoj e he hb => inv.closed j oj hoj hD e he hb))
        have honly : ∀ k, k < l.length → fDst l k = some x → k = j := fun k hk hkx => by
          rcases Nat.lt_trichotomy k j with h | h | h
          · exact absurd hkx (hok.one j k x hj h hjx)
          · exact h
          · exact absurd hjx (hok.one k j x hk h hkx)
        rw [inv.rest x (fun k hk hkx => hnj (honly k (dom k hk) hkx ▸ hk))]
        have := inv.hist.between hml x 0 i (by omega) (fun k _ hk2 hkx => by have := honly k (by omega) hkx; omega)
        rw [Nat.zero_add] at this
        exact this.symm
      rw [inv.done j x (h2 hf) hjx]
      have := inv.hist.between hml x i (m - i) (by omega) (fun k hk1 hk2 hkx => hok.one k j x (by omega) (by omega) hkx hjx)
      rw [show i + (m - i) = m by omega] at this
      exact this
    · have hno : ∀ j, j < l.length → fDst l j ≠ some x := fun j hj e => hex ⟨j, hj, e⟩
      rw [inv.rest x (fun j hj => hno j (dom j hj))]
      have := inv.hist.between hml x 0 i (by omega) (fun k _ hk2 => hno k (by omega))
      rw [Nat.zero_add] at this
      exact this.symm
  constructor
  · refine execOp_congr o (fun cs b => Region.noSelect_spec hok.sel i o cs b (by simpa using ho)) (fun x hx => ?_)
    cases x with
    | tmp y =>
      have := same y (List.mem_append_left _ (List.mem_filterMap.2 ⟨.tmp y, by simpa using hx, rfl⟩))
      simp [Act.eval, this]
    | _ => rfl
  · unfold Region.wanted
    cases hg : o.guard with
    | none => rfl
    | some gw =>
      obtain ⟨g, b⟩ := gw
      simp only
      congr 1
      unfold yielded
      cases hd : (l.toArray[g]?).bind (·.dst) with
      | none => rfl
      | some y =>
        have := same y (List.mem_append_right _ (by simp only [hg]; rw [hd]; simp))
        simp only [Option.bind_some, this]

/-- One operation more has come up; the history goes on to m'. -/
theorem rInv_step {K : Act → World → Prop} {D D' : Nat → Prop} {a : Act} {w w' : World} {m' : Nat} {A' : Nat → Act} {W' : Nat → World} {v' : Nat → Value} (hok : FlowOk l ks) (inv : RInv P L K l ks D a w m A W v) {i : Nat} {o : Oper} {u : Value} (ho : l[i]? = some o) (hf : Fits l D i) (hnd : ¬ D i)
    (hD' : ∀ j, D' j ↔ D j ∨ j = i) (hmm : m ≤ m') (him : i < m') (hle : m' ≤ l.length) (ht : Hist P L ks l m' A' W' v') (hn : wpFlowR P l.toArray L K (ks.drop m') (l.drop m') (A' m') (W' m')) (hnx : m' = l.length ∨ 2 ≤ ks.getD m' 3) (hA : ∀ j, j ≤ m → A' j = A j)
    (hu : A' (i + 1) = (A' i).put o.dst u) (hw : w' = W' m') (heff : ∀ e, e < m' → 2 ≤ ks.getD e 3 → D' e) : RInv P L K l ks D' (a.put o.dst u) w' m' A' W' v' := by
  have hlt : i < l.length := (List.getElem?_eq_some_iff.1 ho).1
  have hml := inv.le
  have h0 : A' 0 = A 0 := hA 0 (by omega)
  refine ⟨hle, ht, hn, hnx, hw, ?_, ?_, heff, ?_, ?_, ?_, ?_⟩
  · intro j oj hoj hj e he hb
    rw [hD'] at hj ⊢
    rcases hj with hj | rfl
    · exact .inl (inv.closed j oj hoj hj e he hb)
    · exact .inl (hf oj hoj e he hb)
  · intro j hj
    rcases (hD' j).1 hj with hj | rfl
    · exact Nat.lt_of_lt_of_le (inv.dom j hj) hmm
    · exact him
  · rw [h0, ← inv.size]
    cases o.dst <;> simp [Act.put]
  · rw [h0, ← inv.defers]
    cases o.dst <;> rfl
  · intro j x hj hx
    have hfi : ∀ y, o.dst = some y → fDst l i = some y := fun y hy => by simp [fDst, ho, hy]
    rcases (hD' j).1 hj with hj | rfl
    · have hjm := inv.dom j hj
      have hne : o.dst ≠ some x := fun e => by
        have h1 := hfi x e
        rcases Nat.lt_trichotomy i j with h | h | h
        · exact hok.one j i x (by omega) h hx h1
        · subst h; exact hnd hj
        · exact hok.one i j x hlt h h1 hx
      have h2 := ht.between hle x m (m' - m) (by omega) (fun k hk1 hk2 hkx => hok.one k j x (by omega) (by omega) hkx hx)
      rw [show m + (m' - m) = m' by omega, hA m (Nat.le_refl _)] at h2
      rw [h2, ← inv.done j x hj hx]
      cases hd : o.dst with
      | none => rfl
      | some y =>
        have : y ≠ x := fun e => hne (by rw [hd, e])
        simp [Act.put, Array.getElem?_setIfInBounds_ne this]
    · have hd : o.dst = some x := by simpa [fDst, ho] using hx
      have h2 := ht.between hle x (j + 1) (m' - (j + 1)) (by omega) (fun k hk1 hk2 hkx => hok.one k j x (by omega) (by omega) hkx hx)
      rw [show j + 1 + (m' - (j + 1)) = m' by omega, hu] at h2
      rw [h2]
      have hsz := (ht.size hle j (by omega)).1
      simp only [hd, Act.put, Array.getElem?_setIfInBounds, inv.size, hsz, h0]
      by_cases hx' : x < (A 0).tmps.size
      · simp [hx']
      · simp [hx']
  · intro x hx
    have h1 := inv.rest x (fun j hj => hx j ((hD' j).2 (.inl hj)))
    have h2 := hx i ((hD' i).2 (.inr rfl))
    rw [h0, ← h1]
    cases hd : o.dst with
    | none => rfl
    | some y =>
      have : y ≠ x := fun e => h2 (by simp [fDst, ho, hd, e])
      simp [Act.put, Array.getElem?_setIfInBounds_ne this]

theorem flow_anyR {Q : Exit → Act → World → Prop} (hok : FlowOk l ks) (hr : ∀ w, L w w) (htr : ∀ a b c, L a b → L b c → L a c) :
    ∀ (fuel : Nat) (listed : Array Bool) (a : Act) (w : World), listed.size = l.length → listed.toList.count false ≤ fuel → (∃ m A W v, RInv P L (fun a w => Q .normal a w) l ks (fun i => listed.getD i false = true) a w m A W v) → wpAny P .any l.toArray Q fuel listed a w := by
  intro fuel
  have fin : ∀ (listed : Array Bool) (a : Act) (w : World), listed.size = l.length → (∃ m A W v, RInv P L (fun a w => Q .normal a w) l ks (fun i => listed.getD i false = true) a w m A W v) → Region.ready .any l.toArray listed = [] → Q .normal a w := by
    rintro listed a w hsz ⟨m, A, W, v, inv⟩ hrd
    have all : ∀ i, i < l.length → listed.getD i false = true := by
      intro i
      induction i using Nat.strongRecOn with
      | _ i ih =>
        intro hi
        cases hli : listed.getD i false with
        | true => rfl
        | false =>
          exfalso
          have hm : i ∈ Region.ready .any l.toArray listed := by
            rw [mem_ready]
            refine ⟨?_, l[i], by simp [hi], fun e he hb => ?_⟩
            · have hi' : i < listed.size := by omega
              simp [Array.getD, hi'] at hli ⊢
              exact hli
            · have hlt := hok.less i l[i] (List.getElem?_eq_getElem hi) e he hb
              exact ih e.on hlt (by omega)
          rw [hrd] at hm
          cases hm
    have hml : m = l.length := by
      have := inv.le
      rcases Nat.lt_or_ge m l.length with h | h
      · exact absurd (inv.dom m (all m h)) (by omega)
      · omega
    subst hml
    have ha : a = A l.length := by
      have hs := inv.hist.size (Nat.le_refl _) l.length (Nat.le_refl _)
      have htm : a.tmps = (A l.length).tmps := by
        apply Array.ext_getElem?
        intro x
        by_cases hex : ∃ j, j < l.length ∧ fDst l j = some x
        · obtain ⟨j, hj, hjx⟩ := hex
          exact inv.done j x (all j hj) hjx
        · have hno : ∀ j, j < l.length → fDst l j ≠ some x := fun j hj e => hex ⟨j, hj, e⟩
          rw [inv.rest x (fun j hj => hno j (inv.dom j hj))]
          have := inv.hist.between (Nat.le_refl _) x 0 l.length (by omega) (fun k _ hk2 => hno k (by omega))
          rw [Nat.zero_add] at this
          exact this.symm
      have hdf : a.defers = (A l.length).defers := inv.defers.trans hs.2.symm
      cases ha : a
      cases hb : A l.length
      simp_all
    have hn := inv.node
    rw [List.drop_length] at hn
    unfold wpFlowR at hn
    rw [ha, inv.world]
    exact hn
  induction fuel with
  | zero =>
    intro listed a w hsz hc inv
    have hrd : Region.ready .any l.toArray listed = [] := by
      cases hr' : Region.ready .any l.toArray listed with
      | nil => rfl
      | cons i r =>
        exfalso
        have hm : i ∈ Region.ready .any l.toArray listed := by rw [hr']; simp
        obtain ⟨h1, o, ho, _⟩ := mem_ready.1 hm
        have hi : i < listed.size := by
          rw [hsz]
          have := (Array.getElem?_eq_some_iff.1 ho).1
          simpa using this
        have hf : listed[i] = false := by simpa [Array.getD, hi] using h1
        have : 0 < listed.toList.count false := List.count_pos_iff.2 (by rw [← hf]; simp)
        omega
    exact ⟨hrd, fin listed a w hsz inv hrd⟩
  | succ fuel ih =>
    intro listed a w hsz hc inv0
    refine ⟨fun hrd => fin listed a w hsz inv0 hrd, fun i hi => ?_⟩
    obtain ⟨m, A, W, v, inv⟩ := inv0
    obtain ⟨h1, o, ho', hall⟩ := mem_ready.1 hi
    have ho : l[i]? = some o := by simpa using ho'
    have hlt : i < l.length := (List.getElem?_eq_some_iff.1 ho).1
    have hil : i < listed.size := by omega
    have hlf : listed[i] = false := by simpa [Array.getD, hil] using h1
    have hnd : ¬ listed.getD i false = true := by simp [Array.getD, hil, hlf]
    have hf : Fits l (fun i => listed.getD i false = true) i := fun o' ho'' e he hb => by
      rw [ho] at ho''
      cases ho''
      exact hall e he hb
    have hD' : ∀ j, (listed.setIfInBounds i true).getD j false = true ↔ listed.getD j false = true ∨ j = i := by
      intro j
      by_cases hj : j = i
      · subst hj; simp [Array.getD, hil]
      · have : i ≠ j := fun e => hj e.symm
        simp only [hj, or_false]
        by_cases hjs : j < listed.size
        · simp [Array.getD, hjs, Array.getElem_setIfInBounds_ne, this]
        · simp [Array.getD, hjs]
    have hcnt : (listed.setIfInBounds i true).toList.count false ≤ fuel := by
      rw [Array.toList_setIfInBounds, List.count_set (by simpa using hil)]
      have : listed.toList[i]'(by simpa using hil) = false := by simpa using hlf
      rw [this]
      simp only [show (true == false) = false from rfl, Bool.false_eq_true, if_false, beq_self_eq_true, if_true]
      omega
    -- it is the next one that changes the world, or one ahead of it
    have him : i ≤ m := by
      rcases Nat.lt_or_ge m i with h | h
      · rcases inv.next with h2 | h2
        · omega
        · exact absurd (inv.dom m (hok.eff _ inv.closed i m hlt h h2 hf)) (by omega)
      · exact h
    obtain ⟨hex, hwant⟩ := rInv_fits hok inv ho him hf hnd
    unfold wpOp
    rw [ho']
    simp only [hwant]
    rcases Nat.lt_or_ge i m with hi2 | hi2
    · -- it only reads
      have hk : ¬ 2 ≤ ks.getD i 3 := fun hk => hnd (inv.eff i hi2 hk)
      have go : wpAny P .any l.toArray Q fuel (listed.setIfInBounds i true) (a.put o.dst (v i)) w :=
        ih _ _ _ (by simpa using hsz) hcnt ⟨m, A, W, v, rInv_step hok inv ho hf hnd hD' (Nat.le_refl _) hi2 inv.le inv.hist inv.node inv.next (fun _ _ => rfl) (inv.hist.act i o hi2 ho) inv.world (fun e he hke => (hD' e).2 (.inl (inv.eff e he hke)))⟩
      have hstep := inv.hist.read i o hi2 ho hk
      rcases hstep with ⟨hwt, hstep⟩ | ⟨hwt, hv, hsame⟩
      case inr =>
        rw [if_neg (by simp [hwt]), ← hv]
        exact go
      rw [if_pos hwt]
      refine .inl ?_
      unfold Oper.wp
      rw [hex]
      have hdoes : Does P o (A i) w (v i) w := by
        have hlat : ks.getD i 3 = 1 → L (W i) w := by
          intro hk1
          rw [inv.world]
          have := inv.hist.later inv.le hr htr i (m - i) (by omega) (fun j h1 h2 hkj => by
            have hji : i < j := by
              rcases Nat.lt_or_ge i j with h | h
              · exact h
              · have : j = i := by omega
                subst this
                omega
            have hDj := inv.eff j (by omega) (by omega)
            have hfj : Fits l (fun i => listed.getD i false = true) j := fun oj hoj e he hb => inv.closed j oj hoj hDj e he hb
            exact hnd (hok.hard _ inv.closed j i (by have := inv.le; omega) hji hkj hk1 hfj))
          rw [show i + (m - i) = m by omega] at this
          exact this
        revert hstep hlat
        generalize ks.getD i 3 = k at *
        match k, hk with
        | 0, _ => exact fun hs _ => .inl (hs.2 w)
        | 1, _ => exact fun hs hl => hs.2 w (hl rfl)
        | n + 2, hk => exact absurd (by omega) hk
      rcases hdoes with hd | ⟨hd, hv⟩ | ⟨f, args, hd, hcall⟩
      · rw [hd]; exact go
      · rw [hd]
        have := go
        rw [hv] at this
        exact this
      · rw [hd]
        refine hcall.mono ?_
        rintro e w'' ⟨rfl, rfl⟩
        exact go
    · -- it changes the world
      have him' : i = m := by omega
      subst him'
      have hk : 2 ≤ ks.getD i 3 := by
        rcases inv.next with h | h
        · omega
        · exact h
      have hn := inv.node
      rw [List.drop_eq_getElem_cons hlt] at hn
      have hoi : l[i] = o := by
        have := List.getElem?_eq_getElem hlt
        rw [ho] at this
        exact (Option.some.inj this).symm
      rw [hoi] at hn
      unfold wpFlowR at hn
      rw [headD_drop, List.tail_drop] at hn
      have go : ∀ u w', (ks.getD i 3 = 2 → L w w') → wpFlowR P l.toArray L (fun a w => Q .normal a w) (ks.drop (i + 1)) (l.drop (i + 1)) ((A i).put o.dst u) w' → wpAny P .any l.toArray Q fuel (listed.setIfInBounds i true) (a.put o.dst u) w' := by
        intro u w' hL hnode
        have ht : Hist P L ks l (i + 1) (fun j => if j = i + 1 then (A i).put o.dst u else A j) (fun j => if j = i + 1 then w' else W j) (fun j => if j = i then u else v j) :=
          ⟨fun j oj hj hoj => by
              by_cases hji : j = i
              · subst hji
                rw [ho] at hoj
                cases hoj
                simp
              · simp only [show ¬ (j + 1 = i + 1) by omega, show ¬ (j = i + 1) by omega, if_false, hji]
                exact inv.hist.act j oj (by omega) hoj,
            fun j oj hj hoj hkj => by
              by_cases hji : j = i
              · subst hji; exact absurd hk hkj
              · simp only [show ¬ (j + 1 = i + 1) by omega, show ¬ (j = i + 1) by omega, if_false, hji]
                exact inv.hist.read j oj (by omega) hoj hkj,
            fun j hj hkj => by
              by_cases hji : j = i
              · subst hji
                simp only [if_true, show ¬ (j = j + 1) by omega, if_false]
                rw [← inv.world]
                exact hL hkj
              · simp only [show ¬ (j + 1 = i + 1) by omega, show ¬ (j = i + 1) by omega, if_false]
                exact inv.hist.mild j (by omega) hkj⟩
        obtain ⟨m', A', W', v', e1, e2, e3, e4, e5, e6, e7, e8⟩ := advance (K := fun a w => Q .normal a w) _ (i + 1) _ _ _ rfl (by omega) ht (by simpa using hnode)
        refine ih _ _ _ (by simpa using hsz) hcnt ⟨m', A', W', v', rInv_step hok inv ho hf hnd hD' (by omega) (by omega) e2 e3 e4 e5 (fun j hj => ?_) ?_ ?_ (fun e he hke => ?_)⟩
        · rw [e6 j (by omega), if_neg (by omega)]
        · rw [e6 (i + 1) (Nat.le_refl _), e6 i (by omega), if_pos rfl, if_neg (by omega)]
        · rw [e8, if_pos rfl]
        · rw [hD']
          rcases Nat.lt_trichotomy e i with h | h | h
          · exact .inl (inv.eff e h hke)
          · exact .inr h
          · exact absurd hke (e7 e (by omega) he)
      rcases hn with ⟨u, w', hone, hnode⟩ | ⟨_, hwt, f, args, hd, hcall⟩
      · rcases hone with ⟨hwt, hstep⟩ | ⟨hwt, hv, hsame⟩
        case inr =>
          rw [if_neg (by simp [hwt])]
          subst hv
          rw [hsame, ← inv.world] at hnode
          exact go _ _ (fun _ => hr _) hnode
        rw [if_pos hwt]
        refine .inl ?_
        unfold Oper.wp
        rw [hex]
        have hdoes : Does P o (A i) (W i) u w' ∧ (ks.getD i 3 = 2 → L (W i) w') := by
          revert hstep
          generalize ks.getD i 3 = k at *
          match k, hk with
          | 2, _ => exact fun hs => ⟨hs.2, fun _ => hs.1⟩
          | n + 3, _ => exact fun hs => ⟨hs, fun h => absurd h (by omega)⟩
        obtain ⟨hdoes, hL⟩ := hdoes
        rw [← inv.world] at hdoes hL
        rcases hdoes with hd | ⟨hd, hv⟩ | ⟨f, args, hd, hcall⟩
        · rw [hd]; exact go _ _ hL hnode
        · rw [hd]
          have := go _ _ hL hnode
          rw [hv] at this
          exact this
        · rw [hd]
          refine hcall.mono ?_
          rintro e w'' ⟨rfl, rfl⟩
          exact go _ _ hL hnode
      · rw [if_pos hwt]
        refine .inl ?_
        unfold Oper.wp
        rw [hex]
        rw [← inv.world] at hd hcall
        rw [hd]
        refine hcall.mono ?_
        rintro e w'' ⟨u, rfl, hL, hnode⟩
        exact go _ _ hL hnode

/-- A region that draws its order, gone through in the order of its text. -/
theorem wp_region_flowR {Q : Exit → Act → World → Prop} {id : Nat} {a : Act} {w : World} (L : World → World → Prop) (ks : List Nat) (hm : P.follows .mixedOrders = true) (hB : flowB l ks = true) (hr : ∀ w, L w w) (htr : ∀ a b c, L a b → L b c → L a c)
    (h : wpFlowR P l.toArray L (fun a w => Q .normal a w) ks l a w.drew) : (Code.region id l.toArray true).wp P Q a w := by
  have hok := flowOk_of hB
  refine wp_region_any hm ?_
  have hnone : ∀ i, (Array.replicate l.toArray.size false).getD i false = false := fun i => by
    by_cases hi : i < l.toArray.size
    · simp [Array.getD]
    · simp [Array.getD]
  obtain ⟨m, A, W, v, e1, e2, e3, e4, e5, e6, e7, e8⟩ := advance (P := P) (L := L) (ks := ks) (l := l) (K := fun a w => Q .normal a w) _ 0 (fun _ => a) (fun _ => w.drew) (fun _ => undef) rfl (Nat.zero_le _) ⟨fun i o hi => absurd hi (by omega), fun i o hi => absurd hi (by omega), fun i hi => absurd hi (by omega)⟩ (by simpa using h)
  have h0 : A 0 = a := e6 0 (Nat.le_refl _)
  refine flow_anyR hok hr htr l.toArray.size (Array.replicate l.toArray.size false) a w.drew (by simp) (by simp) ⟨m, A, W, v, e2, e3, e4, e5, e8.symm, fun i o _ hi => ?_, fun i hi => ?_, fun e he hke => absurd hke (e7 e (by omega) he), by rw [h0], by rw [h0], fun j x hj => ?_, fun x _ => by rw [h0]⟩
  · rw [hnone] at hi; cases hi
  · rw [hnone] at hi; cases hi
  · rw [hnone] at hj; cases hj

variable {ops : Array Oper} {K : Act → World → Prop} {r : List Oper} {o : Oper} {a : Act} {w : World}

theorem fr0 {u : Value} (hw : Region.wanted o (yielded ops a.tmps) = true) (hrun : ∀ x, (execOp a.eval o).run P x = .ok (.value u) x) (h : wpFlowR P ops L K ks r (a.put o.dst u) w) : wpFlowR P ops L K (0 :: ks) (o :: r) a w :=
  .inl ⟨u, w, .inl ⟨hw, rfl, hrun⟩, h⟩
theorem fr1 {u : Value} (hw : Region.wanted o (yielded ops a.tmps) = true) (hrun : ∀ x, L w x → (execOp a.eval o).run P x = .ok (.value u) x) (h : wpFlowR P ops L K ks r (a.put o.dst u) w) : wpFlowR P ops L K (1 :: ks) (o :: r) a w :=
  .inl ⟨u, w, .inl ⟨hw, rfl, fun x hx => .inl (hrun x hx)⟩, h⟩
theorem fr1c {u : Value} (hw : Region.wanted o (yielded ops a.tmps) = true) (hrun : ∀ x, L w x → Does P o a x u x) (h : wpFlowR P ops L K ks r (a.put o.dst u) w) : wpFlowR P ops L K (1 :: ks) (o :: r) a w :=
  .inl ⟨u, w, .inl ⟨hw, rfl, hrun⟩, h⟩
theorem fr2 {u : Value} {w' : World} (hw : Region.wanted o (yielded ops a.tmps) = true) (hL : L w w') (hd : Does P o a w u w') (h : wpFlowR P ops L K ks r (a.put o.dst u) w') : wpFlowR P ops L K (2 :: ks) (o :: r) a w :=
  .inl ⟨u, w', .inl ⟨hw, hL, hd⟩, h⟩
theorem fr3 {u : Value} {w' : World} (hw : Region.wanted o (yielded ops a.tmps) = true) (hd : Does P o a w u w') (h : wpFlowR P ops L K ks r (a.put o.dst u) w') : wpFlowR P ops L K (3 :: ks) (o :: r) a w :=
  .inl ⟨u, w', .inl ⟨hw, hd⟩, h⟩
/-- A call whose contract alone is known, and which leaves what is there. -/
theorem fr2c {f : FuncId} {args : Array Value} {R : Ending → World → Prop} (hw : Region.wanted o (yielded ops a.tmps) = true) (hd : (execOp a.eval o).run P w = .ok (.enter f args) w) (hc : Calls P f args w R) (h : ∀ e w', R e w' → ∃ u, e = .returned u ∧ L w w' ∧ wpFlowR P ops L K ks r (a.put o.dst u) w') : wpFlowR P ops L K (2 :: ks) (o :: r) a w :=
  .inr ⟨Nat.le_refl _, hw, f, args, hd, hc.mono fun e w' hR => by
    obtain ⟨u, h1, h2, h3⟩ := h e w' hR
    exact ⟨u, h1, fun _ => h2, h3⟩⟩
/-- A call whose contract alone is known. -/
theorem fr3c {f : FuncId} {args : Array Value} {R : Ending → World → Prop} (hw : Region.wanted o (yielded ops a.tmps) = true) (hd : (execOp a.eval o).run P w = .ok (.enter f args) w) (hc : Calls P f args w R) (h : ∀ e w', R e w' → ∃ u, e = .returned u ∧ wpFlowR P ops L K ks r (a.put o.dst u) w') : wpFlowR P ops L K (3 :: ks) (o :: r) a w :=
  .inr ⟨by show 2 ≤ 3; omega, hw, f, args, hd, hc.mono fun e w' hR => by
    obtain ⟨u, h1, h3⟩ := h e w' hR
    exact ⟨u, h1, fun h => absurd h (by show ¬ 3 = 2; omega), h3⟩⟩
theorem frx {k : Nat} (hw : Region.wanted o (yielded ops a.tmps) = false) (h : wpFlowR P ops L K ks r (a.put o.dst undef) w) : wpFlowR P ops L K (k :: ks) (o :: r) a w :=
  .inl ⟨undef, w, .inr ⟨hw, rfl, rfl⟩, h⟩
theorem frnil {ks : List Nat} (h : K a w) : wpFlowR P ops L K ks [] a w := by cases ks <;> exact h
end
end Go.Proofs.Ytoccnaebckcfmaa
end
