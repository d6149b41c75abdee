/- A disk in memory: its seven cells, its two maps and its row of pending writes, said by a plain state; which blocks a call may change; the laws of the operations on sectors. -/
import Derived.Test.YtoccnaebckcfmaaProg
import Derived.Test.YtoccnaebckcfmaaMaps
import Derived.Maps.AppendAt
import Derived.Deep.MidRow
import Derived.Deep.WholeRow
import Derived.Lib.Hide
namespace Go.Proofs.Ytoccnaebckcfmaa
open Go.RowKit
open Go.ChangeMaps (setBlock)

/-- All blocks of w but those on the list are as they were. -/
structure Only (F : List Nat) (w w' : World) : Prop where
  os : w'.os = w.os
  tape : w'.tape = w.tape
  output : w'.output = w.output
  size : w.heap.size ≤ w'.heap.size
  block : ∀ k, k < w.heap.size → k ∉ F → w'.heap[k]? = w.heap[k]?

theorem Only.refl (F : List Nat) (w : World) : Only F w w := ⟨rfl, rfl, rfl, Nat.le_refl _, fun _ _ _ => rfl⟩
theorem Only.trans {F F' : List Nat} {a b c : World} (h : Only F a b) (k : Only F' b c) (hF : ∀ x ∈ F', x ∈ F ∨ a.heap.size ≤ x) : Only F a c :=
  ⟨k.os.trans h.os, k.tape.trans h.tape, k.output.trans h.output, Nat.le_trans h.size k.size, fun i hi hn =>
    (k.block i (Nat.lt_of_lt_of_le hi h.size) (fun hx => by rcases hF i hx with h1 | h1; exact hn h1; omega)).trans (h.block i hi hn)⟩
theorem Only.mono {F F' : List Nat} {a b : World} (h : Only F a b) (hF : ∀ x ∈ F, x ∈ F') : Only F' a b := ⟨h.os, h.tape, h.output, h.size, fun k hk hn => h.block k hk (fun hx => hn (hF k hx))⟩
theorem Only.drew {F : List Nat} {a b : World} (h : Only F a b) : Only F a b.drew := ⟨h.os, h.tape, h.output, h.size, h.block⟩
theorem Only.alloc {F : List Nat} {a b : World} (h : Only F a b) (o : Obj) : Only F a (b.alloc o) :=
  ⟨h.os, h.tape, h.output, Nat.le_trans h.size (by simp), fun k hk hn => by rw [← h.block k hk hn]; exact Below.heap_alloc _ _ _ (Nat.lt_of_lt_of_le hk h.size)⟩
theorem Only.setCell {F : List Nat} {a b : World} (h : Only F a b) {p : Addr} (hp : p.block ∈ F ∨ a.heap.size ≤ p.block) (v : Value) : Only F a (b.setCell p v) :=
  ⟨h.os, h.tape, h.output, by simpa using h.size, fun k hk hn => by
    rw [← h.block k hk hn]; exact Below.heap_setCell _ _ _ _ (fun e => by subst e; rcases hp with hp | hp; exact hn hp; omega)⟩
theorem Only.setBlock {F : List Nat} {a b : World} (h : Only F a b) {g : Nat} (hp : g ∈ F ∨ a.heap.size ≤ g) (o : Obj) : Only F a (setBlock b g o) :=
  ⟨h.os, h.tape, h.output, by simpa [Go.ChangeMaps.setBlock] using h.size, fun k hk hn => by
    rw [← h.block k hk hn]
    have hne : g ≠ k := fun e => by subst e; rcases hp with hp | hp; exact hn hp; omega
    simp [Go.ChangeMaps.setBlock, hne]⟩
theorem Only.grown {F : List Nat} {a b c : World} {row : Option Nat} (h : Only F a b) (hg : b.grownBy c row) (hr : ∀ k, row = some k → k ∈ F ∨ a.heap.size ≤ k) : Only F a c :=
  ⟨hg.os.trans h.os, hg.tape.trans h.tape, hg.output.trans h.output, Nat.le_trans h.size hg.size, fun k hk hn =>
    (hg.block k (Nat.lt_of_lt_of_le hk h.size) (fun e => by rcases hr k e.symm with h1 | h1; exact hn h1; omega)).trans (h.block k hk hn)⟩
theorem Only.below {F : List Nat} {a b : World} (h : Only F a b) {B : Nat} (hB : B ≤ a.heap.size) (hF : ∀ x ∈ F, B ≤ x) : Below B a b :=
  ⟨h.os, h.tape, h.output, h.size, fun k hk => h.block k (Nat.lt_of_lt_of_le hk hB) (fun hx => by have := hF k hx; omega)⟩

/-- A sector's cells. -/
def SecOk (c : Array Value) : Prop := c.size = 64 ∧ c.all (·.oneCell') = true
def Z : Array Value := Array.replicate 64 (.int .u8 0)
theorem Z_ok : SecOk Z := ⟨by simp [Z], by decide +kernel⟩

structure St where
  n : Int
  on : Bool
  fuse : Int
  steps : Int
  now : Int → Option (Array Value)
  sure : Int → Option (Array Value)
  pend : List (Int × Array Value)

structure StOk (S : St) : Prop where
  n0 : 0 ≤ S.n
  n1 : S.n ≤ 8192
  s0 : 0 ≤ S.steps
  f1 : S.fuse ≤ 9223372036854775807
  now : ∀ i v, S.now i = some v → SecOk v
  sure : ∀ i v, S.sure i = some v → SecOk v
  pend : ∀ p ∈ S.pend, SecOk p.2

def wcells (p : Int × Array Value) : List Value := .int .i64 p.1 :: p.2.toList

def drow (S : St) (mn ms : Nat) (pv : Value) : Array Value := #[.int .i64 S.n, .bool S.on, .int .i64 S.fuse, .int .i64 S.steps, .map (some mn), .map (some ms), pv]

structure DiskAt (w : World) (b mn ms : Nat) (pv : Value) (S : St) : Prop where
  row : w.heap[b]? = some (.cells (drow S mn ms pv) 91 (0, 0))
  now : MapAt w mn S.now
  sure : MapAt w ms S.sure
  pend : w.ownsRow 0 96 65 pv S.pend.length (S.pend.flatMap wcells)
  ne : mn ≠ ms
  ok : StOk S

def foot (b mn ms : Nat) (pv : Value) : List Nat := b :: mn :: ms :: pv.ownBlock.toList

/-- At block b lies a disk in the state S; all of it lies in the blocks F. -/
def DAt (w : World) (b : Nat) (F : List Nat) (S : St) : Prop := ∃ mn ms pv, DiskAt w b mn ms pv S ∧ F = foot b mn ms pv

/-- Behind a call on the disk at b: its new state; nothing but its own blocks has changed. -/
def DPost (w w' : World) (b : Nat) (F : List Nat) (S' : St) : Prop := ∃ F', DAt w' b F' S' ∧ (∀ x ∈ F', x ∈ F ∨ w.heap.size ≤ x) ∧ Only F w w'

theorem ownsRow_congr {w w' : World} {e : TypeId} {size n : Nat} {v : Value} {xs : List Value} (h : w.ownsRow 0 e size v n xs) (he : ∀ g, v.ownBlock = some g → w'.heap[g]? = w.heap[g]?) : w'.ownsRow 0 e size v n xs := by
  obtain ⟨h1, h2⟩ := h
  refine ⟨h1, ?_⟩
  rcases h2 with h2 | ⟨g, cap, cur, hv, hg, hh, r⟩
  · exact .inl h2
  · exact .inr ⟨g, cap, cur, hv, hg, (he g (by rw [hv]; rfl)).trans hh, r⟩

theorem diskAt_congr {w w' : World} {b mn ms : Nat} {pv : Value} {S : St} (h : DiskAt w b mn ms pv S) (he : ∀ x ∈ foot b mn ms pv, w'.heap[x]? = w.heap[x]?) : DiskAt w' b mn ms pv S :=
  ⟨(he b (by simp [foot])).trans h.row, mapAt_congr h.now (he mn (by simp [foot])), mapAt_congr h.sure (he ms (by simp [foot])), ownsRow_congr h.pend (fun g hg => he g (by simp [foot, hg])), h.ne, h.ok⟩

theorem dAt_congr {w w' : World} {b : Nat} {F : List Nat} {S : St} (h : DAt w b F S) (he : ∀ x ∈ F, w'.heap[x]? = w.heap[x]?) : DAt w' b F S := by
  obtain ⟨mn, ms, pv, h, rfl⟩ := h
  exact ⟨mn, ms, pv, diskAt_congr h he, rfl⟩

theorem diskAt_lt {w : World} {b mn ms : Nat} {pv : Value} {S : St} (h : DiskAt w b mn ms pv S) : ∀ x ∈ foot b mn ms pv, x < w.heap.size := by
  intro x hx
  simp only [foot, List.mem_cons, Option.mem_toList] at hx
  rcases hx with rfl | rfl | rfl | hx
  · exact (Array.getElem?_eq_some_iff.1 h.row).1
  · exact mapAt_lt h.now
  · exact mapAt_lt h.sure
  · exact (h.pend.lt x hx).2

theorem dAt_lt {w : World} {b : Nat} {F : List Nat} {S : St} (h : DAt w b F S) : ∀ x ∈ F, x < w.heap.size := by
  obtain ⟨mn, ms, pv, h, rfl⟩ := h
  exact diskAt_lt h

theorem DAt.only {w w' : World} {b : Nat} {F G : List Nat} {S : St} (h : DAt w b F S) (ho : Only G w w') (hd : ∀ x ∈ F, x ∉ G) : DAt w' b F S :=
  dAt_congr h (fun x hx => ho.block x (dAt_lt h x hx) (hd x hx))

theorem DAt.alloc {w : World} {b : Nat} {F : List Nat} {S : St} (h : DAt w b F S) (o : Obj) : DAt (w.alloc o) b F S := h.only ((Only.refl [] w).alloc o) (by simp)
theorem DAt.drew {w : World} {b : Nat} {F : List Nat} {S : St} (h : DAt w b F S) : DAt w.drew b F S := h.only (Only.refl [] w).drew (by simp)

theorem DPost.trans {w w1 w2 : World} {b : Nat} {F : List Nat} {S2 : St} (h : Only F w w1) {F1 : List Nat} (h1 : ∀ x ∈ F1, x ∈ F ∨ w.heap.size ≤ x) (h2 : DPost w1 w2 b F1 S2) : DPost w w2 b F S2 := by
  obtain ⟨F2, d2, g2, o2⟩ := h2
  refine ⟨F2, d2, fun x hx => ?_, h.trans o2 h1⟩
  rcases g2 x hx with h3 | h3
  · exact h1 x h3
  · exact .inr (Nat.le_trans h.size h3)

/-- The seven cells of a disk, for a walk. -/
theorem DiskAt.cells {w : World} {b mn ms : Nat} {pv : Value} {S : St} (h : DiskAt w b mn ms pv S) :
    w.cell? ⟨b, 0, none⟩ = some (.int .i64 S.n) ∧ w.cell? ⟨b, 1, none⟩ = some (.bool S.on) ∧ w.cell? ⟨b, 2, none⟩ = some (.int .i64 S.fuse) ∧ w.cell? ⟨b, 3, none⟩ = some (.int .i64 S.steps) ∧
    w.cell? ⟨b, 4, none⟩ = some (.map (some mn)) ∧ w.cell? ⟨b, 5, none⟩ = some (.map (some ms)) ∧ w.cell? ⟨b, 6, none⟩ = some pv ∧ (∀ i, w.frozen? ⟨b, i, none⟩ = false) := by
  have hr := h.row
  refine ⟨?_, ?_, ?_, ?_, ?_, ?_, ?_, ?_⟩
  all_goals first
    | (rw [cell_of_row w b _ _ _ _ hr]; rfl)
    | (intro i; simp [World.frozen?, hr])

/-- One cell of the disk's row is written. -/
theorem heap_setCell_row {w : World} {b : Nat} {cs : Array Value} {t : TypeId} (h : w.heap[b]? = some (.cells cs t (0, 0))) (i : Nat) (v : Value) : (w.setCell ⟨b, i, none⟩ v).heap[b]? = some (.cells (cs.setIfInBounds i v) t (0, 0)) := by
  rw [setCell_eq_setRow w b i cs t (0, 0) v h]
  exact setRow_heap w b cs _ t _ h

theorem DiskAt.ne_now {w : World} {b mn ms : Nat} {pv : Value} {S : St} (h : DiskAt w b mn ms pv S) : b ≠ mn := fun e => by
  obtain ⟨es, c, hb, _⟩ := h.now
  rw [← e, h.row] at hb
  cases hb
theorem DiskAt.ne_sure {w : World} {b mn ms : Nat} {pv : Value} {S : St} (h : DiskAt w b mn ms pv S) : b ≠ ms := fun e => by
  obtain ⟨es, c, hb, _⟩ := h.sure
  rw [← e, h.row] at hb
  cases hb
theorem ownsRow_block {w : World} {e : TypeId} {size n g : Nat} {v : Value} {xs : List Value} (h : w.ownsRow 0 e size v n xs) (hg : v.ownBlock = some g) : ∃ cur, w.heap[g]? = some (.cells cur e (0, 0)) := by
  obtain ⟨h1, h2⟩ := h
  rcases h2 with ⟨h2, _⟩ | ⟨g', cap, cur, hv, _, hh, _⟩
  · rw [h2] at hg; simp [Value.ownBlock] at hg
  · rw [hv] at hg
    simp [Value.ownBlock] at hg
    subst hg
    exact ⟨cur, hh⟩
theorem DiskAt.ne_pend {w : World} {b mn ms g : Nat} {pv : Value} {S : St} (h : DiskAt w b mn ms pv S) (hg : pv.ownBlock = some g) : g ≠ b ∧ g ≠ mn ∧ g ≠ ms := by
  obtain ⟨cur, hc⟩ := ownsRow_block h.pend hg
  refine ⟨fun e => ?_, fun e => ?_, fun e => ?_⟩
  · rw [e, h.row] at hc; simp at hc
  · obtain ⟨es, c, hb, _⟩ := h.now
    rw [e, hb] at hc; simp at hc
  · obtain ⟨es, c, hb, _⟩ := h.sure
    rw [e, hb] at hc; simp at hc

/-- Numbers and flags of the disk's row have changed, nothing else of it. -/
theorem DiskAt.scalar {w w' : World} {b mn ms : Nat} {pv : Value} {S S' : St} (h : DiskAt w b mn ms pv S) (hrow : w'.heap[b]? = some (.cells (drow S' mn ms pv) 91 (0, 0))) (ho : Only [b] w w')
    (e1 : S'.now = S.now) (e2 : S'.sure = S.sure) (e3 : S'.pend = S.pend) (ok : StOk S') : DiskAt w' b mn ms pv S' := by
  have lt := diskAt_lt h
  refine ⟨hrow, ?_, ?_, ?_, h.ne, ok⟩
  · rw [e1]; exact mapAt_congr h.now (ho.block mn (lt mn (by simp [foot])) (by simpa using h.ne_now.symm))
  · rw [e2]; exact mapAt_congr h.sure (ho.block ms (lt ms (by simp [foot])) (by simpa using h.ne_sure.symm))
  · rw [e3]; exact ownsRow_congr h.pend (fun g hg => ho.block g (lt g (by simp [foot, hg])) (by simpa using (h.ne_pend hg).1))

theorem DiskAt.post {w w' : World} {b mn ms : Nat} {pv : Value} {S S' : St} (_h : DiskAt w b mn ms pv S) (h' : DiskAt w' b mn ms pv S') {G : List Nat} (ho : Only G w w') (hG : ∀ x ∈ G, x ∈ foot b mn ms pv) : DPost w w' b (foot b mn ms pv) S' :=
  ⟨_, ⟨mn, ms, pv, h', rfl⟩, fun _ hx => .inl hx, ho.mono hG⟩

end Go.Proofs.Ytoccnaebckcfmaa
