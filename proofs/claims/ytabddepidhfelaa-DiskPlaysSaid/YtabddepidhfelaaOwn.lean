/- Things in memory that share no block: a call on one of them leaves the others as they were. -/
import Derived.Test.YtabddepidhfelaaC6
set_option linter.unusedSimpArgs false
namespace Go.Proofs.Ytabddepidhfelaa
open Go.RowKit

structure Res where
  G : List Nat
  P : World → Prop
  stable : ∀ w w', (∀ x ∈ G, w'.heap[x]? = w.heap[x]?) → P w → P w'

def DRes (b : Nat) (F : List Nat) (S : St) : Res := ⟨F, fun w => DAt w b F S, fun _ _ he h => dAt_congr h he⟩
def BRes (g : Nat) (o : Obj) : Res := ⟨[g], fun w => w.heap[g]? = some o, fun _ _ he h => (he g (by simp)).trans h⟩

structure Has (w0 w : World) (Rs : List Res) : Prop where
  only : Only [] w0 w
  each : ∀ r ∈ Rs, r.P w ∧ ∀ x ∈ r.G, w0.heap.size ≤ x ∧ x < w.heap.size
  apart : Rs.Pairwise (fun r s => ∀ x ∈ r.G, x ∉ s.G)

theorem Has.start (w : World) : Has w w [] := ⟨Only.refl _ _, by simp, List.Pairwise.nil⟩

theorem Has.turn {w0 w w' : World} {r r' : Res} {Rs : List Res} (h : Has w0 w (r :: Rs)) (ho : Only r.G w w') (hP : r'.P w') (hG : ∀ x ∈ r'.G, (x ∈ r.G ∨ w.heap.size ≤ x) ∧ x < w'.heap.size) : Has w0 w' (r' :: Rs) := by
  obtain ⟨h1, h2⟩ := List.pairwise_cons.1 h.apart
  have hr := h.each r (by simp)
  have osz := ho.size
  have wsz := h.only.size
  refine ⟨h.only.trans ho (fun x hx => .inr (hr.2 x hx).1), fun s hs => ?_, List.pairwise_cons.2 ⟨fun s hs x hx hxs => ?_, h2⟩⟩
  · rcases List.mem_cons.1 hs with rfl | hs
    · refine ⟨hP, fun x hx => ⟨?_, (hG x hx).2⟩⟩
      rcases (hG x hx).1 with h3 | h3
      · exact (hr.2 x h3).1
      · omega
    · have hs' := h.each s (by simp [hs])
      refine ⟨s.stable w w' (fun x hx => ho.block x (hs'.2 x hx).2 (fun hxr => h1 s hs x hxr hx)) hs'.1, fun x hx => ⟨(hs'.2 x hx).1, Nat.lt_of_lt_of_le (hs'.2 x hx).2 osz⟩⟩
  · rcases (hG x hx).1 with h3 | h3
    · exact h1 s hs x h3 hxs
    · have := ((h.each s (by simp [hs])).2 x hxs).2
      omega

theorem Has.disk {w0 w w' : World} {b : Nat} {F : List Nat} {S S' : St} {Rs : List Res} (h : Has w0 w (DRes b F S :: Rs)) (hp : DPost w w' b F S') : ∃ F', Has w0 w' (DRes b F' S' :: Rs) := by
  obtain ⟨F', d, f, o⟩ := hp
  exact ⟨F', h.turn (r' := DRes b F' S') o d (fun x hx => ⟨f x hx, dAt_lt d x hx⟩)⟩

theorem Has.dat {w0 w : World} {b : Nat} {F : List Nat} {S : St} {Rs : List Res} (h : Has w0 w (DRes b F S :: Rs)) : DAt w b F S := (h.each (DRes b F S) (by simp)).1
theorem Has.blk {w0 w : World} {g : Nat} {o : Obj} {Rs : List Res} (h : Has w0 w Rs) (hm : BRes g o ∈ Rs) : w.heap[g]? = some o := (h.each _ hm).1

theorem Has.drop {w0 w : World} {r : Res} {Rs : List Res} (h : Has w0 w (r :: Rs)) : Has w0 w Rs := ⟨h.only, fun s hs => h.each s (by simp [hs]), (List.pairwise_cons.1 h.apart).2⟩

theorem Has.swap {w0 w : World} {r s : Res} {Rs : List Res} (h : Has w0 w (r :: s :: Rs)) : Has w0 w (s :: r :: Rs) := by
  obtain ⟨h1, h2⟩ := List.pairwise_cons.1 h.apart
  obtain ⟨h3, h4⟩ := List.pairwise_cons.1 h2
  refine ⟨h.only, fun q hq => h.each q (by simp at hq ⊢; rcases hq with h | h | h <;> simp [h]), List.pairwise_cons.2 ⟨fun q hq x hx hxq => ?_, List.pairwise_cons.2 ⟨fun q hq => h1 q (by simp [hq]), h4⟩⟩⟩
  rcases List.mem_cons.1 hq with rfl | hq
  · exact h1 s (by simp) x hxq hx
  · exact h3 q hq x hx hxq

/-- A new block beside all. -/
theorem Has.more {w0 w w' : World} {Rs : List Res} (h : Has w0 w Rs) (ho : Only [] w w') (r : Res) (hP : r.P w') (hG : ∀ x ∈ r.G, w.heap.size ≤ x ∧ x < w'.heap.size) : Has w0 w' (r :: Rs) := by
  have wsz := h.only.size
  refine ⟨h.only.trans ho (by simp), fun s hs => ?_, List.pairwise_cons.2 ⟨fun s hs x hx hxs => ?_, h.apart⟩⟩
  · rcases List.mem_cons.1 hs with rfl | hs
    · exact ⟨hP, fun x hx => ⟨by have := (hG x hx).1; omega, (hG x hx).2⟩⟩
    · have hs' := h.each s hs
      exact ⟨s.stable w w' (fun x hx => ho.block x (hs'.2 x hx).2 (by simp)) hs'.1, fun x hx => ⟨(hs'.2 x hx).1, Nat.lt_of_lt_of_le (hs'.2 x hx).2 ho.size⟩⟩
  · have := ((h.each s hs).2 x hxs).2
    have := (hG x hx).1
    omega

theorem Has.later {w0 w w' : World} {Rs : List Res} (h : Has w0 w Rs) (ho : Only [] w w') : Has w0 w' Rs :=
  (h.more ho ⟨[], fun _ => True, fun _ _ _ _ => trivial⟩ trivial (by simp)).drop
theorem Has.alloc {w0 w : World} {Rs : List Res} (h : Has w0 w Rs) (o : Obj) : Has w0 (w.alloc o) (BRes w.heap.size o :: Rs) :=
  h.more ((Only.refl [] w).alloc o) (BRes w.heap.size o) (heap_alloc_last w o) (by simp [BRes])
theorem Has.alloc' {w0 w : World} {Rs : List Res} (h : Has w0 w Rs) (o : Obj) : Has w0 (w.alloc o) Rs := (h.alloc o).drop
theorem Has.drew {w0 w : World} {Rs : List Res} (h : Has w0 w Rs) : Has w0 w.drew Rs := h.later (Only.refl [] w).drew

/-! The disk's calls, beside other things. -/
section
variable {w0 w : World} {b : Nat} {F : List Nat} {S : St} {Rs : List Res}

theorem has_new (h : Has w0 w Rs) (n : Int) (h1 : 1 ≤ n) (h2 : n ≤ 8192) :
    Calls Try.prog 10 #[.int .i64 n] w fun e w' => ∃ b F, e = .returned (.tuple #[.pointer (some ⟨b, 0, none⟩), .int .i64 0]) ∧ Has w0 w' (DRes b F (St.new n) :: Rs) := by
  refine (new_ok w n h1 h2).mono ?_
  rintro e w' ⟨rfl, d, o⟩
  refine ⟨_, _, rfl, h.more o _ d (fun x hx => ?_)⟩
  have := dAt_lt d x hx
  simp [DRes] at hx
  omega

def St.write (S : St) (i : Int) (v : Array Value) : St := (S.stepped.kept i).written i v

theorem has_write (h : Has w0 w (DRes b F S :: Rs)) (i c : Int) (hr : S.reach i = 0) (hf : S.fuse ≠ 0) (hs : S.steps < 1000000000) (hp : S.pend.length < 1000000000) :
    Calls Try.prog 16 #[.pointer (some ⟨b, 0, none⟩), .int .i64 i, .slice (some ⟨w.heap.size, 0, none⟩) 64 64] (w.alloc (.cells (fullA c) 5)) fun e w' => e = .returned (.int .i64 0) ∧ ∃ F', Has w0 w' (DRes b F' (S.write i (fullA c)) :: Rs) := by
  have ha := h.alloc' (.cells (fullA c) 5)
  have hd := ha.dat
  have hlt := dAt_lt h.dat
  refine (write_ok hd i w.heap.size 0 64 (fullA c) (fullA_ok c) (fun j u hu => ?_) (by simp) (fun hx => by have := hlt _ hx; omega) hr hf hs hp).mono ?_
  · rw [Nat.zero_add, cell_of_row _ _ _ _ _ _ (heap_alloc_last w _)]
    simpa using hu
  · rintro e w' ⟨rfl, hp⟩
    exact ⟨rfl, ha.disk hp⟩

theorem has_barrier (h : Has w0 w (DRes b F S :: Rs)) (hon : S.on = true) (hf : S.fuse ≠ 0) (hs : S.steps < 1000000000) :
    Calls Try.prog 18 #[.pointer (some ⟨b, 0, none⟩)] w fun e w' => e = .returned (.int .i64 0) ∧ ∃ F', Has w0 w' (DRes b F' S.stepped.settled :: Rs) := by
  refine (barrier_ok h.dat hon hf hs).mono ?_
  rintro e w' ⟨rfl, hp⟩
  exact ⟨rfl, h.disk hp⟩

theorem has_barrier_fall (h : Has w0 w (DRes b F S :: Rs)) (hon : S.on = true) (hf : S.fuse = 0) :
    Calls Try.prog 18 #[.pointer (some ⟨b, 0, none⟩)] w fun e w' => e = .returned (.int .i64 2) ∧ ∃ F', Has w0 w' (DRes b F' S.fallen :: Rs) := by
  refine (barrier_fall h.dat hon hf).mono ?_
  rintro e w' ⟨rfl, hp⟩
  exact ⟨rfl, h.disk hp⟩

theorem has_fuse (h : Has w0 w (DRes b F S :: Rs)) (n : Int) (hn : n ≤ 9223372036854775807) :
    Calls Try.prog 21 #[.pointer (some ⟨b, 0, none⟩), .int .i64 n] w fun e w' => e = .returned (.tuple #[]) ∧ ∃ F', Has w0 w' (DRes b F' (S.fused n) :: Rs) := by
  refine (fuse_any h.dat n hn).mono ?_
  rintro e w' ⟨rfl, hp⟩
  exact ⟨rfl, h.disk hp⟩

theorem has_boot {kv : Value} {keep : List Int} (h : Has w0 w (DRes b F S :: Rs)) (hk : KeepAt w F kv keep) (hp : S.pend.length < 1000000000) :
    Calls Try.prog 23 #[.pointer (some ⟨b, 0, none⟩), kv] w fun e w' => e = .returned (.tuple #[]) ∧ ∃ F', Has w0 w' (DRes b F' (S.booted keep) :: Rs) := by
  refine (boot_any h.dat hk hp).mono ?_
  rintro e w' ⟨rfl, hp⟩
  exact ⟨rfl, h.disk hp⟩

theorem has_read (h : Has w0 w (DRes b F S :: Rs)) (i : Int) (hr : S.reach i = 0) :
    Calls Try.prog 20 #[.pointer (some ⟨b, 0, none⟩), .int .i64 i] w fun e w' => e = .returned (.tuple #[.slice (some ⟨w.heap.size, 0, none⟩) 64 64, .int .i64 0]) ∧ w' = w.alloc (.cells ((S.now i).getD Z) 65) := read_ok h.dat i hr
end

end Go.Proofs.Ytabddepidhfelaa
