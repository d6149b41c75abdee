/- WalOrder: what holds behind each group, and within one. -/
import Derived.Test.YtfkpehefofihmaaW20
set_option linter.unusedSimpArgs false
set_option linter.unusedVariables false
set_option maxRecDepth 8000
namespace Go.Proofs.Ytfkpehefofihmaa
open Go.RowKit

theorem Has.apartD {w0 w : World} {r s : Res} {Rs : List Res} (h : Has w0 w (r :: Rs)) (hs : s ∈ Rs) : ∀ x ∈ r.G, x ∉ s.G := (List.pairwise_cons.1 h.apart).1 s hs

def ORel (H : Nat → Int) (f : Int → Option (Array Value)) : Prop := ∀ t : Nat, t < 60 → 0 ≤ H t ∧ H t ≤ 30 ∧ f (40 + (t : Int)) = if H t = 0 then none else some (fullB (H t) (t : Int))

structure OSt where
  H : Nat → Int
  A : Array Value
  f : Int → Option (Array Value)
  k : Int
  F : List Nat
/-- Behind i groups. -/
structure OInv (w wr : World) (b wb hb i : Nat) (X : OSt) : Prop where
  row : RowIs X.A 60 X.H
  rel : ORel X.H X.f
  head : X.f 0 = some (headA 0 40 (i : Int) 0)
  k0 : 0 ≤ X.k
  k1 : X.k ≤ 2 + 200 * (i : Int)
  has : Has w wr (DRes b X.F (quiet 100 X.k X.f) :: WRes wb b 0 40 (i : Int) :: BRes hb (.cells X.A 58) :: [])

/-- The part of it that speaks of no world. -/
structure OInvOld (X : OSt) (i : Nat) : Prop where
  rel : ORel X.H X.f
  k0 : 0 ≤ X.k
  k1 : X.k ≤ 2 + 200 * (i : Int)
theorem OInv.old {w wr : World} {b wb hb i : Nat} {X : OSt} (h : OInv w wr b wb hb i X) : OInvOld X i := ⟨h.rel, h.k0, h.k1⟩
theorem nodup_more' {l : List Nat} {x : Nat} (h : l.Nodup) (hx : x ∉ l) : (l ++ [x]).Nodup := by
  rw [List.nodup_append]
  exact ⟨h, by simp, fun a ha b hb => by simp at hb; subst hb; exact fun e => hx (e ▸ ha)⟩

/-- Within group i: the sectors xs so far. -/
structure IInv (w wr : World) (b wb hb sb i j : Nat) (X : OSt) (c : Value) (xs : List Nat) (A B : Array Value) (G : List Nat) : Prop where
  nodup : xs.Nodup
  lt : ∀ t ∈ xs, t < 60
  len : xs.length ≤ j
  row : RowIs A 60 (fun t => if t ∈ xs then (i : Int) + 1 else X.H t)
  flag : FlagIs B 60 (fun t => decide (t ∈ xs))
  has : Has w wr (LRes G c (grp 40 ((i : Int) + 1) (fun t => (t : Int)) xs) :: BRes sb (.cells B 59) :: BRes hb (.cells A 58) :: DRes b X.F (quiet 100 X.k X.f) :: WRes wb b 0 40 (i : Int) :: [])

theorem IInv.start {w wr : World} {b wb hb i : Nat} {X : OSt} (h : OInv w wr b wb hb i X) : IInv w ((wr.alloc (.cells #[] 54)).alloc (.cells (nays 60) 59)) b wb hb (wr.heap.size + 1) i 0 X (.slice (some ⟨wr.heap.size, 0, none⟩) 0 0) [] X.A (nays 60) [wr.heap.size] := by
  have h1 := (has_nil (h.has.pull (L1 := [_, _]) (L2 := []))).alloc (.cells (nays 60) 59)
  rw [World.size_alloc] at h1
  -- nays, list, has, disk, log
  have h2 := h1.swap
  exact ⟨List.nodup_nil, by simp, by simp, by simpa using h.row, by simpa using nays_is 60, h2⟩

theorem IInv.skip {w wr : World} {b wb hb sb i j : Nat} {X : OSt} {c : Value} {xs : List Nat} {A B : Array Value} {G : List Nat} (h : IInv w wr b wb hb sb i j X c xs A B G) : IInv w wr b wb hb sb i (j + 1) X c xs A B G := ⟨h.nodup, h.lt, Nat.le_succ_of_le h.len, h.row, h.flag, h.has⟩

theorem IInv.add {w wr : World} {b wb hb sb i j : Nat} {X : OSt} {c : Value} {xs : List Nat} {A B : Array Value} {G : List Nat} (h : IInv w wr b wb hb sb i j X c xs A B G) {t : Nat} (ht : t < 60) (hx : t ∉ xs) (hj : j ≤ 100) :
    ∃ v3 w3, (Builtin.append_ #[32, 32] 32 #[c, .slice (some ⟨wr.heap.size + 1, 0, none⟩) 1 1]).run Try.prog ((((wr.setCell ⟨sb, t, none⟩ (.bool true)).setCell ⟨hb, t, none⟩ (.int .u8 ((i : Int) + 1))).alloc (.cells (fullB ((i : Int) + 1) (t : Int)) 5)).alloc (.cells #[.int .i64 (40 + (t : Int)), .slice (some ⟨wr.heap.size, 0, none⟩) 64 64] 54)) = .ok v3 w3 ∧
      ∃ A' B' G', IInv w w3 b wb hb sb i (j + 1) X v3 (xs ++ [t]) A' B' G' := by
  have h1 := (h.has.pull (L1 := [_]) (L2 := [_, _, _])).setb t (.bool true)
  have h2 := (h1.pull (L1 := [_, _]) (L2 := [_, _])).setb t (.int .u8 ((i : Int) + 1))
  have h3 := h2.pull (L1 := [_, _]) (L2 := [_, _])
  have hl := h.len
  obtain ⟨v3, w3, hrun, G3, h4⟩ := has_append h3 (40 + (t : Int)) (fullB ((i : Int) + 1) (t : Int)) (fullB_ok _ _) (by simp [grp]; omega) 32
  simp only [World.size_setCell] at hrun
  refine ⟨v3, w3, hrun, A.setIfInBounds t (.int .u8 ((i : Int) + 1)), B.setIfInBounds t (.bool true), G3, nodup_more' h.nodup hx, ?_, by simp; omega, ?_, ?_, ?_⟩
  · intro y hy
    rcases List.mem_append.1 hy with hy | hy
    · exact h.lt y hy
    · simp at hy; omega
  · have := h.row.set t ((i : Int) + 1)
    refine ⟨this.size, fun y hy => ?_⟩
    rw [this.cell y hy]
    by_cases hyt : y = t
    · simp [hyt]
    · simp [hyt]
  · have := h.flag.set t true
    refine ⟨this.size, fun y hy => ?_⟩
    rw [this.cell y hy]
    by_cases hyt : y = t
    · simp [hyt]
    · simp [hyt]
  · rw [← grp_snoc]
    exact (h4.pull (L1 := [_, _]) (L2 := [_, _])).swap

/-- Behind the group's commit. -/
theorem IInv.done {w wr w' : World} {b wb hb sb i j : Nat} {X : OSt} {c : Value} {xs : List Nat} {A B : Array Value} {G F' : List Nat} {k' : Int} (h : IInv w wr b wb hb sb i j X c xs A B G) (hj : j ≤ 30) (hi : i < 30) (ho : OInvOld X i) (hk : X.k ≤ k') (hk1 : k' ≤ X.k + 3 * (grp 40 ((i : Int) + 1) (fun t => (t : Int)) xs).length + 10)
    (hh : Has w w' (DRes b F' (quiet 100 k' (putLog X.f 0 40 (i : Int) (grp 40 ((i : Int) + 1) (fun t => (t : Int)) xs))) :: WRes wb b 0 40 ((i : Int) + 1) :: LRes G c (grp 40 ((i : Int) + 1) (fun t => (t : Int)) xs) :: BRes sb (.cells B 59) :: BRes hb (.cells A 58) :: [])) :
    OInv w w' b wb hb (i + 1) ⟨fun t => if t ∈ xs then (i : Int) + 1 else X.H t, A, putLog X.f 0 40 (i : Int) (grp 40 ((i : Int) + 1) (fun t => (t : Int)) xs), k', F'⟩ := by
  have hl := h.len
  have hok : GroupOk 0 40 100 (rawsOf (grp 40 ((i : Int) + 1) (fun t => (t : Int)) xs)) := grp_ok (m := 60) h.nodup h.lt (by omega) (by omega) (by omega) (by rw [room40]; omega)
  have hlen : (grp 40 ((i : Int) + 1) (fun t => (t : Int)) xs).length = xs.length := by simp [grp]
  refine ⟨h.row, fun t ht => ?_, ?_, by have := ho.k0; simp only; omega, ?_, ?_⟩
  · obtain ⟨r1, r2, r3⟩ := ho.rel t ht
    simp only
    by_cases hx : t ∈ xs
    · rw [if_pos hx]
      refine ⟨by omega, by omega, ?_⟩
      rw [if_neg (by omega)]
      exact putLog_at (p := (40 + (t : Int), fullB ((i : Int) + 1) (t : Int))) (by omega) hok (List.mem_map.2 ⟨t, hx, rfl⟩)
    · rw [if_neg hx]
      refine ⟨r1, r2, ?_⟩
      rw [putLog_other (by omega) hok (by omega) (fun p hp => ?_)]
      · exact r3
      · obtain ⟨y, hy, rfl⟩ := List.mem_map.1 hp
        simp only
        intro e
        have : y = t := by omega
        exact hx (this ▸ hy)
  · simp only
    rw [putLog_head]
    simp
  · simp only
    rw [hlen] at hk1
    have := ho.k1
    simp
    omega
  · have h1 := (hh.pull (L1 := [_, _]) (L2 := [_, _])).drop
    have h2 := (h1.pull (L1 := [_, _]) (L2 := [_])).drop
    simpa using h2


end Go.Proofs.Ytfkpehefofihmaa
