/- Things in memory that share no block; a disk that is on, without a fuse, with nothing pending. -/
import Derived.Test.YtoccnaebckcfmaaW14
set_option linter.unusedSimpArgs false
set_option linter.unusedVariables false
set_option maxRecDepth 8000
namespace Go.Proofs.Ytoccnaebckcfmaa
open Go.RowKit

structure Res where
  G : List Nat
  P : World → Prop
  stable : ∀ w w', (∀ x ∈ G, w'.heap[x]? = w.heap[x]?) → P w → P w'

def DRes (b : Nat) (F : List Nat) (S : St) : Res := ⟨F, fun w => DAt w b F S, fun _ _ he h => dAt_congr h he⟩
def BRes (g : Nat) (o : Obj) : Res := ⟨[g], fun w => w.heap[g]? = some o, fun _ _ he h => (he g (by simp)).trans h⟩

structure Has (w0 w : World) (Rs : List Res) : Prop where
  only : Only [] w0 w
  each : ∀ r ∈ Rs, r.P w ∧ ∀ x ∈ r.G, w0.heap.size ≤ x ∧ x < w.heap.size
  apart : Rs.Pairwise (fun r s => ∀ x ∈ r.G, x ∉ s.G)

theorem Has.start (w : World) : Has w w [] := ⟨Only.refl _ _, by simp, List.Pairwise.nil⟩

theorem Has.turn {w0 w w' : World} {r r' : Res} {Rs : List Res} (h : Has w0 w (r :: Rs)) (ho : Only r.G w w') (hP : r'.P w') (hG : ∀ x ∈ r'.G, (x ∈ r.G ∨ w.heap.size ≤ x) ∧ x < w'.heap.size) : Has w0 w' (r' :: Rs) := by
  obtain ⟨h1, h2⟩ := List.pairwise_cons.1 h.apart
  have hr := h.each r (by simp)
  have osz := ho.size
  have wsz := h.only.size
  refine ⟨h.only.trans ho (fun x hx => .inr (hr.2 x hx).1), fun s hs => ?_, List.pairwise_cons.2 ⟨fun s hs x hx hxs => ?_, h2⟩⟩
  · rcases List.mem_cons.1 hs with rfl | hs
    · refine ⟨hP, fun x hx => ⟨?_, (hG x hx).2⟩⟩
      rcases (hG x hx).1 with h3 | h3
      · exact (hr.2 x h3).1
      · omega
    · have hs' := h.each s (by simp [hs])
      refine ⟨s.stable w w' (fun x hx => ho.block x (hs'.2 x hx).2 (fun hxr => h1 s hs x hxr hx)) hs'.1, fun x hx => ⟨(hs'.2 x hx).1, Nat.lt_of_lt_of_le (hs'.2 x hx).2 osz⟩⟩
  · rcases (hG x hx).1 with h3 | h3
    · exact h1 s hs x h3 hxs
    · have := ((h.each s (by simp [hs])).2 x hxs).2
      omega

theorem Has.disk {w0 w w' : World} {b : Nat} {F : List Nat} {S S' : St} {Rs : List Res} (h : Has w0 w (DRes b F S :: Rs)) (hp : DPost w w' b F S') : ∃ F', Has w0 w' (DRes b F' S' :: Rs) := by
  obtain ⟨F', d, f, o⟩ := hp
  exact ⟨F', h.turn (r' := DRes b F' S') o d (fun x hx => ⟨f x hx, dAt_lt d x hx⟩)⟩

theorem Has.dat {w0 w : World} {b : Nat} {F : List Nat} {S : St} {Rs : List Res} (h : Has w0 w (DRes b F S :: Rs)) : DAt w b F S := (h.each (DRes b F S) (by simp)).1
theorem Has.blk {w0 w : World} {g : Nat} {o : Obj} {Rs : List Res} (h : Has w0 w Rs) (hm : BRes g o ∈ Rs) : w.heap[g]? = some o := (h.each _ hm).1

theorem Has.drop {w0 w : World} {r : Res} {Rs : List Res} (h : Has w0 w (r :: Rs)) : Has w0 w Rs := ⟨h.only, fun s hs => h.each s (by simp [hs]), (List.pairwise_cons.1 h.apart).2⟩

theorem Has.swap {w0 w : World} {r s : Res} {Rs : List Res} (h : Has w0 w (r :: s :: Rs)) : Has w0 w (s :: r :: Rs) := by
  obtain ⟨h1, h2⟩ := List.pairwise_cons.1 h.apart
  obtain ⟨h3, h4⟩ := List.pairwise_cons.1 h2
  refine ⟨h.only, fun q hq => h.each q (by simp at hq ⊢; rcases hq with h | h | h <;> simp [h]), List.pairwise_cons.2 ⟨fun q hq x hx hxq => ?_, List.pairwise_cons.2 ⟨fun q hq => h1 q (by simp [hq]), h4⟩⟩⟩
  rcases List.mem_cons.1 hq with rfl | hq
  · exact h1 s (by simp) x hxq hx
  · exact h3 q hq x hx hxq

/-- A new block beside all. -/
theorem Has.more {w0 w w' : World} {Rs : List Res} (h : Has w0 w Rs) (ho : Only [] w w') (r : Res) (hP : r.P w') (hG : ∀ x ∈ r.G, w.heap.size ≤ x ∧ x < w'.heap.size) : Has w0 w' (r :: Rs) := by
  have wsz := h.only.size
  refine ⟨h.only.trans ho (by simp), fun s hs => ?_, List.pairwise_cons.2 ⟨fun s hs x hx hxs => ?_, h.apart⟩⟩
  · rcases List.mem_cons.1 hs with rfl | hs
    · exact ⟨hP, fun x hx => ⟨by have := (hG x hx).1; omega, (hG x hx).2⟩⟩
    · have hs' := h.each s hs
      exact ⟨s.stable w w' (fun x hx => ho.block x (hs'.2 x hx).2 (by simp)) hs'.1, fun x hx => ⟨(hs'.2 x hx).1, Nat.lt_of_lt_of_le (hs'.2 x hx).2 ho.size⟩⟩
  · have := ((h.each s hs).2 x hxs).2
    have := (hG x hx).1
    omega

theorem Has.later {w0 w w' : World} {Rs : List Res} (h : Has w0 w Rs) (ho : Only [] w w') : Has w0 w' Rs :=
  (h.more ho ⟨[], fun _ => True, fun _ _ _ _ => trivial⟩ trivial (by simp)).drop
theorem Has.alloc {w0 w : World} {Rs : List Res} (h : Has w0 w Rs) (o : Obj) : Has w0 (w.alloc o) (BRes w.heap.size o :: Rs) :=
  h.more ((Only.refl [] w).alloc o) (BRes w.heap.size o) (heap_alloc_last w o) (by simp [BRes])
theorem Has.alloc' {w0 w : World} {Rs : List Res} (h : Has w0 w Rs) (o : Obj) : Has w0 (w.alloc o) Rs := (h.alloc o).drop
theorem Has.drew {w0 w : World} {Rs : List Res} (h : Has w0 w Rs) : Has w0 w.drew Rs := h.later (Only.refl [] w).drew

/-! The disk's calls, beside other things. -/
section
variable {w0 w : World} {b : Nat} {F : List Nat} {S : St} {Rs : List Res}

theorem has_new (h : Has w0 w Rs) (n : Int) (h1 : 1 ≤ n) (h2 : n ≤ 8192) :
    Calls Try.prog 35 #[.int .i64 n] w fun e w' => ∃ b F, e = .returned (.tuple #[.pointer (some ⟨b, 0, none⟩), .int .i64 0]) ∧ Has w0 w' (DRes b F (St.new n) :: Rs) := by
  refine (new_ok w n h1 h2).mono ?_
  rintro e w' ⟨rfl, d, o⟩
  refine ⟨_, _, rfl, h.more o _ d (fun x hx => ?_)⟩
  have := dAt_lt d x hx
  simp [DRes] at hx
  omega

theorem has_fuse (h : Has w0 w (DRes b F S :: Rs)) (n : Int) (hn : n ≤ 9223372036854775807) :
    Calls Try.prog 31 #[.pointer (some ⟨b, 0, none⟩), .int .i64 n] w fun e w' => e = .returned (.tuple #[]) ∧ ∃ F', Has w0 w' (DRes b F' (S.fused n) :: Rs) := by
  refine (fuse_any h.dat n hn).mono ?_
  rintro e w' ⟨rfl, hp⟩
  exact ⟨rfl, h.disk hp⟩

theorem has_boot {kv : Value} {keep : List Int} (h : Has w0 w (DRes b F S :: Rs)) (hk : KeepAt w F kv keep) (hp : S.pend.length < 1000000000) :
    Calls Try.prog 32 #[.pointer (some ⟨b, 0, none⟩), kv] w fun e w' => e = .returned (.tuple #[]) ∧ ∃ F', Has w0 w' (DRes b F' (S.booted keep) :: Rs) := by
  refine (boot_any h.dat hk hp).mono ?_
  rintro e w' ⟨rfl, hp⟩
  exact ⟨rfl, h.disk hp⟩

theorem has_read (h : Has w0 w (DRes b F S :: Rs)) (i : Int) (hr : S.reach i = 0) :
    Calls Try.prog 33 #[.pointer (some ⟨b, 0, none⟩), .int .i64 i] w fun e w' => e = .returned (.tuple #[.slice (some ⟨w.heap.size, 0, none⟩) 64 64, .int .i64 0]) ∧ w' = w.alloc (.cells ((S.now i).getD Z) 93) := read_ok h.dat i hr
end


/-- A disk that is on, without a fuse, with nothing pending. -/
def quiet (n k : Int) (f : Int → Option (Array Value)) : St := ⟨n, true, -1, k, f, fun _ => none, []⟩
def putAll (f : Int → Option (Array Value)) (ps : List (Int × Array Value)) : Int → Option (Array Value) := ps.foldl (fun f p => updF f p.1 p.2) f

theorem writes_live : ∀ (ps : List (Int × Array Value)) (S : St), S.on = true → S.fuse = -1 → (∀ p ∈ ps, 0 ≤ p.1 ∧ p.1 < S.n) →
    (S.writes ps).1 = 0 ∧ (S.writes ps).2.n = S.n ∧ (S.writes ps).2.on = true ∧ (S.writes ps).2.fuse = -1 ∧ (S.writes ps).2.steps = S.steps + ps.length ∧ (S.writes ps).2.now = putAll S.now ps
  | [], S, h1, h2, _ => by simp [St.writes, putAll, h1, h2]
  | p :: ps, S, h1, h2, h3 => by
    have hp := h3 p (by simp)
    have hr : S.reach p.1 = 0 := by rw [St.reach, if_neg (by simp [h1]), if_neg (by omega)]
    have hw : S.doWrite p.1 p.2 = (0, S.write p.1 p.2) := by rw [St.doWrite, if_neg (by simp [hr]), if_neg (by omega)]
    have ih := writes_live ps (S.write p.1 p.2) (by simp [St.write, St.written, St.kept, St.stepped, h1]) (by simp [St.write, St.written, St.kept, St.stepped, h2]) (fun q hq => h3 q (by simp [hq]))
    rw [St.writes, hw, if_pos rfl]
    obtain ⟨e1, e2, e3, e4, e5, e6⟩ := ih
    refine ⟨e1, e2, e3, e4, ?_, ?_⟩
    · rw [e5]; simp only [St.write, St.written, St.kept, St.stepped, List.length_cons]; omega
    · rw [e6]; rfl

theorem writeAll_quiet (n k : Int) (f : Int → Option (Array Value)) (ps : List (Int × Array Value)) (h : ∀ p ∈ ps, 0 ≤ p.1 ∧ p.1 < n) : (quiet n k f).writeAll ps = (0, quiet n (k + ps.length + 1) (putAll f ps)) := by
  obtain ⟨e1, e2, e3, e4, e5, e6⟩ := writes_live ps (quiet n k f) rfl rfl h
  rw [St.writeAll, if_pos e1]
  generalize ((quiet n k f).writes ps).2 = T at *
  rw [St.doBarrier, if_neg (by simp [e3]), if_neg (by omega)]
  obtain ⟨Tn, Ton, Tf, Ts, Tnow, Tsure, Tp⟩ := T
  simp only [quiet] at *
  subst e2 e3 e4 e5 e6
  rfl

theorem putAll_other {f : Int → Option (Array Value)} {ps : List (Int × Array Value)} {x : Int} (h : ∀ p ∈ ps, p.1 ≠ x) : putAll f ps x = f x := by
  induction ps generalizing f with
  | nil => rfl
  | cons p ps ih =>
    have : putAll f (p :: ps) = putAll (updF f p.1 p.2) ps := rfl
    rw [this, ih (fun q hq => h q (by simp [hq])), updF, if_neg (fun e => h p (by simp) e.symm)]
theorem putAll_at {f : Int → Option (Array Value)} {ps : List (Int × Array Value)} (hn : (ps.map (·.1)).Nodup) {p : Int × Array Value} (hp : p ∈ ps) : putAll f ps p.1 = some p.2 := by
  induction ps generalizing f with
  | nil => cases hp
  | cons q ps ih =>
    have e : putAll f (q :: ps) = putAll (updF f q.1 q.2) ps := rfl
    rw [List.map_cons, List.nodup_cons] at hn
    rw [e]
    rcases List.mem_cons.1 hp with rfl | hp
    · rw [putAll_other (fun r hr e => hn.1 (List.mem_map.2 ⟨r, hr, e⟩)), updF, if_pos rfl]
    · exact ih hn.2 hp
theorem putAll_one (f : Int → Option (Array Value)) (a : Int) (v : Array Value) : putAll f [(a, v)] = updF f a v := rfl

/-- Which sectors copies writes. -/
theorem copies_in {a : Int} {ps : List (Int × Array Value)} {p : Int × Array Value} (h : p ∈ copiesL a ps) : a + 1 ≤ p.1 ∧ p.1 < a + 1 + numsF ps.length + ps.length := by
  unfold copiesL at h
  rcases List.mem_append.1 h with h | h
  · obtain ⟨i, hi, rfl⟩ := List.mem_map.1 h
    have := List.mem_range.1 hi
    simp only [numPut]
    omega
  · obtain ⟨i, hi, rfl⟩ := List.mem_map.1 h
    have := List.mem_range.1 hi
    simp only [bytPut]
    omega
/-- A group of Room sectors has room. -/
theorem room_fits {s : Int} {n : Nat} (hs : 3 ≤ s) (h : (n : Int) ≤ roomF s) : 1 + (numsF n : Int) + n ≤ s := by
  rw [roomF, if_neg (by omega)] at h
  unfold numsF
  omega

def putLog (f : Int → Option (Array Value)) (a s g : Int) (ps : List (Int × Array Value)) : Int → Option (Array Value) :=
  updF (putAll (updF (putAll f (copiesL a ps)) a (headA a s (g + 1) ps.length)) ps) a (headA a s (g + 1) 0)

theorem commit_quiet {n k : Int} {f : Int → Option (Array Value)} {a s g : Int} {ps : List (Int × Array Value)} (ha : 0 ≤ a) (hs : 3 ≤ s) (has : a + s ≤ n) (hok : GroupOk a s n (rawsOf ps)) :
    ∃ k', k ≤ k' ∧ k' ≤ k + 3 * ps.length + 10 ∧ (quiet n k f).commit a s g ps = ⟨0, quiet n k' (putLog f a s g ps), g + 1⟩ := by
  have hlen : (ps.length : Int) ≤ roomF s := by have := hok.1; simpa [rawsOf] using this
  have hfit := room_fits hs hlen
  have hin : ∀ p ∈ ps, 0 ≤ p.1 ∧ p.1 < n := fun p hp => by
    have := hok.2.1 (p.1, 64) (List.mem_map.2 ⟨p, hp, rfl⟩)
    exact ⟨this.1, this.2.1⟩
  have hcp : ∀ p ∈ copiesL a ps, 0 ≤ p.1 ∧ p.1 < n := fun p hp => by have := copies_in hp; omega
  have hhd : ∀ v, ∀ p ∈ [(a, v)], 0 ≤ (p : Int × Array Value).1 ∧ p.1 < n := fun v p hp => by simp at hp; subst hp; exact ⟨ha, by omega⟩
  have w1 := writeAll_quiet n k f (copiesL a ps) hcp
  have w2 : ∀ k f v, (quiet n k f).writeAll [(a, v)] = (0, quiet n (k + 1 + 1) (updF f a v)) := fun k f v => writeAll_quiet n k f [(a, v)] (hhd v)
  have w3 := fun k f => writeAll_quiet n k f ps hin
  refine ⟨k + ((copiesL a ps).length : Int) + 1 + 1 + 1 + (ps.length : Int) + 1 + 1 + 1, ?_, ?_, ?_⟩
  · rw [copiesL_len]; omega
  · rw [copiesL_len]; unfold numsF; omega
  · rw [St.commit, w1]
    simp only [w2, St.finish, w3]
    simp only [ne_eq, not_true_eq_false, if_false, if_true]
    rfl

theorem putLog_head (f : Int → Option (Array Value)) (a s g : Int) (ps : List (Int × Array Value)) : putLog f a s g ps a = some (headA a s (g + 1) 0) := by rw [putLog, updF, if_pos rfl]
theorem putLog_other {f : Int → Option (Array Value)} {a s g n : Int} {ps : List (Int × Array Value)} (hs : 3 ≤ s) (hok : GroupOk a s n (rawsOf ps)) {x : Int} (hx : x < a ∨ a + s ≤ x) (hp : ∀ p ∈ ps, p.1 ≠ x) : putLog f a s g ps x = f x := by
  have hlen : (ps.length : Int) ≤ roomF s := by have := hok.1; simpa [rawsOf] using this
  have hfit := room_fits hs hlen
  rw [putLog, updF, if_neg (by omega), putAll_other hp, updF, if_neg (by omega), putAll_other (fun p hp => by have := copies_in hp; omega)]
theorem putLog_at {f : Int → Option (Array Value)} {a s g n : Int} {ps : List (Int × Array Value)} (hs : 3 ≤ s) (hok : GroupOk a s n (rawsOf ps)) {p : Int × Array Value} (hp : p ∈ ps) : putLog f a s g ps p.1 = some p.2 := by
  have h1 := (hok.2.1 (p.1, 64) (List.mem_map.2 ⟨p, hp, rfl⟩)).2.2.1
  have hne : p.1 ≠ a := fun e => h1 ⟨by simp only; omega, by simp only; omega⟩
  have hn : (ps.map (·.1)).Nodup := by have := hok.2.2; rw [rawsOf, List.map_map] at this; exact this
  rw [putLog, updF, if_neg hne, putAll_at hn hp]

end Go.Proofs.Ytoccnaebckcfmaa
