/- Two of the document's own disks beside other things; a write of any row of equal bytes; what the law's parts ask. -/
import Derived.Test.YtabddepidhfelaaR6
import Derived.Test.YtabddepidhfelaaClone
set_option linter.unusedSimpArgs false
namespace Go.Proofs.Ytabddepidhfelaa
open Go.RowKit

theorem Has.rot3 {w0 w : World} {r s t : Res} {Rs : List Res} (h : Has w0 w (r :: s :: t :: Rs)) : Has w0 w (t :: r :: s :: Rs) := by
  obtain ⟨h1, h2⟩ := List.pairwise_cons.1 h.apart
  obtain ⟨h3, h4⟩ := List.pairwise_cons.1 h2
  obtain ⟨h5, h6⟩ := List.pairwise_cons.1 h4
  refine ⟨h.only, fun q hq => h.each q (by simp at hq ⊢; rcases hq with h | h | h | h <;> simp [h]), List.pairwise_cons.2 ⟨fun q hq x hx hxq => ?_, List.pairwise_cons.2 ⟨fun q hq => h1 q (by simp at hq ⊢; rcases hq with h | h <;> simp [h]), List.pairwise_cons.2 ⟨fun q hq => h3 q (by simp [hq]), h6⟩⟩⟩⟩
  simp at hq
  rcases hq with rfl | rfl | hq
  · exact h1 t (by simp) x hxq hx
  · exact h3 t (by simp) x hxq hx
  · exact h5 q hq x hx hxq
/-- The second thing goes. -/
theorem Has.drop2 {w0 w : World} {r s : Res} {Rs : List Res} (h : Has w0 w (r :: s :: Rs)) : Has w0 w (r :: Rs) := h.swap.drop

def RRes (r : Nat) (G : List Nat) (R : RS) : Res := ⟨r :: G, fun w => RAt w r G R, fun _ _ he h => h.congr he⟩
def PRes (y v : Nat) (G : List Nat) (Ry Rv : RS) : Res := ⟨y :: v :: G, fun w => RAt w y G Ry ∧ RAt w v G Rv ∧ y ≠ v,
  fun _ _ he h => ⟨h.1.congr (fun x hx => he x (by simp at hx ⊢; rcases hx with h | h <;> simp [h])), h.2.1.congr (fun x hx => he x (by simp at hx ⊢; rcases hx with h | h <;> simp [h])), h.2.2⟩⟩

section
variable {w0 w : World} {y v : Nat} {G : List Nat} {Ry Rv : RS} {Rs : List Res}

theorem Has.pat (h : Has w0 w (PRes y v G Ry Rv :: Rs)) : RAt w y G Ry ∧ RAt w v G Rv ∧ y ≠ v := (h.each (PRes y v G Ry Rv) (by simp)).1

theorem Has.ref {w' : World} {R' : RS} (h : Has w0 w (PRes y v G Ry Rv :: Rs)) (hp : RPost w w' y G R') : ∃ G', Has w0 w' (PRes y v G' R' Rv :: Rs) := by
  obtain ⟨hy, hv, hne⟩ := h.pat
  obtain ⟨G', r', s', f', o'⟩ := hp
  have hvlt := hv.lt
  obtain ⟨bv, lv, hv'⟩ := hv
  obtain ⟨by_, ly, hy'⟩ := hy
  have hvG : v ∉ G' := fun hx => by
    rcases f' v hx with h1 | h1
    · exact hv'.out h1
    · have := hvlt v (by simp); omega
  have lt' := r'.lt
  have hv2 : RAt w' v G' Rv := RAt.to ⟨bv, lv, hv'⟩ (fun x hx => o'.block x (hvlt x hx) (fun e => by
    simp only [List.mem_singleton] at e
    rcases List.mem_cons.1 hx with h1 | h1
    · exact hne (e.symm.trans h1)
    · exact hy'.out (e ▸ h1))) s' hvG (fun x hx => lt' x (by simp [hx]))
  refine ⟨G', h.turn (r' := PRes y v G' R' Rv) (o'.mono (by simp [PRes])) ⟨r', hv2, hne⟩ (fun x hx => ?_)⟩
  simp only [PRes, List.mem_cons] at hx ⊢
  rcases hx with rfl | rfl | hx
  · exact ⟨.inl (.inl rfl), lt' x (by simp)⟩
  · exact ⟨.inl (.inr (.inl rfl)), hv2.lt x (by simp)⟩
  · refine ⟨?_, lt' x (by simp [hx])⟩
    rcases f' x hx with h1 | h1
    · exact .inl (.inr (.inr h1))
    · exact .inr h1

/-- A clone of one makes a pair. -/
theorem Has.pair {w' : World} {r r' : Nat} {R : RS} (h : Has w0 w (RRes r G R :: Rs)) (ho : Only [] w w') (hr : RAt w' r' G R) (hn : w.heap.size ≤ r') : Has w0 w' (PRes r' r G R R :: Rs) := by
  have hr0 : RAt w r G R := (h.each (RRes r G R) (by simp)).1
  refine h.turn (r' := PRes r' r G R R) (ho.mono (by simp)) ⟨hr, hr0.later ho, ?_⟩ (fun x hx => ?_)
  · have := hr0.lt r (by simp); omega
  · simp only [PRes, RRes, List.mem_cons] at hx ⊢
    rcases hx with rfl | rfl | hx
    · exact ⟨.inr hn, hr.lt x (by simp)⟩
    · exact ⟨.inl (.inl rfl), (hr0.later ho).lt x (by simp)⟩
    · exact ⟨.inl (.inr hx), hr.lt x (by simp [hx])⟩

/-- A clone of the first takes its place, and the first the second's. -/
theorem Has.next {w' : World} {y' : Nat} (h : Has w0 w (PRes y v G Ry Rv :: Rs)) (ho : Only [] w w') (hr : RAt w' y' G Ry) (hn : w.heap.size ≤ y') : Has w0 w' (PRes y' y G Ry Ry :: Rs) := by
  obtain ⟨hy, hv, hne⟩ := h.pat
  refine h.turn (r' := PRes y' y G Ry Ry) (ho.mono (by simp)) ⟨hr, hy.later ho, ?_⟩ (fun x hx => ?_)
  · have := hy.lt y (by simp); omega
  · simp only [PRes, List.mem_cons] at hx ⊢
    rcases hx with rfl | rfl | hx
    · exact ⟨.inr hn, hr.lt x (by simp)⟩
    · exact ⟨.inl (.inl rfl), (hy.later ho).lt x (by simp)⟩
    · exact ⟨.inl (.inr (.inr hx)), hr.lt x (by simp [hx])⟩
end

def St.doWr (S : St) (i : Int) (m : Nat) (v : Array Value) : Int × St := if S.reach i ≠ 0 then (S.reach i, S) else if m ≠ 64 then (11, S) else if S.fuse = 0 then (2, S.fallen) else (0, S.write i v)
open Classical in
noncomputable def RS.doWr (R : RS) (i : Int) (m : Nat) (v : Array Value) : Int × RS := if R.reach i ≠ 0 then (R.reach i, R) else if m ≠ 64 then (11, R) else if R.falls then (2, R.fallen) else (0, R.written i v)

theorem Sim.wr {S : St} {R : RS} (h : Sim S R) (i : Int) (m : Nat) (v : Array Value) : (S.doWr i m v).1 = (R.doWr i m v).1 ∧ Sim (S.doWr i m v).2 (R.doWr i m v).2 := by
  unfold St.doWr RS.doWr
  rw [h.reach]
  by_cases h1 : R.reach i ≠ 0
  · rw [if_pos h1, if_pos h1]; exact ⟨rfl, h⟩
  · rw [if_neg h1, if_neg h1]
    by_cases h2 : m ≠ 64
    · rw [if_pos h2, if_pos h2]; exact ⟨rfl, h⟩
    · rw [if_neg h2, if_neg h2]
      by_cases hf : S.fuse = 0
      · rw [if_pos hf, if_pos (h.falls.2 hf)]; exact ⟨rfl, h.fallen⟩
      · rw [if_neg hf, if_neg (fun e => hf (h.falls.1 e))]; exact ⟨rfl, h.write hf i v⟩

structure Bd (R : RS) (k : Nat) : Prop where
  N : R.N ≤ k
  L : R.L.length ≤ k
theorem Bd.mono {R : RS} {k k' : Nat} (h : Bd R k) (hk : k ≤ k') : Bd R k' := ⟨by have := h.N; omega, by have := h.L; omega⟩
theorem Bd.wr {R : RS} {k : Nat} (h : Bd R k) (i : Int) (m : Nat) (v : Array Value) : Bd (R.doWr i m v).2 (k + 1) := by
  have h1 := h.N
  have h2 := h.L
  unfold RS.doWr
  split
  · exact h.mono (by omega)
  · split
    · exact h.mono (by omega)
    · split
      · exact ⟨by simp only [RS.fallen]; omega, by simp only [RS.fallen]; omega⟩
      · exact ⟨by simp only [RS.written, RS.stepped]; omega, by simp only [RS.written, RS.stepped, List.length_append, List.length_cons, List.length_nil]; omega⟩
theorem Bd.barrier {R : RS} {k : Nat} (h : Bd R k) : Bd R.doBarrier.2 (k + 1) := by
  have h1 := h.N
  have h2 := h.L
  unfold RS.doBarrier
  split
  · exact h.mono (by omega)
  · split
    · exact ⟨by simp only [RS.fallen]; omega, by simp only [RS.fallen]; omega⟩
    · exact ⟨by simp only [RS.settled, RS.stepped]; omega, by simp only [RS.settled, List.length_nil]; omega⟩
theorem Bd.fused {R : RS} {k : Nat} (h : Bd R k) (n : Int) : Bd (R.fused n) (k + 1) := by
  unfold RS.fused
  split
  · exact h.mono (by omega)
  · exact ⟨by have := h.N; simp only; omega, by have := h.L; simp only; omega⟩
theorem Bd.booted {R : RS} {k : Nat} (h : Bd R k) (keep : List Int) : Bd (R.booted keep) (k + 1) := ⟨by have := h.N; simp only [RS.booted]; omega, by simp [RS.booted]⟩

section
variable {w0 w : World} {b : Nat} {F : List Nat} {S : St} {y v : Nat} {G : List Nat} {Ry Rv : RS} {Rs : List Res} {gb : Nat} {A : Array Value} {m : Nat} {c : Int}

theorem row_bytes (hb : w.heap[gb]? = some (.cells A 5 (0, 0))) (hA : RowIs A m (fun _ => c)) : ∀ j, j < m → w.cell? ⟨gb, j, none⟩ = some (.int .u8 c) := fun j hj => (cell_of_row _ _ _ _ _ _ hb).trans (hA.cell j hj)

theorem has_wr (h : Has w0 w (DRes b F S :: Rs)) (hb : BRes gb (.cells A 5) ∈ Rs) (hA : RowIs A m (fun _ => c)) (i : Int) (hs : S.steps < 1000000000) (hp : S.pend.length < 1000000000) :
    Calls Try.prog 16 #[.pointer (some ⟨b, 0, none⟩), .int .i64 i, .slice (some ⟨gb, 0, none⟩) m m] w fun e w' => e = .returned (.int .i64 (S.doWr i m (fullA c)).1) ∧ ∃ F', Has w0 w' (DRes b F' (S.doWr i m (fullA c)).2 :: Rs) := by
  have hblk := h.blk (List.mem_cons_of_mem _ hb)
  have hglt := ((h.each _ (List.mem_cons_of_mem _ hb)).2 gb (by simp [BRes])).2
  have hgF : gb ∉ F := fun hx => (List.pairwise_cons.1 h.apart).1 _ hb gb hx (by simp [BRes])
  unfold St.doWr
  by_cases h1 : S.reach i ≠ 0
  · rw [if_pos h1]
    refine (write_no h.dat i _ h1).mono ?_
    rintro e w' ⟨rfl, rfl⟩
    exact ⟨rfl, h.same⟩
  · rw [if_neg h1]
    have h1' : S.reach i = 0 := Decidable.of_not_not h1
    by_cases h2 : m ≠ 64
    · rw [if_pos h2]
      refine (write_bytes h.dat i _ m m h1' h2).mono ?_
      rintro e w' ⟨rfl, rfl⟩
      exact ⟨rfl, h.same⟩
    · rw [if_neg h2]
      have h2' : m = 64 := Decidable.of_not_not h2
      subst h2'
      by_cases hf : S.fuse = 0
      · rw [if_pos hf]
        refine (write_fall h.dat i _ 64 h1' hf).mono ?_
        rintro e w' ⟨rfl, hp⟩
        exact ⟨rfl, h.disk hp⟩
      · rw [if_neg hf]
        refine (write_ok h.dat i gb 0 64 (fullA c) (fullA_ok c) (fun j u hu => ?_) hglt hgF h1' hf hs hp).mono ?_
        · have hj : j < 64 := by have := (List.getElem?_eq_some_iff.1 hu).1; simpa [fullA] using this
          rw [Nat.zero_add, row_bytes hblk hA j hj, ← hu, Array.getElem?_toList]
          simp [fullA, hj]
        · rintro e w' ⟨rfl, hp⟩
          exact ⟨rfl, h.disk hp⟩

theorem has_rwr (h : Has w0 w (PRes y v G Ry Rv :: Rs)) (hb : BRes gb (.cells A 5) ∈ Rs) (hA : RowIs A m (fun _ => c)) (i : Int) (hN : Ry.N < 1000000000) (hl : Ry.L.length < 1000000000) :
    Calls Try.prog 17 #[.pointer (some ⟨y, 0, none⟩), .int .i64 i, .slice (some ⟨gb, 0, none⟩) m m] w fun e w' => e = .returned (.int .i64 (Ry.doWr i m (fullA c)).1) ∧ ∃ G', Has w0 w' (PRes y v G' (Ry.doWr i m (fullA c)).2 Rv :: Rs) := by
  have hblk := h.blk (List.mem_cons_of_mem _ hb)
  have hglt := ((h.each _ (List.mem_cons_of_mem _ hb)).2 gb (by simp [BRes])).2
  have hgy : gb ≠ y := fun e => (List.pairwise_cons.1 h.apart).1 _ hb gb (by simp [PRes, e]) (by simp [BRes])
  unfold RS.doWr
  by_cases h1 : Ry.reach i ≠ 0
  · rw [if_pos h1]
    refine (rwrite_no h.pat.1 i _ h1).mono ?_
    rintro e w' ⟨rfl, rfl⟩
    exact ⟨rfl, G, h⟩
  · rw [if_neg h1]
    have h1' : Ry.reach i = 0 := Decidable.of_not_not h1
    by_cases h2 : m ≠ 64
    · rw [if_pos h2]
      refine (rwrite_bytes h.pat.1 i _ m m h1' h2).mono ?_
      rintro e w' ⟨rfl, rfl⟩
      exact ⟨rfl, G, h⟩
    · rw [if_neg h2]
      have h2' : m = 64 := Decidable.of_not_not h2
      subst h2'
      by_cases hf : Ry.falls
      · rw [if_pos hf]
        refine (rwrite_fall h.pat.1 i _ 64 h1' hf).mono ?_
        rintro e w' ⟨rfl, hp⟩
        exact ⟨rfl, h.ref hp⟩
      · rw [if_neg hf]
        refine (rwrite_ok h.pat.1 i c gb 64 hglt hgy (row_bytes hblk hA) h1' hf hN hl).mono ?_
        rintro e w' ⟨rfl, hp⟩
        exact ⟨rfl, h.ref hp⟩

theorem has_rbarrier (h : Has w0 w (PRes y v G Ry Rv :: Rs)) (hl : Ry.L.length < 1000000000) (hN : Ry.N < 1000000000) :
    Calls Try.prog 19 #[.pointer (some ⟨y, 0, none⟩)] w fun e w' => e = .returned (.int .i64 Ry.doBarrier.1) ∧ ∃ G', Has w0 w' (PRes y v G' Ry.doBarrier.2 Rv :: Rs) := by
  refine (rbarrier_any h.pat.1 hl hN).mono ?_
  rintro e w' ⟨rfl, hp⟩
  exact ⟨rfl, h.ref hp⟩
theorem has_rfuse (h : Has w0 w (PRes y v G Ry Rv :: Rs)) (n : Int) (hn : n ≤ 9223372036854775807) :
    Calls Try.prog 22 #[.pointer (some ⟨y, 0, none⟩), .int .i64 n] w fun e w' => e = .returned (.tuple #[]) ∧ ∃ G', Has w0 w' (PRes y v G' (Ry.fused n) Rv :: Rs) := by
  refine (rfuse_any h.pat.1 n hn).mono ?_
  rintro e w' ⟨rfl, hp⟩
  exact ⟨rfl, h.ref hp⟩
theorem has_rboot {F' : List Nat} {kv : Value} {keep : List Int} (h : Has w0 w (PRes y v G Ry Rv :: Rs)) (hk : KeepAt w F' kv keep) (hl : Ry.L.length < 1000000000) :
    Calls Try.prog 24 #[.pointer (some ⟨y, 0, none⟩), kv] w fun e w' => e = .returned (.tuple #[]) ∧ ∃ G', Has w0 w' (PRes y v G' (Ry.booted keep) Rv :: Rs) := by
  refine (rboot_any h.pat.1 hk hl).mono ?_
  rintro e w' ⟨rfl, hp⟩
  exact ⟨rfl, h.ref hp⟩
theorem has_rclone (h : Has w0 w (PRes y v G Ry Rv :: Rs)) :
    Calls Try.prog 13 #[.pointer (some ⟨y, 0, none⟩)] w fun e w' => ∃ y', e = .returned (.pointer (some ⟨y', 0, none⟩)) ∧ Has w0 w' (PRes y' y G Ry Ry :: Rs) := by
  refine (rclone_any h.pat.1).mono ?_
  rintro e w' ⟨rfl, hr, ho⟩
  exact ⟨_, rfl, h.next ho hr (Nat.le_refl _)⟩
theorem has_rclone1 {r : Nat} {R : RS} (h : Has w0 w (RRes r G R :: Rs)) :
    Calls Try.prog 13 #[.pointer (some ⟨r, 0, none⟩)] w fun e w' => ∃ r', e = .returned (.pointer (some ⟨r', 0, none⟩)) ∧ Has w0 w' (PRes r' r G R R :: Rs) := by
  refine (rclone_any (h.each (RRes r G R) (by simp)).1).mono ?_
  rintro e w' ⟨rfl, hr, ho⟩
  exact ⟨_, rfl, h.pair ho hr (Nat.le_refl _)⟩
theorem has_rnew (h : Has w0 w Rs) (n : Nat) (h1 : 1 ≤ n) (h2 : n ≤ 8192) :
    Calls Try.prog 11 #[.int .i64 n] w fun e w' => ∃ r G, e = .returned (.tuple #[.pointer (some ⟨r, 0, none⟩), .int .i64 0]) ∧ Has w0 w' (RRes r G (RS.new n) :: Rs) := by
  refine (rnew_ok w n h1 h2).mono ?_
  rintro e w' ⟨rfl, hr, ho⟩
  refine ⟨_, _, rfl, h.more ho (RRes (w.heap.size + 1) [w.heap.size] (RS.new n)) hr (fun x hx => ⟨?_, hr.lt x hx⟩)⟩
  simp [RRes] at hx
  omega

/-- A cell of a row of the law's own is written. -/
theorem has_put {t : TypeId} {i : Nat} (h : Has w0 w (BRes gb (.cells A t) :: Rs)) (hi : i < A.size) (u : Value) :
    (∃ u0, w.cell? ⟨gb, i, none⟩ = some u0) ∧ w.frozen? ⟨gb, i, none⟩ = false ∧ Has w0 (w.setCell ⟨gb, i, none⟩ u) (BRes gb (.cells (A.setIfInBounds i u) t) :: Rs) := by
  have hb : w.heap[gb]? = some (.cells A t (0, 0)) := h.blk (by simp)
  refine ⟨⟨_, (cell_of_row _ _ _ _ _ _ hb).trans (Array.getElem?_eq_getElem hi)⟩, by simp [World.frozen?, hb], h.turn (r' := BRes gb (.cells (A.setIfInBounds i u) t)) ((Only.refl [gb] w).setCell (by simp) _) (heap_setCell_row hb _ _) (fun x hx => ⟨.inl hx, ?_⟩)⟩
  simp [BRes] at hx
  subst hx
  simpa using (Array.getElem?_eq_some_iff.1 hb).1
end

/-- The elements of a slice of calls, as the law reads them. -/
structure PlayAt (w : World) (a : Option Addr) (len : Nat) (kd at_ n_ by_ : Nat → Int) (kp : Nat → Value) (keep : Nat → List Int) : Prop where
  cell : ∀ i, i < len → ∃ g o, a = some ⟨g, o, none⟩ ∧ g < w.heap.size ∧ w.cell? ⟨g, o + i * 5, none⟩ = some (.int .i64 (kd i)) ∧ w.cell? ⟨g, o + i * 5 + 1, none⟩ = some (.int .i64 (at_ i)) ∧ w.cell? ⟨g, o + i * 5 + 2, none⟩ = some (.int .i64 (n_ i)) ∧ w.cell? ⟨g, o + i * 5 + 3, none⟩ = some (.int .u8 (by_ i)) ∧ w.cell? ⟨g, o + i * 5 + 4, none⟩ = some (kp i)
  rg : ∀ i, i < len → (-9223372036854775808 ≤ kd i ∧ kd i ≤ 9223372036854775807) ∧ (-9223372036854775808 ≤ n_ i ∧ n_ i ≤ 9223372036854775807)
  kept : ∀ i, i < len → (∀ F : List Nat, (∀ y ∈ F, w.heap.size ≤ y) → KeepAt w F (kp i) (keep i)) ∧ (keep i).length * 8 ≤ 140737488351232

theorem make37 (m : Nat) (hm : m ≤ 70) (w : World) : ∃ A, (Instr.makeSlice 37 (.int .i64 m) (.int .i64 m)).run Try.prog w = .ok (.slice (some ⟨w.heap.size, 0, none⟩) m m) (w.alloc (.cells A 5)) ∧ RowIs A m (fun _ => 0) := by
  obtain ⟨i0, hi, hz0, hz1, hz2⟩ := info_parts info5
  have := run_makeSlice (P := Try.prog) w 37 5 i0 _ Try.underlying37 hi hz0 .i64 .i64 m m (by omega) (Int.le_refl _) (by rw [hz1, Int.toNat_natCast]; omega) (by rw [hz2]; omega) (by omega)
  rw [hz1, Int.toNat_natCast, Nat.mul_one] at this
  exact ⟨_, this, by simp [size_madeCells], fun j hj => by simp [madeCells, hj, Value.cells, Nat.mod_one]⟩
theorem fullA_row (c : Int) : RowIs (fullA c) 64 (fun _ => c) := ⟨by simp [fullA], fun j hj => by simp [fullA, hj]⟩

end Go.Proofs.Ytabddepidhfelaa
