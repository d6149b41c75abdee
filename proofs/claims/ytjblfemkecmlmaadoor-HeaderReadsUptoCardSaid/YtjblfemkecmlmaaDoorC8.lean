/- Get. -/
import Derived.Test.YtjblfemkecmlmaaDoorC7
import Derived.Test.YtjblfemkecmlmaaDoorShelfC
import Derived.Deep.RegionHeld3
import Derived.Lib.SliceRun
set_option linter.unusedSimpArgs false
set_option linter.unusedVariables false
namespace Go.Proofs.YtjblfemkecmlmaaDoor
open Go.RowKit Go.Shelf

/-- A field whose name is no longer than a string may be. -/
abbrev FB := {f : Fld // f.1.length ≤ 9223372036854775807}
instance : Inhabited FB := ⟨⟨([], []), by simp⟩⟩
def encF (f : FB) : List Value := fC f.1
theorem find_from (p : Fld → Bool) (d : FB) : ∀ (F : List Fld) (h : ∀ f ∈ F, f.1.length ≤ 9223372036854775807) (i : Nat),
    (Lib.idxByFrom (fun _ (y : FB) => p y.1) d (F.pmap Subtype.mk h) i = -1 ∧ F.find? p = none) ∨ ∃ k f, F[k]? = some f ∧ F.find? p = some f ∧ Lib.idxByFrom (fun _ (y : FB) => p y.1) d (F.pmap Subtype.mk h) i = ((i + k : Nat) : Int)
  | [], h, i => .inl ⟨rfl, rfl⟩
  | f :: F, h, i => by
    simp only [List.pmap_cons, Lib.idxByFrom, List.find?_cons]
    cases hp : p f
    · rcases find_from p d F (fun g hg => h g (List.mem_cons_of_mem _ hg)) (i + 1) with ⟨h1, h2⟩ | ⟨k, g, h1, h2, h3⟩
      · exact .inl ⟨by simpa using h1, h2⟩
      · exact .inr ⟨k + 1, g, by simpa using h1, h2, by simp only [Bool.false_eq_true, if_false]; rw [h3]; congr 1; omega⟩
    · exact .inr ⟨0, f, rfl, rfl, by simp⟩
theorem cells_pmap (F : List Fld) (h : ∀ f ∈ F, f.1.length ≤ 9223372036854775807) (j : Nat) (hj : j < (F.pmap Subtype.mk h).length) (i : Nat) (v : Value) (hv : (encF (F.pmap Subtype.mk h)[j]!)[i]? = some v) : (F.flatMap fC)[j * 2 + i]? = some v := by
  have hj' : j < F.length := by simpa using hj
  have e : (F.pmap Subtype.mk h)[j]! = ⟨F[j], h _ (List.getElem_mem hj')⟩ := by
    rw [getElem!_pos _ j hj, List.getElem_pmap]
  rw [e] at hv
  unfold encF at hv
  clear e hj
  induction F generalizing j with
  | nil => simp at hj'
  | cons f F ih =>
    rw [List.flatMap_cons]
    have hfl : (fC f).length = 2 := rfl
    cases j with
    | zero =>
      have hi : i < 2 := by have := (List.getElem?_eq_some_iff.1 hv).1; simpa [fC] using this
      rw [List.getElem?_append_left (by rw [hfl]; omega)]
      simpa using hv
    | succ j =>
      rw [List.getElem?_append_right (by rw [hfl]; omega), hfl]
      have := ih (fun g hg => h g (List.mem_cons_of_mem _ hg)) j (by simpa using hj') (by simpa using hv)
      rw [← this]
      congr 1
      omega
def isN (N : List UInt8) (f : Fld) : Bool := smS f.1 == N
theorem cell1_new (w : World) (a : Value) (t : TypeId) : (w.alloc (.cells #[a] t)).cell? ⟨w.heap.size, 0, none⟩ = some a := by
  rw [cell_of_row _ _ _ _ _ _ (heap_alloc_new w _)]
  rfl
set_option maxHeartbeats 1000000 in
set_option maxRecDepth 100000 in
theorem getPred (N : List UInt8) (B : Nat) (w : World) (hB : B < w.heap.size) (hcell : w.cell? ⟨B, 0, none⟩ = some (.string ⟨N.toArray⟩)) :
    PredBelow Tryd.prog 34 #[.pointer (some ⟨B, 0, none⟩)] (fun f : FB => .agg (encF f).toArray) (fun f => isN N f.1) w := fun W f hb => by
  obtain ⟨⟨a, b⟩, hf⟩ := f
  have hW : B < W.heap.size := Nat.lt_of_lt_of_le hB hb.size
  have q2 : W.cell? ⟨B, 0, none⟩ = some (.string ⟨N.toArray⟩) := (hb.cell (p := ⟨B, 0, none⟩) hB).trans hcell
  have c1 := fun w => sm_any a hf w
  show Calls Tryd.prog 34 #[.agg #[.string ⟨a.toArray⟩, .string ⟨b.toArray⟩], .pointer (some ⟨B, 0, none⟩)] W fun e w' => e = .returned (.bool (isN N (a, b))) ∧ Below w.heap.size w w'
  have b0 : Below w.heap.size w (W.alloc (.cells #[.string ⟨a.toArray⟩, .string ⟨b.toArray⟩] 28)) := hb.alloc hb.size _
  have hn0 := heap_alloc_new W (.cells #[.string ⟨a.toArray⟩, .string ⟨b.toArray⟩] 28)
  have r0 : (W.alloc (.cells #[.string ⟨a.toArray⟩, .string ⟨b.toArray⟩] 28)).cell? ⟨W.heap.size, 0, none⟩ = some (.string ⟨a.toArray⟩) := by rw [cell_of_row _ _ _ _ _ _ hn0]; rfl
  have r1 : (W.alloc (.cells #[.string ⟨a.toArray⟩, .string ⟨b.toArray⟩] 28)).cell? ⟨B, 0, none⟩ = some (.string ⟨N.toArray⟩) := by
    rw [((Below.refl W.heap.size W).alloc (Nat.le_refl _) _).cell (p := ⟨B, 0, none⟩) hW]; exact q2
  have hz : W.heap.size < (W.alloc (.cells #[.string ⟨a.toArray⟩, .string ⟨b.toArray⟩] 28)).heap.size := by simp
  have hf : ((⟨(smS a).toArray⟩ : ByteArray).toList == (⟨N.toArray⟩ : ByteArray).toList) = isN N (a, b) := by rw [Lib.toList_data, Lib.toList_data]; rfl
  rw [← hf]
  clear hf
  generalize (⟨a.toArray⟩ : ByteArray) = sa at *
  generalize (⟨(smS a).toArray⟩ : ByteArray) = sm at *
  generalize (⟨N.toArray⟩ : ByteArray) = sn at *
  have hb' := Lib.hid hb
  clear hn0 hcell q2 hb
  go_enter Tryd.func34, Tryd.ntmps34
  go_wp2_with fail
  generalize hw1 : W.alloc (.cells #[.string sa, .string ⟨b.toArray⟩] 28) = w1 at *
  generalize hk : W.heap.size = k at *
  have hBk : B < w1.heap.size := by omega
  go_region_held3 (fun V => V.cell? ⟨k, 0, none⟩ = some (.string sa) ∧ V.cell? ⟨B, 0, none⟩ = some (.string sn)) (go_keep) (first
    | (go_at_call 32; refine (c1 _).mono ?_; rintro e' w2 ⟨rfl, b1⟩; have r2 := (b1.cell (p := ⟨k, 0, none⟩) hz).trans r0; have r3 := (b1.cell (p := ⟨B, 0, none⟩) hBk).trans r1; have B1 := b0.drew.trans (b1.mono (Nat.le_trans hb'.out.size (Nat.le_of_lt (hk ▸ hz)))))
    )
  go_wp2
  go_ret
  exact ⟨rfl, B1⟩
/-- The first field's number. -/
def idxR (N : List UInt8) (F : List Fld) (h : ∀ f ∈ F, f.1.length ≤ 9223372036854775807) : Int := Lib.idxBy (fun _ (y : FB) => isN N y.1) ((F.pmap Subtype.mk h).take F.length) default
theorem idxR_spec (N : List UInt8) (F : List Fld) (h : ∀ f ∈ F, f.1.length ≤ 9223372036854775807) : (idxR N F h = -1 ∧ F.find? (isN N) = none) ∨ ∃ (k : Nat) (f : Fld), F[k]? = some f ∧ F.find? (isN N) = some f ∧ idxR N F h = (k : Int) := by
  have e : (F.pmap Subtype.mk h).take F.length = F.pmap Subtype.mk h := List.take_of_length_le (by simp)
  unfold idxR Lib.idxBy
  rw [e]
  simpa only [Nat.zero_add] using find_from (isN N) default F h 0
set_option maxHeartbeats 1000000 in
set_option maxRecDepth 100000 in
theorem idxfunc_any (N : List UInt8) (v : Value) (F : List Fld) (h : ∀ f ∈ F, f.1.length ≤ 9223372036854775807) (hlen : F.length ≤ 9223372036854775807) (B : Nat) (w : World) (hB : B < w.heap.size) (hcell : w.cell? ⟨B, 0, none⟩ = some (.string ⟨N.toArray⟩)) (hv : FsAt w v F) :
    Calls Tryd.prog 33 #[v, .func (.func 34) #[] #[.pointer (some ⟨B, 0, none⟩)]] w fun e w' => e = .returned (.int .i64 (idxR N F h)) ∧ Below w.heap.size w w' := by
  obtain ⟨a, cap, rfl, hcap, hF⟩ := hv
  rcases hF with rfl | ⟨g, off, rfl, hg, hc⟩
  · have e : idxR N [] h = -1 := rfl
    rw [e]
    clear e hcell hB
    go_enter Tryd.func33, Tryd.ntmps33
    go_wp2
    go_loopw [5, 8] (fun v5 v8 wr => v8 = .int .i64 0 ∧ wr = w) (fun _ _ _ => 0)
    case atStart => exact ⟨rfl, rfl⟩
    case round =>
      obtain ⟨rfl, rfl⟩ := hrel
      go_wp2
      go_ret
      exact ⟨rfl, Below.refl _ _⟩
  · have eg : ∀ args w, (callFunc 34 args).run Tryd.prog w = .ok (.enter 34 args) w := enters_of Tryd.func34 (by kernel_rfl) rfl
    have hcon := AnyQ.slices_IndexFunc Tryd.lidx 2 Tryd.isAgg28 Tryd.sizeOf28 encF (fun _ => rfl) (fun f => isN N f.1) 34 #[.pointer (some ⟨B, 0, none⟩)] eg g off F.length cap (F.pmap Subtype.mk h) w
      (getPred N B w hB hcell) (by simp) hlen hg (fun j hj i v hi => by
        have := hc _ _ (cells_pmap F h j hj i v hi)
        rw [← this, Nat.add_assoc])
    exact hcon
theorem getR_eq (F : List Fld) (name : List UInt8) : getR F name = (F.find? (isN (smS name))).map (·.2) := rfl
theorem fs_at {F : List Fld} {k : Nat} {f : Fld} (h : F[k]? = some f) : (F.flatMap fC)[k * 2 + 1]? = some (sV f.2) := by
  induction F generalizing k with
  | nil => simp at h
  | cons g F ih =>
    rw [List.flatMap_cons]
    have hfl : (fC g).length = 2 := rfl
    cases k with
    | zero =>
      simp at h
      subst h
      rw [List.getElem?_append_left (by rw [hfl]; omega)]
      rfl
    | succ k =>
      rw [List.getElem?_append_right (by rw [hfl]; omega), hfl, ← ih (by simpa using h)]
      congr 1
      omega
theorem fs_at0 {F : List Fld} {k : Nat} {f : Fld} (h : F[k]? = some f) : (F.flatMap fC)[k * 2]? = some (sV f.1) := by
  induction F generalizing k with
  | nil => simp at h
  | cons g F ih =>
    rw [List.flatMap_cons]
    have hfl : (fC g).length = 2 := rfl
    cases k with
    | zero =>
      simp at h
      subst h
      rw [List.getElem?_append_left (by rw [hfl]; omega)]
      rfl
    | succ k =>
      rw [List.getElem?_append_right (by rw [hfl]; omega), hfl, ← ih (by simpa using h)]
      congr 1
      omega
/-- What Get gives. -/
def GetV (o : Option (List UInt8)) : Value := .tuple #[.string ⟨(o.getD []).toArray⟩, .bool o.isSome]
def GPost (o : Option (List UInt8)) (w : World) (e : Ending) (w' : World) : Prop := e = .returned (GetV o) ∧ Below w.heap.size w w'
set_option maxHeartbeats 2000000 in
set_option maxRecDepth 100000 in
theorem get_any (v : Value) (F : List Fld) (name : List UInt8) (h : ∀ f ∈ F, f.1.length ≤ 9223372036854775807) (hn : name.length ≤ 9223372036854775807) (hlen : F.length ≤ 4611686018427387903) (w : World) (hv : FsAt w v F) :
    Calls Tryd.prog 12 #[v, .string ⟨name.toArray⟩] w (GPost (getR F name) w) := by
  have c1 := fun w => sm_any name hn w
  have b0 : Below w.heap.size w (w.alloc (.cells #[.string ⟨name.toArray⟩] 9)) := (Below.refl _ _).alloc (Nat.le_refl _) _
  have r0 := cell1_new w (.string ⟨name.toArray⟩) 9
  have z0 : w.heap.size < (w.alloc (.cells #[.string ⟨name.toArray⟩] 9)).heap.size := by simp
  have k0 : (w.alloc (.cells #[.string ⟨name.toArray⟩] 9)).frozen? ⟨w.heap.size, 0, none⟩ = false := by unfold World.frozen?; simp only [heap_alloc_new w]; rfl
  have HV := Lib.hid hv
  rw [getR_eq]
  obtain ⟨a, cap, hve, hcap, hF⟩ := hv
  subst hve
  generalize hN : smS name = N at *
  unfold GPost
  go_enter Tryd.func12, Tryd.ntmps12
  go_wp2_with fail
  generalize hw0 : w.alloc (.cells #[.string ⟨name.toArray⟩] 9) = w0 at *
  refine (c1 _).mono ?_; rintro e w1 ⟨rfl, b1⟩
  have q1 := (b1.cell (p := ⟨w.heap.size, 0, none⟩) z0).trans r0
  have f1 := (b1.frozen (p := ⟨w.heap.size, 0, none⟩) z0).trans k0
  have B1 := b0.trans (b1.mono (Nat.le_of_lt z0))
  have z1 := Nat.lt_of_lt_of_le z0 b1.size
  clear b1 r0 k0 b0 z0
  go_wp2_with fail
  have B2 : Below w.heap.size w (w1.setCell ⟨w.heap.size, 0, none⟩ (.string ⟨N.toArray⟩)) := B1.setCell (Nat.le_refl _) _
  have q2 : (w1.setCell ⟨w.heap.size, 0, none⟩ (.string ⟨N.toArray⟩)).cell? ⟨w.heap.size, 0, none⟩ = some (.string ⟨N.toArray⟩) := World.cell?_setCell_same _ _ _ q1
  have z2 : w.heap.size < (w1.setCell ⟨w.heap.size, 0, none⟩ (.string ⟨N.toArray⟩)).heap.size := by simpa using z1
  clear B1 q1 f1 z1
  generalize w1.setCell ⟨w.heap.size, 0, none⟩ (.string ⟨N.toArray⟩) = w2 at *
  refine (idxfunc_any N _ F h (by omega) w.heap.size w2 z2 q2 (HV.out.below B2)).mono ?_
  rintro e w3 ⟨rfl, b3⟩
  have B3 := Lib.hid (B2.trans (b3.mono (Nat.le_of_lt z2)))
  rcases idxR_spec N F h with ⟨h1, h2⟩ | ⟨k, f, h1, h2, h3⟩
  · rw [h1]
    have HE := Lib.hid h2
    clear h1 h2
    go_wp2_with fail
    go_ret2
    rw [HE.out]
    exact ⟨rfl, B3.out⟩
  · rw [h3]
    have HE := Lib.hid h2
    have hk := (List.getElem?_eq_some_iff.1 h1).1
    have hc : ∃ g off, a = some ⟨g, off, none⟩ ∧ w3.cell? ⟨g, off + k * 2 + 1, none⟩ = some (.string ⟨f.2.toArray⟩) := by
      rcases hF with rfl | ⟨g, off, rfl, hg, hcell⟩
      · simp at hk
      · exact ⟨g, off, rfl, by rw [B3.out.cell (p := ⟨g, off + k * 2 + 1, none⟩) hg, Nat.add_assoc]; exact hcell _ _ (fs_at h1)⟩
    obtain ⟨g, off, rfl, hcell⟩ := hc
    clear h1 h2 h3 hF HV b3 q2 B2 hN h
    go_wp2_with fail
    go_ret2
    rw [HE.out]
    exact ⟨rfl, B3.out⟩
end Go.Proofs.YtjblfemkecmlmaaDoor
