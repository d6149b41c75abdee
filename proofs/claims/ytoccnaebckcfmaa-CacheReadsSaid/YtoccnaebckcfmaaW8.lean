/- What valid does. -/
import Derived.Test.YtoccnaebckcfmaaW7
set_option linter.unusedSimpArgs false
set_option linter.unusedVariables false
set_option maxRecDepth 8000
namespace Go.Proofs.Ytoccnaebckcfmaa
open Go.RowKit
open Go.ChangeMaps (setBlock)

theorem DAt.lat {w x : World} {b : Nat} {F : List Nat} {S : St} (h : DAt w b F S) (hl : Lat w x) : DAt x b F S := dAt_congr h (fun k hk => hl.2 k (dAt_lt h k hk))

/-! Lists without doubles. -/
theorem length_le_of_nodup : ∀ {K ks : List Int}, K.Nodup → (∀ x ∈ K, x ∈ ks) → K.length ≤ ks.length
  | [], _, _, _ => by simp
  | a :: K, ks, hn, hs => by
    obtain ⟨s, t, rfl⟩ := List.append_of_mem (hs a (by simp))
    obtain ⟨h1, h2⟩ := List.nodup_cons.1 hn
    have := length_le_of_nodup (K := K) (ks := s ++ t) h2 (fun x hx => by
      have h3 := hs x (by simp [hx])
      have : x ≠ a := fun e => h1 (e ▸ hx)
      simp [this] at h3 ⊢
      exact h3)
    simp at this ⊢
    omega
theorem shorter_of_double : ∀ {ks : List Int}, ¬ ks.Nodup → ∃ ks' : List Int, ks'.length < ks.length ∧ ∀ x ∈ ks, x ∈ ks'
  | [], h => absurd List.nodup_nil h
  | a :: ks, h => by
    by_cases ha : a ∈ ks
    · exact ⟨ks, by simp, fun x hx => by rcases List.mem_cons.1 hx with rfl | hx; exact ha; exact hx⟩
    · have : ¬ ks.Nodup := fun hn => h (List.nodup_cons.2 ⟨ha, hn⟩)
      obtain ⟨ks', h1, h2⟩ := shorter_of_double this
      exact ⟨a :: ks', by simp; omega, fun x hx => by rcases List.mem_cons.1 hx with rfl | hx; simp; exact List.mem_cons_of_mem _ (h2 x hx)⟩
theorem length_eq_iff {K ks : List Int} (hn : K.Nodup) (h1 : ∀ x ∈ K, x ∈ ks) (h2 : ∀ x ∈ ks, x ∈ K) : K.length = ks.length ↔ ks.Nodup := by
  constructor
  · intro he
    apply Classical.byContradiction
    intro hd
    obtain ⟨ks', h3, h4⟩ := shorter_of_double hd
    have := length_le_of_nodup hn (fun x hx => h4 x (h1 x hx))
    omega
  · intro hk
    have a := length_le_of_nodup hn h1
    have b := length_le_of_nodup hk h2
    omega

/-! A map that is a set of numbers. -/
def setF (l : List Int) : Int → Option (Array Value) := fun x => if x ∈ l then some #[] else none
theorem setF_add (l : List Int) (x : Int) : updF (setF l) x #[] = setF (l ++ [x]) := by
  funext j
  unfold updF setF
  by_cases h : j = x
  · simp [h]
  · simp [h]
theorem setF_nil : setF [] = fun _ => none := by funext j; simp [setF]
theorem set_len {w : World} {m : Nat} {ks : List Int} (h : MapAt w m (setF ks)) (ty : TypeId) : ∃ n : Nat, (Builtin.len_ #[72] ty #[.map (some m)]).run Try.prog w = .ok (.int .i64 n) w ∧ (n = ks.length ↔ ks.Nodup) := by
  obtain ⟨es, clock, hb, ok⟩ := h
  have hkey : ∀ e ∈ es.toList, ∃ k, e.key = .int .i64 k := fun e he => by obtain ⟨k, v, h1, _⟩ := ok.form e he; exact ⟨k, h1⟩
  let K : List Int := es.toList.map (fun e => intOf e.key)
  have hKn : K.Nodup := by
    rw [List.nodup_iff_pairwise_ne, List.pairwise_map]
    refine ok.keys.imp_of_mem ?_
    intro x y hx hy hne he
    obtain ⟨kx, hx'⟩ := hkey x hx
    obtain ⟨ky, hy'⟩ := hkey y hy
    rw [hx', hy'] at he hne
    simp [intOf] at he
    exact hne (by rw [he])
  have h1 : ∀ x ∈ K, x ∈ ks := fun x hx => by
    obtain ⟨e, he, rfl⟩ := List.mem_map.1 hx
    obtain ⟨k, v, hk, hv⟩ := ok.form e he
    have := (ok.has k v).2 ⟨e, he, hk, hv⟩
    unfold setF at this
    split at this
    · rename_i hm; rw [hk]; exact hm
    · cases this
  have h2 : ∀ x ∈ ks, x ∈ K := fun x hx => by
    obtain ⟨e, he, hk, _⟩ := (ok.has x #[]).1 (by simp [setF, hx])
    exact List.mem_map.2 ⟨e, he, by rw [hk]; rfl⟩
  refine ⟨es.size, ?_, ?_⟩
  · simp [Builtin.len_, run_underlying Try.underlying72, Go.MapKept.run_getObj_map hb, Result.andThen]
    rfl
  · rw [← length_eq_iff hKn h1 h2]
    simp [K]

theorem len51 (ty : TypeId) (p : Option Addr) (n c : Nat) (w : World) : (Builtin.len_ #[34] ty #[.slice p n c]).run Try.prog w = .ok (.int .i64 n) w := by kernel_rfl

section
variable {ops : Array Oper} {rest : List Oper} {o : Oper} {a : Act} {Q : Exit → Act → World → Prop} {w : World}
theorem wpL_update92 {m x y : Operand} {b : Nat} {f : Int → Option (Array Value)} {k : Int} {v : Array Value} (hg : o.guard = none) (ho : o.op = .mapUpdate 72 m x y) (hm : a.eval m = .map (some b)) (hx : a.eval x = .int .i64 k) (hy : a.eval y = .agg v) (hf : MapAt w b f)
    (h : ∀ ob, MapAt (setBlock w b ob) b (updF f k v) → wpList Try.prog ops Q rest (a.put o.dst undef) (setBlock w b ob)) : wpList Try.prog ops Q (o :: rest) a w := by
  obtain ⟨ob, hr, hm'⟩ := hf.update (P := Try.prog) Try.underlying72 Try.underlying3 k v
  refine wpL_skip hg ?_ (h ob hm')
  unfold execOp
  rw [ho]
  simp only [hm, hx, hy, Sem.run_bind, hr, Result.andThen]
  rfl
theorem run_field54 {x : Operand} {b k : Nat} (hk : k < 2) (ho : o.op = .fieldAddr 112 x k) (hx : a.eval x = .pointer (some ⟨b, 0, none⟩)) :
    ∀ w, (execOp a.eval o).run Try.prog w = .ok (.value (.pointer (some ⟨b, k, none⟩))) w := by
  intro w
  unfold execOp
  simp only [ho, hx]
  match k, hk with
  | 0, _ | 1, _ => go_simp
theorem run_len51 {x : Operand} {p : Option Addr} {n c : Nat} (ho : o.op = .call { callee := .builtin .len, args := #[x], argTypes := #[34] }) (hx : a.eval x = .slice p n c) : ∀ w, (execOp a.eval o).run Try.prog w = .ok (.value (.int .i64 n)) w := by
  intro w
  unfold execOp
  simp only [ho, resolve, invoke, builtin, Sem.run_bind, Sem.run_pure, Result.andThen_ok, List.map_toArray, List.map_cons, List.map_nil, hx, len51 _ p n c w]
theorem does_len {x : Operand} {b : Nat} {F : List Nat} {S : St} {t : TypeId} (hd : DAt w b F S) (ho : o.op = .call { callee := .value (.func 45), args := #[x], argTypes := #[t] }) (hx : a.eval x = .pointer (some ⟨b, 0, none⟩)) : Does Try.prog o a w (.int .i64 S.n) w :=
  .inr (.inr ⟨45, _, run_enter1 Try.call45 ho hx, (len_any hd).mono fun e w' h => ⟨h.1, h.2.symm⟩⟩)
end
theorem makeMap92 (n : Nat) (w : World) : (Instr.makeMap 72 (some (.int .i64 n))).run Try.prog w = .ok (.map (some w.heap.size)) (w.alloc (.map #[] 0)) := by kernel_rfl

/-- Puts of whatever kind in memory: their sectors, and how many bytes they have. -/
def RawsAt (w : World) (lv : Value) (rs : List (Int × Nat)) : Prop :=
  ∃ a cap, lv = .slice a rs.length cap ∧ ∀ i r, rs[i]? = some r → r.1 ≤ 9223372036854775807 ∧ ∃ g o ad cap', a = some ⟨g, o, none⟩ ∧ g < w.heap.size ∧ w.cell? ⟨g, o + i * 2, none⟩ = some (.int .i64 r.1) ∧ w.cell? ⟨g, o + i * 2 + 1, none⟩ = some (.slice ad r.2 cap')

/-- A put that may be in a group. -/
def PutOk (a s n : Int) (r : Int × Nat) : Prop := 0 ≤ r.1 ∧ r.1 < n ∧ ¬ (a ≤ r.1 ∧ r.1 - a < s) ∧ r.2 = 64
def GroupOk (a s n : Int) (rs : List (Int × Nat)) : Prop := (rs.length : Int) ≤ roomF s ∧ (∀ r ∈ rs, PutOk a s n r) ∧ (rs.map (·.1)).Nodup

theorem not_group {a s n : Int} {rs : List (Int × Nat)} {r : Int × Nat} (hr : r ∈ rs) (h : ¬ PutOk a s n r) : ¬ GroupOk a s n rs := fun hg => h (hg.2.1 r hr)
def ValidPost (a s n : Int) (rs : List (Int × Nat)) (w : World) (e : Ending) (w' : World) : Prop := ∃ r : Bool, e = .returned (.bool r) ∧ (r = true ↔ GroupOk a s n rs) ∧ Only [] w w'
theorem ValidPost.mk {a s n : Int} {rs : List (Int × Nat)} {w w' : World} {r : Bool} (h : r = true ↔ GroupOk a s n rs) (ho : Only [] w w') : ValidPost a s n rs w (.returned (.bool r)) w' := Exists.intro r ⟨rfl, h, ho⟩
theorem ValidPost.no {a s n : Int} {rs : List (Int × Nat)} {w w' : World} (h : ¬ GroupOk a s n rs) (ho : Only [] w w') : ValidPost a s n rs w (.returned (.bool false)) w' := ValidPost.mk (by simp [h]) ho
set_option maxHeartbeats 2000000 in
theorem valid_any {w : World} {wb b : Nat} {F : List Nat} {S : St} {a s g : Int} {lv : Value} {rs : List (Int × Nat)} (hd : DAt w b F S) (hw : WalAt w wb b a s g) (hl : RawsAt w lv rs) (ha : 0 ≤ a) (ha1 : a ≤ 8192) (hs : 3 ≤ s) (hs1 : s ≤ 8192) :
    Calls Try.prog 70 #[.pointer (some ⟨wb, 0, none⟩), lv] w fun e w' => ValidPost a s S.n rs w e w' := by
  obtain ⟨ad, cap, rfl, hall⟩ := hl
  have R := Lib.hid (room_any s w (by omega))
  have rbd := roomF_bd hs
  obtain ⟨c0, c1, c2, c3, fz⟩ := hw.cells
  by_cases hlen : roomF s < (rs.length : Int)
  · have hlen' : ¬ (rs.length : Int) ≤ roomF s := by omega
    have NG : Hid (¬ GroupOk a s S.n rs) := (fun h : GroupOk a s S.n rs => hlen' h.1)
    clear hall hd hw
    go_enter Try.func70, Try.ntmps70
    go_wp2_with (go_at_call 60; refine R.out.mono ?_; rintro e w' ⟨rfl, rfl⟩)
    go_ret
    exact ValidPost.no NG.out (Only.refl _ _)
  · have hlen' : (rs.length : Int) ≤ roomF s := by omega
    have HALL := Lib.hid hall
    have HD := Lib.hid hd
    have HW := Lib.hid hw
    have C0 := Lib.hid c0
    have hmm := makeMap92 rs.length
    clear hall hd hw c1 c3
    go_enter Try.func70, Try.ntmps70
    go_wp2_with (go_at_call 60; refine R.out.mono ?_; rintro e w' ⟨rfl, rfl⟩)
    go_loopw [28] (fun i wr => ∃ k : Nat, k ≤ rs.length ∧ i = .int .i64 k ∧ MapAt wr w.heap.size (setF ((rs.take k).map (·.1))) ∧ (∀ r ∈ rs.take k, PutOk a s S.n r) ∧ Only [] w wr) (fun i _ => rs.length - (intOf i).toNat)
    case atStart => exact ⟨0, by omega, rfl, by simp only [List.take_zero, List.map_nil, setF_nil]; exact mapAt_made w, by simp, (Only.refl [] w).alloc _⟩
    case round =>
      obtain ⟨k, hk, rfl, hm, hgood, ho⟩ := hrel
      by_cases hlt : k < rs.length
      · obtain ⟨r, hr⟩ : ∃ r, rs[k]? = some r := ⟨_, List.getElem?_eq_getElem hlt⟩
        obtain ⟨hr1, g1, o1, ad1, cap1, rfl, hg1, q0, q1⟩ := HALL.out k r hr
        have p0 : wr.cell? ⟨g1, o1 + k * 2, none⟩ = some (.int .i64 r.1) := (World.cell?_of_block (ho.block g1 hg1 (by simp))).trans q0
        have p1 : wr.cell? ⟨g1, o1 + k * 2 + 1, none⟩ = some (.slice ad1 r.2 cap1) := (World.cell?_of_block (ho.block g1 hg1 (by simp))).trans q1
        have hrm : r ∈ rs := List.mem_of_getElem? hr
        have KEEP := Lib.hid (And.intro hm (And.intro hgood (And.intro ho hr)))
        clear q0 q1 hm hgood ho hr
        go_wp2_with fail
        have oa : Only [] w (wr.alloc (.cells #[.int .i64 r.1, .slice ad1 r.2 cap1] 112)).drew := (KEEP.out.2.2.1.alloc _).drew
        have hblk : (wr.alloc (.cells #[.int .i64 r.1, .slice ad1 r.2 cap1] 112)).drew.heap[wr.heap.size]? = some (.cells #[.int .i64 r.1, .slice ad1 r.2 cap1] 112 (0, 0)) := heap_alloc_last wr _
        have hmm2 : MapAt (wr.alloc (.cells #[.int .i64 r.1, .slice ad1 r.2 cap1] 112)).drew w.heap.size (setF ((rs.take k).map (·.1))) := mapAt_congr KEEP.out.1 (Below.heap_alloc _ _ _ (mapAt_lt KEEP.out.1))
        have e0 : (wr.alloc (.cells #[.int .i64 r.1, .slice ad1 r.2 cap1] 112)).drew.cell? ⟨wr.heap.size, 0, none⟩ = some (.int .i64 r.1) := by rw [cell_of_row _ _ _ _ _ _ hblk]; rfl
        have e1 : (wr.alloc (.cells #[.int .i64 r.1, .slice ad1 r.2 cap1] 112)).drew.cell? ⟨wr.heap.size, 1, none⟩ = some (.slice ad1 r.2 cap1) := by rw [cell_of_row _ _ _ _ _ _ hblk]; rfl
        have f0 : (wr.alloc (.cells #[.int .i64 r.1, .slice ad1 r.2 cap1] 112)).drew.cell? ⟨wb, 0, none⟩ = some (.pointer (some ⟨b, 0, none⟩)) := (HW.out.only oa (by simp)).cells.1
        have hd2 := HD.out.only oa (by simp)
        have hw2 := HW.out.only oa (by simp)
        have hsz : wr.heap.size < (wr.alloc (.cells #[.int .i64 r.1, .slice ad1 r.2 cap1] 112)).drew.heap.size := (Array.getElem?_eq_some_iff.1 hblk).1
        by_cases hc : r.1 < 0
        · have WHY : Hid (¬ PutOk a s S.n r) := (fun h : PutOk a s S.n r => absurd h.1 (by omega))
          refine wp_region_flowR Lat [0, 1, 0, 0, 0, 1, 0, 0, 0, 1, 1, 0, 0, 0, 0, 0, 1, 2, 0, 0, 0, 1, 0, 0, 0] (by kernel_rfl) (by kernel_rfl) Lat.refl Lat.trans ?_
          refine fr0 rfl (run_field54 (by omega) rfl rfl) ?_
          simp only [Act.put, List.setIfInBounds_toArray, List.set_cons_succ, List.set_cons_zero]
          refine fr1 (u := .int .i64 r.1) rfl (fun x hx => run_load1 rfl rfl (hx.cell e0) isAgg3) ?_
          simp only [Act.put, List.setIfInBounds_toArray, List.set_cons_succ, List.set_cons_zero]
          refine fr0 (u := .bool true) rfl (fun w => (run_lss rfl rfl rfl w).trans (by rw [decide_eq_true hc])) ?_
          simp only [Act.put, List.setIfInBounds_toArray, List.set_cons_succ, List.set_cons_zero]
          refine fr0 (u := .bool true) rfl (fun _ => rfl) ?_
          simp only [Act.put, List.setIfInBounds_toArray, List.set_cons_succ, List.set_cons_zero]
          refine frx (by kernel_rfl) ?_
          simp only [Act.put, List.setIfInBounds_toArray, List.set_cons_succ, List.set_cons_zero]
          refine frx (by kernel_rfl) ?_
          simp only [Act.put, List.setIfInBounds_toArray, List.set_cons_succ, List.set_cons_zero]
          refine frx (by kernel_rfl) ?_
          simp only [Act.put, List.setIfInBounds_toArray, List.set_cons_succ, List.set_cons_zero]
          refine frx (by kernel_rfl) ?_
          simp only [Act.put, List.setIfInBounds_toArray, List.set_cons_succ, List.set_cons_zero]
          refine frx (by kernel_rfl) ?_
          simp only [Act.put, List.setIfInBounds_toArray, List.set_cons_succ, List.set_cons_zero]
          refine frx (by kernel_rfl) ?_
          simp only [Act.put, List.setIfInBounds_toArray, List.set_cons_succ, List.set_cons_zero]
          refine frx (by kernel_rfl) ?_
          simp only [Act.put, List.setIfInBounds_toArray, List.set_cons_succ, List.set_cons_zero]
          refine frx (by kernel_rfl) ?_
          simp only [Act.put, List.setIfInBounds_toArray, List.set_cons_succ, List.set_cons_zero]
          refine fr0 (u := .bool true) rfl (fun _ => rfl) ?_
          simp only [Act.put, List.setIfInBounds_toArray, List.set_cons_succ, List.set_cons_zero]
          refine fr0 (u := .bool true) rfl (fun _ => rfl) ?_
          simp only [Act.put, List.setIfInBounds_toArray, List.set_cons_succ, List.set_cons_zero]
          refine frx (by kernel_rfl) ?_
          simp only [Act.put, List.setIfInBounds_toArray, List.set_cons_succ, List.set_cons_zero]
          refine frx (by kernel_rfl) ?_
          simp only [Act.put, List.setIfInBounds_toArray, List.set_cons_succ, List.set_cons_zero]
          refine frx (by kernel_rfl) ?_
          simp only [Act.put, List.setIfInBounds_toArray, List.set_cons_succ, List.set_cons_zero]
          refine frx (by kernel_rfl) ?_
          simp only [Act.put, List.setIfInBounds_toArray, List.set_cons_succ, List.set_cons_zero]
          refine fr0 (u := .bool true) rfl (fun _ => rfl) ?_
          simp only [Act.put, List.setIfInBounds_toArray, List.set_cons_succ, List.set_cons_zero]
          refine fr0 (u := .bool true) rfl (fun _ => rfl) ?_
          simp only [Act.put, List.setIfInBounds_toArray, List.set_cons_succ, List.set_cons_zero]
          refine frx (by kernel_rfl) ?_
          simp only [Act.put, List.setIfInBounds_toArray, List.set_cons_succ, List.set_cons_zero]
          refine frx (by kernel_rfl) ?_
          simp only [Act.put, List.setIfInBounds_toArray, List.set_cons_succ, List.set_cons_zero]
          refine frx (by kernel_rfl) ?_
          simp only [Act.put, List.setIfInBounds_toArray, List.set_cons_succ, List.set_cons_zero]
          refine frx (by kernel_rfl) ?_
          simp only [Act.put, List.setIfInBounds_toArray, List.set_cons_succ, List.set_cons_zero]
          refine fr0 (u := .bool true) rfl (fun _ => rfl) ?_
          simp only [Act.put, List.setIfInBounds_toArray, List.set_cons_succ, List.set_cons_zero]
          refine frnil ?_
          show Exit.then _ _ _ _ _
          go_wp2
          go_ret
          exact ValidPost.no (not_group hrm (WHY.out)) (oa)
        by_cases hc2 : S.n ≤ r.1
        · have WHY : Hid (¬ PutOk a s S.n r) := (fun h : PutOk a s S.n r => absurd h.2.1 (by omega))
          refine wp_region_flowR Lat [0, 1, 0, 0, 0, 1, 0, 0, 0, 1, 1, 0, 0, 0, 0, 0, 1, 2, 0, 0, 0, 1, 0, 0, 0] (by kernel_rfl) (by kernel_rfl) Lat.refl Lat.trans ?_
          refine fr0 rfl (run_field54 (by omega) rfl rfl) ?_
          simp only [Act.put, List.setIfInBounds_toArray, List.set_cons_succ, List.set_cons_zero]
          refine fr1 (u := .int .i64 r.1) rfl (fun x hx => run_load1 rfl rfl (hx.cell e0) isAgg3) ?_
          simp only [Act.put, List.setIfInBounds_toArray, List.set_cons_succ, List.set_cons_zero]
          refine fr0 (u := .bool false) rfl (fun w => (run_lss rfl rfl rfl w).trans (by rw [decide_eq_false (show ¬ r.1 < 0 by omega)])) ?_
          simp only [Act.put, List.setIfInBounds_toArray, List.set_cons_succ, List.set_cons_zero]
          refine fr0 (u := .bool false) rfl (fun _ => rfl) ?_
          simp only [Act.put, List.setIfInBounds_toArray, List.set_cons_succ, List.set_cons_zero]
          refine fr0 (by kernel_rfl) (run_field54 (by omega) rfl rfl) ?_
          simp only [Act.put, List.setIfInBounds_toArray, List.set_cons_succ, List.set_cons_zero]
          refine fr1 (u := .int .i64 r.1) (by kernel_rfl) (fun x hx => run_load1 rfl rfl (hx.cell e0) isAgg3) ?_
          simp only [Act.put, List.setIfInBounds_toArray, List.set_cons_succ, List.set_cons_zero]
          refine fr0 (by kernel_rfl) (fun _ => rfl) ?_
          simp only [Act.put, List.setIfInBounds_toArray, List.set_cons_succ, List.set_cons_zero]
          refine fr0 (by kernel_rfl) (fun _ => rfl) ?_
          simp only [Act.put, List.setIfInBounds_toArray, List.set_cons_succ, List.set_cons_zero]
          refine fr0 (by kernel_rfl) (run_field75 (by omega) rfl rfl) ?_
          simp only [Act.put, List.setIfInBounds_toArray, List.set_cons_succ, List.set_cons_zero]
          refine fr1 (u := .pointer (some ⟨b, 0, none⟩)) (by kernel_rfl) (fun x hx => run_load1 rfl rfl (hx.cell f0) isAgg25) ?_
          simp only [Act.put, List.setIfInBounds_toArray, List.set_cons_succ, List.set_cons_zero]
          refine fr1c (u := .int .i64 S.n) (by kernel_rfl) (fun x hx => does_len (hd2.lat hx) rfl rfl) ?_
          simp only [Act.put, List.setIfInBounds_toArray, List.set_cons_succ, List.set_cons_zero]
          refine fr0 (u := .bool true) (by kernel_rfl) (fun w => (run_geq rfl rfl rfl w).trans (by rw [decide_eq_true hc2])) ?_
          simp only [Act.put, List.setIfInBounds_toArray, List.set_cons_succ, List.set_cons_zero]
          refine fr0 (u := .bool true) rfl (fun _ => rfl) ?_
          simp only [Act.put, List.setIfInBounds_toArray, List.set_cons_succ, List.set_cons_zero]
          refine fr0 (u := .bool true) rfl (fun _ => rfl) ?_
          simp only [Act.put, List.setIfInBounds_toArray, List.set_cons_succ, List.set_cons_zero]
          refine frx (by kernel_rfl) ?_
          simp only [Act.put, List.setIfInBounds_toArray, List.set_cons_succ, List.set_cons_zero]
          refine frx (by kernel_rfl) ?_
          simp only [Act.put, List.setIfInBounds_toArray, List.set_cons_succ, List.set_cons_zero]
          refine frx (by kernel_rfl) ?_
          simp only [Act.put, List.setIfInBounds_toArray, List.set_cons_succ, List.set_cons_zero]
          refine frx (by kernel_rfl) ?_
          simp only [Act.put, List.setIfInBounds_toArray, List.set_cons_succ, List.set_cons_zero]
          refine fr0 (u := .bool true) rfl (fun _ => rfl) ?_
          simp only [Act.put, List.setIfInBounds_toArray, List.set_cons_succ, List.set_cons_zero]
          refine fr0 (u := .bool true) rfl (fun _ => rfl) ?_
          simp only [Act.put, List.setIfInBounds_toArray, List.set_cons_succ, List.set_cons_zero]
          refine frx (by kernel_rfl) ?_
          simp only [Act.put, List.setIfInBounds_toArray, List.set_cons_succ, List.set_cons_zero]
          refine frx (by kernel_rfl) ?_
          simp only [Act.put, List.setIfInBounds_toArray, List.set_cons_succ, List.set_cons_zero]
          refine frx (by kernel_rfl) ?_
          simp only [Act.put, List.setIfInBounds_toArray, List.set_cons_succ, List.set_cons_zero]
          refine frx (by kernel_rfl) ?_
          simp only [Act.put, List.setIfInBounds_toArray, List.set_cons_succ, List.set_cons_zero]
          refine fr0 (u := .bool true) rfl (fun _ => rfl) ?_
          simp only [Act.put, List.setIfInBounds_toArray, List.set_cons_succ, List.set_cons_zero]
          refine frnil ?_
          show Exit.then _ _ _ _ _
          go_wp2
          go_ret
          exact ValidPost.no (not_group hrm (WHY.out)) (oa)
        by_cases hc3 : a ≤ r.1 ∧ r.1 - a < s
        · have WHY : Hid (¬ PutOk a s S.n r) := (fun h : PutOk a s S.n r => h.2.2.1 hc3)
          refine wp_region_flowR Lat [0, 1, 0, 0, 0, 1, 0, 0, 0, 1, 1, 0, 0, 0, 0, 0, 1, 2, 0, 0, 0, 1, 0, 0, 0] (by kernel_rfl) (by kernel_rfl) Lat.refl Lat.trans ?_
          refine fr0 rfl (run_field54 (by omega) rfl rfl) ?_
          simp only [Act.put, List.setIfInBounds_toArray, List.set_cons_succ, List.set_cons_zero]
          refine fr1 (u := .int .i64 r.1) rfl (fun x hx => run_load1 rfl rfl (hx.cell e0) isAgg3) ?_
          simp only [Act.put, List.setIfInBounds_toArray, List.set_cons_succ, List.set_cons_zero]
          refine fr0 (u := .bool false) rfl (fun w => (run_lss rfl rfl rfl w).trans (by rw [decide_eq_false (show ¬ r.1 < 0 by omega)])) ?_
          simp only [Act.put, List.setIfInBounds_toArray, List.set_cons_succ, List.set_cons_zero]
          refine fr0 (u := .bool false) rfl (fun _ => rfl) ?_
          simp only [Act.put, List.setIfInBounds_toArray, List.set_cons_succ, List.set_cons_zero]
          refine fr0 (by kernel_rfl) (run_field54 (by omega) rfl rfl) ?_
          simp only [Act.put, List.setIfInBounds_toArray, List.set_cons_succ, List.set_cons_zero]
          refine fr1 (u := .int .i64 r.1) (by kernel_rfl) (fun x hx => run_load1 rfl rfl (hx.cell e0) isAgg3) ?_
          simp only [Act.put, List.setIfInBounds_toArray, List.set_cons_succ, List.set_cons_zero]
          refine fr0 (by kernel_rfl) (fun _ => rfl) ?_
          simp only [Act.put, List.setIfInBounds_toArray, List.set_cons_succ, List.set_cons_zero]
          refine fr0 (by kernel_rfl) (fun _ => rfl) ?_
          simp only [Act.put, List.setIfInBounds_toArray, List.set_cons_succ, List.set_cons_zero]
          refine fr0 (by kernel_rfl) (run_field75 (by omega) rfl rfl) ?_
          simp only [Act.put, List.setIfInBounds_toArray, List.set_cons_succ, List.set_cons_zero]
          refine fr1 (u := .pointer (some ⟨b, 0, none⟩)) (by kernel_rfl) (fun x hx => run_load1 rfl rfl (hx.cell f0) isAgg25) ?_
          simp only [Act.put, List.setIfInBounds_toArray, List.set_cons_succ, List.set_cons_zero]
          refine fr1c (u := .int .i64 S.n) (by kernel_rfl) (fun x hx => does_len (hd2.lat hx) rfl rfl) ?_
          simp only [Act.put, List.setIfInBounds_toArray, List.set_cons_succ, List.set_cons_zero]
          refine fr0 (u := .bool false) (by kernel_rfl) (fun w => (run_geq rfl rfl rfl w).trans (by rw [decide_eq_false (show ¬ S.n ≤ r.1 by omega)])) ?_
          simp only [Act.put, List.setIfInBounds_toArray, List.set_cons_succ, List.set_cons_zero]
          refine fr0 (u := .bool false) rfl (fun _ => rfl) ?_
          simp only [Act.put, List.setIfInBounds_toArray, List.set_cons_succ, List.set_cons_zero]
          refine fr0 (u := .bool false) rfl (fun _ => rfl) ?_
          simp only [Act.put, List.setIfInBounds_toArray, List.set_cons_succ, List.set_cons_zero]
          refine fr0 (by kernel_rfl) (fun _ => rfl) ?_
          simp only [Act.put, List.setIfInBounds_toArray, List.set_cons_succ, List.set_cons_zero]
          refine fr0 (by kernel_rfl) (run_field54 (by omega) rfl rfl) ?_
          simp only [Act.put, List.setIfInBounds_toArray, List.set_cons_succ, List.set_cons_zero]
          refine fr1 (u := .int .i64 r.1) (by kernel_rfl) (fun x hx => run_load1 rfl rfl (hx.cell e0) isAgg3) ?_
          simp only [Act.put, List.setIfInBounds_toArray, List.set_cons_succ, List.set_cons_zero]
          refine fr2c (by kernel_rfl) (run_enter2 Try.call82 rfl rfl rfl) (owns_any hw2 r.1 ha (by omega) hr1) ?_
          rintro e w3 ⟨rfl, o3⟩
          rw [decide_eq_true hc3]
          refine ⟨_, rfl, o3.lat, ?_⟩
          simp only [Act.put, List.setIfInBounds_toArray, List.set_cons_succ, List.set_cons_zero]
          refine fr0 (u := .bool true) rfl (fun _ => rfl) ?_
          simp only [Act.put, List.setIfInBounds_toArray, List.set_cons_succ, List.set_cons_zero]
          refine fr0 (u := .bool true) rfl (fun _ => rfl) ?_
          simp only [Act.put, List.setIfInBounds_toArray, List.set_cons_succ, List.set_cons_zero]
          refine frx (by kernel_rfl) ?_
          simp only [Act.put, List.setIfInBounds_toArray, List.set_cons_succ, List.set_cons_zero]
          refine frx (by kernel_rfl) ?_
          simp only [Act.put, List.setIfInBounds_toArray, List.set_cons_succ, List.set_cons_zero]
          refine frx (by kernel_rfl) ?_
          simp only [Act.put, List.setIfInBounds_toArray, List.set_cons_succ, List.set_cons_zero]
          refine frx (by kernel_rfl) ?_
          simp only [Act.put, List.setIfInBounds_toArray, List.set_cons_succ, List.set_cons_zero]
          refine fr0 (u := .bool true) rfl (fun _ => rfl) ?_
          simp only [Act.put, List.setIfInBounds_toArray, List.set_cons_succ, List.set_cons_zero]
          refine frnil ?_
          show Exit.then _ _ _ _ _
          go_wp2
          go_ret
          exact ValidPost.no (not_group hrm (WHY.out)) (oa.trans o3 (by simp))
        cases hc4 : ((r.2 : Int) != 64) with
        | true =>
          have WHY : Hid (¬ PutOk a s S.n r) := (fun h : PutOk a s S.n r => by have := h.2.2.2; simp at hc4; omega)
          refine wp_region_flowR Lat [0, 1, 0, 0, 0, 1, 0, 0, 0, 1, 1, 0, 0, 0, 0, 0, 1, 2, 0, 0, 0, 1, 0, 0, 0] (by kernel_rfl) (by kernel_rfl) Lat.refl Lat.trans ?_
          refine fr0 rfl (run_field54 (by omega) rfl rfl) ?_
          simp only [Act.put, List.setIfInBounds_toArray, List.set_cons_succ, List.set_cons_zero]
          refine fr1 (u := .int .i64 r.1) rfl (fun x hx => run_load1 rfl rfl (hx.cell e0) isAgg3) ?_
          simp only [Act.put, List.setIfInBounds_toArray, List.set_cons_succ, List.set_cons_zero]
          refine fr0 (u := .bool false) rfl (fun w => (run_lss rfl rfl rfl w).trans (by rw [decide_eq_false (show ¬ r.1 < 0 by omega)])) ?_
          simp only [Act.put, List.setIfInBounds_toArray, List.set_cons_succ, List.set_cons_zero]
          refine fr0 (u := .bool false) rfl (fun _ => rfl) ?_
          simp only [Act.put, List.setIfInBounds_toArray, List.set_cons_succ, List.set_cons_zero]
          refine fr0 (by kernel_rfl) (run_field54 (by omega) rfl rfl) ?_
          simp only [Act.put, List.setIfInBounds_toArray, List.set_cons_succ, List.set_cons_zero]
          refine fr1 (u := .int .i64 r.1) (by kernel_rfl) (fun x hx => run_load1 rfl rfl (hx.cell e0) isAgg3) ?_
          simp only [Act.put, List.setIfInBounds_toArray, List.set_cons_succ, List.set_cons_zero]
          refine fr0 (by kernel_rfl) (fun _ => rfl) ?_
          simp only [Act.put, List.setIfInBounds_toArray, List.set_cons_succ, List.set_cons_zero]
          refine fr0 (by kernel_rfl) (fun _ => rfl) ?_
          simp only [Act.put, List.setIfInBounds_toArray, List.set_cons_succ, List.set_cons_zero]
          refine fr0 (by kernel_rfl) (run_field75 (by omega) rfl rfl) ?_
          simp only [Act.put, List.setIfInBounds_toArray, List.set_cons_succ, List.set_cons_zero]
          refine fr1 (u := .pointer (some ⟨b, 0, none⟩)) (by kernel_rfl) (fun x hx => run_load1 rfl rfl (hx.cell f0) isAgg25) ?_
          simp only [Act.put, List.setIfInBounds_toArray, List.set_cons_succ, List.set_cons_zero]
          refine fr1c (u := .int .i64 S.n) (by kernel_rfl) (fun x hx => does_len (hd2.lat hx) rfl rfl) ?_
          simp only [Act.put, List.setIfInBounds_toArray, List.set_cons_succ, List.set_cons_zero]
          refine fr0 (u := .bool false) (by kernel_rfl) (fun w => (run_geq rfl rfl rfl w).trans (by rw [decide_eq_false (show ¬ S.n ≤ r.1 by omega)])) ?_
          simp only [Act.put, List.setIfInBounds_toArray, List.set_cons_succ, List.set_cons_zero]
          refine fr0 (u := .bool false) rfl (fun _ => rfl) ?_
          simp only [Act.put, List.setIfInBounds_toArray, List.set_cons_succ, List.set_cons_zero]
          refine fr0 (u := .bool false) rfl (fun _ => rfl) ?_
          simp only [Act.put, List.setIfInBounds_toArray, List.set_cons_succ, List.set_cons_zero]
          refine fr0 (by kernel_rfl) (fun _ => rfl) ?_
          simp only [Act.put, List.setIfInBounds_toArray, List.set_cons_succ, List.set_cons_zero]
          refine fr0 (by kernel_rfl) (run_field54 (by omega) rfl rfl) ?_
          simp only [Act.put, List.setIfInBounds_toArray, List.set_cons_succ, List.set_cons_zero]
          refine fr1 (u := .int .i64 r.1) (by kernel_rfl) (fun x hx => run_load1 rfl rfl (hx.cell e0) isAgg3) ?_
          simp only [Act.put, List.setIfInBounds_toArray, List.set_cons_succ, List.set_cons_zero]
          refine fr2c (by kernel_rfl) (run_enter2 Try.call82 rfl rfl rfl) (owns_any hw2 r.1 ha (by omega) hr1) ?_
          rintro e w3 ⟨rfl, o3⟩
          rw [decide_eq_false hc3]
          have e1b := o3.lat.cell e1
          have e0b := o3.lat.cell e0
          refine ⟨_, rfl, o3.lat, ?_⟩
          simp only [Act.put, List.setIfInBounds_toArray, List.set_cons_succ, List.set_cons_zero]
          refine fr0 (u := .bool false) rfl (fun _ => rfl) ?_
          simp only [Act.put, List.setIfInBounds_toArray, List.set_cons_succ, List.set_cons_zero]
          refine fr0 (u := .bool false) rfl (fun _ => rfl) ?_
          simp only [Act.put, List.setIfInBounds_toArray, List.set_cons_succ, List.set_cons_zero]
          refine fr0 (by kernel_rfl) (run_field54 (by omega) rfl rfl) ?_
          simp only [Act.put, List.setIfInBounds_toArray, List.set_cons_succ, List.set_cons_zero]
          refine fr1 (u := .slice ad1 r.2 cap1) (by kernel_rfl) (fun x hx => run_load1 rfl rfl (hx.cell e1b) isAgg51) ?_
          simp only [Act.put, List.setIfInBounds_toArray, List.set_cons_succ, List.set_cons_zero]
          refine fr0 (u := .int .i64 (r.2 : Int)) (by kernel_rfl) (run_len51 rfl rfl) ?_
          simp only [Act.put, List.setIfInBounds_toArray, List.set_cons_succ, List.set_cons_zero]
          refine fr0 (u := .bool true) (by kernel_rfl) (fun w => (run_neq rfl rfl rfl w).trans (by rw [hc4])) ?_
          simp only [Act.put, List.setIfInBounds_toArray, List.set_cons_succ, List.set_cons_zero]
          refine fr0 (u := .bool true) rfl (fun _ => rfl) ?_
          simp only [Act.put, List.setIfInBounds_toArray, List.set_cons_succ, List.set_cons_zero]
          refine frnil ?_
          show Exit.then _ _ _ _ _
          go_wp2
          go_ret
          exact ValidPost.no (not_group hrm (WHY.out)) (oa.trans o3 (by simp))
        | false =>
          have GOOD : Hid (PutOk a s S.n r) := (⟨by omega, by omega, hc3, by simp at hc4; omega⟩ : PutOk a s S.n r)
          refine wp_region_flowR Lat [0, 1, 0, 0, 0, 1, 0, 0, 0, 1, 1, 0, 0, 0, 0, 0, 1, 2, 0, 0, 0, 1, 0, 0, 0] (by kernel_rfl) (by kernel_rfl) Lat.refl Lat.trans ?_
          refine fr0 rfl (run_field54 (by omega) rfl rfl) ?_
          simp only [Act.put, List.setIfInBounds_toArray, List.set_cons_succ, List.set_cons_zero]
          refine fr1 (u := .int .i64 r.1) rfl (fun x hx => run_load1 rfl rfl (hx.cell e0) isAgg3) ?_
          simp only [Act.put, List.setIfInBounds_toArray, List.set_cons_succ, List.set_cons_zero]
          refine fr0 (u := .bool false) rfl (fun w => (run_lss rfl rfl rfl w).trans (by rw [decide_eq_false (show ¬ r.1 < 0 by omega)])) ?_
          simp only [Act.put, List.setIfInBounds_toArray, List.set_cons_succ, List.set_cons_zero]
          refine fr0 (u := .bool false) rfl (fun _ => rfl) ?_
          simp only [Act.put, List.setIfInBounds_toArray, List.set_cons_succ, List.set_cons_zero]
          refine fr0 (by kernel_rfl) (run_field54 (by omega) rfl rfl) ?_
          simp only [Act.put, List.setIfInBounds_toArray, List.set_cons_succ, List.set_cons_zero]
          refine fr1 (u := .int .i64 r.1) (by kernel_rfl) (fun x hx => run_load1 rfl rfl (hx.cell e0) isAgg3) ?_
          simp only [Act.put, List.setIfInBounds_toArray, List.set_cons_succ, List.set_cons_zero]
          refine fr0 (by kernel_rfl) (fun _ => rfl) ?_
          simp only [Act.put, List.setIfInBounds_toArray, List.set_cons_succ, List.set_cons_zero]
          refine fr0 (by kernel_rfl) (fun _ => rfl) ?_
          simp only [Act.put, List.setIfInBounds_toArray, List.set_cons_succ, List.set_cons_zero]
          refine fr0 (by kernel_rfl) (run_field75 (by omega) rfl rfl) ?_
          simp only [Act.put, List.setIfInBounds_toArray, List.set_cons_succ, List.set_cons_zero]
          refine fr1 (u := .pointer (some ⟨b, 0, none⟩)) (by kernel_rfl) (fun x hx => run_load1 rfl rfl (hx.cell f0) isAgg25) ?_
          simp only [Act.put, List.setIfInBounds_toArray, List.set_cons_succ, List.set_cons_zero]
          refine fr1c (u := .int .i64 S.n) (by kernel_rfl) (fun x hx => does_len (hd2.lat hx) rfl rfl) ?_
          simp only [Act.put, List.setIfInBounds_toArray, List.set_cons_succ, List.set_cons_zero]
          refine fr0 (u := .bool false) (by kernel_rfl) (fun w => (run_geq rfl rfl rfl w).trans (by rw [decide_eq_false (show ¬ S.n ≤ r.1 by omega)])) ?_
          simp only [Act.put, List.setIfInBounds_toArray, List.set_cons_succ, List.set_cons_zero]
          refine fr0 (u := .bool false) rfl (fun _ => rfl) ?_
          simp only [Act.put, List.setIfInBounds_toArray, List.set_cons_succ, List.set_cons_zero]
          refine fr0 (u := .bool false) rfl (fun _ => rfl) ?_
          simp only [Act.put, List.setIfInBounds_toArray, List.set_cons_succ, List.set_cons_zero]
          refine fr0 (by kernel_rfl) (fun _ => rfl) ?_
          simp only [Act.put, List.setIfInBounds_toArray, List.set_cons_succ, List.set_cons_zero]
          refine fr0 (by kernel_rfl) (run_field54 (by omega) rfl rfl) ?_
          simp only [Act.put, List.setIfInBounds_toArray, List.set_cons_succ, List.set_cons_zero]
          refine fr1 (u := .int .i64 r.1) (by kernel_rfl) (fun x hx => run_load1 rfl rfl (hx.cell e0) isAgg3) ?_
          simp only [Act.put, List.setIfInBounds_toArray, List.set_cons_succ, List.set_cons_zero]
          refine fr2c (by kernel_rfl) (run_enter2 Try.call82 rfl rfl rfl) (owns_any hw2 r.1 ha (by omega) hr1) ?_
          rintro e w3 ⟨rfl, o3⟩
          rw [decide_eq_false hc3]
          have e1b := o3.lat.cell e1
          have e0b := o3.lat.cell e0
          refine ⟨_, rfl, o3.lat, ?_⟩
          simp only [Act.put, List.setIfInBounds_toArray, List.set_cons_succ, List.set_cons_zero]
          refine fr0 (u := .bool false) rfl (fun _ => rfl) ?_
          simp only [Act.put, List.setIfInBounds_toArray, List.set_cons_succ, List.set_cons_zero]
          refine fr0 (u := .bool false) rfl (fun _ => rfl) ?_
          simp only [Act.put, List.setIfInBounds_toArray, List.set_cons_succ, List.set_cons_zero]
          refine fr0 (by kernel_rfl) (run_field54 (by omega) rfl rfl) ?_
          simp only [Act.put, List.setIfInBounds_toArray, List.set_cons_succ, List.set_cons_zero]
          refine fr1 (u := .slice ad1 r.2 cap1) (by kernel_rfl) (fun x hx => run_load1 rfl rfl (hx.cell e1b) isAgg51) ?_
          simp only [Act.put, List.setIfInBounds_toArray, List.set_cons_succ, List.set_cons_zero]
          refine fr0 (u := .int .i64 (r.2 : Int)) (by kernel_rfl) (run_len51 rfl rfl) ?_
          simp only [Act.put, List.setIfInBounds_toArray, List.set_cons_succ, List.set_cons_zero]
          refine fr0 (u := .bool false) (by kernel_rfl) (fun w => (run_neq rfl rfl rfl w).trans (by rw [hc4])) ?_
          simp only [Act.put, List.setIfInBounds_toArray, List.set_cons_succ, List.set_cons_zero]
          refine fr0 (u := .bool false) rfl (fun _ => rfl) ?_
          simp only [Act.put, List.setIfInBounds_toArray, List.set_cons_succ, List.set_cons_zero]
          refine frnil ?_
          have hm3 : MapAt w3 w.heap.size (setF ((rs.take k).map (·.1))) := mapAt_congr hmm2 (o3.block _ (mapAt_lt hmm2) (by simp))
          show Exit.then _ _ _ _ _
          go_wp2_with (refine wpL_update92 rfl rfl rfl rfl rfl hm3 ?_; intro ob hm4)
          go_roundw
          case rel =>
            obtain ⟨hm, hgood, ho, hr⟩ := KEEP.out
            have ht : rs.take (k + 1) = rs.take k ++ [r] := by rw [List.take_add_one, hr]; rfl
            refine ⟨k + 1, by omega, by go_num, ?_, ?_, (oa.trans o3 (by simp)).setBlock (by simp) _⟩
            · rw [ht, List.map_append, List.map_cons, List.map_nil, ← setF_add]
              exact hm4
            · rw [ht]
              intro x hx
              rcases List.mem_append.1 hx with hx | hx
              · exact hgood x hx
              · simp at hx; rw [hx]; exact GOOD.out
          case measure => simp [intOf]; omega
      · have hkl : k = rs.length := by omega
        subst hkl
        rw [List.take_length] at hm hgood
        obtain ⟨n, hn1, hn2⟩ := set_len hm 3
        have KEEP := Lib.hid (And.intro hgood (And.intro ho hn2))
        clear hm hgood ho hn2
        go_wp2
        go_ret
        obtain ⟨hgood, ho, hn2⟩ := KEEP.out
        refine ValidPost.mk ?_ ho
        rw [List.length_map] at hn2
        constructor
        · intro h
          refine ⟨hlen', hgood, hn2.1 ?_⟩
          have := of_decide_eq_true h
          omega
        · intro h
          have := hn2.2 h.2.2
          subst this
          simp

end Go.Proofs.Ytoccnaebckcfmaa
