/- What maps.Copy between two maps of sectors does. -/
import Derived.Test.YtoccnaebckcfmaaC4
set_option linter.unusedSimpArgs false
set_option maxRecDepth 8000
namespace Go.Proofs.Ytoccnaebckcfmaa
open Go.RowKit
open Go.ChangeMaps (setBlock)

theorem filter_lt {α : Type} (p q : α → Bool) (h : ∀ x, q x = true → p x = true) : ∀ (l : List α), (∃ x ∈ l, p x = true ∧ q x = false) → (l.filter q).length < (l.filter p).length
  | [], ⟨x, hx, _⟩ => by cases hx
  | y :: l, ⟨x, hx, hp, hq⟩ => by
    have hle : (l.filter q).length ≤ (l.filter p).length := by
      clear hx
      induction l with
      | nil => simp
      | cons z l ih =>
        by_cases h1 : q z = true
        · simp [h1, h z h1, ih]
        · by_cases h2 : p z = true
          · simp [h1, h2]; omega
          · simp [h1, h2, ih]
    rcases List.mem_cons.1 hx with rfl | hx
    · simp [hp, hq]; omega
    · have ih := filter_lt p q h l ⟨x, hx, hp, hq⟩
      by_cases h1 : q y = true
      · simp [h1, h y h1, ih]
      · by_cases h2 : p y = true
        · simp [h1, h2]; omega
        · simp [h1, h2, ih]

theorem left_lt {es : Array MapEntry} {seen : Array Nat} {e : MapEntry} (he : e ∈ (leftOf es seen).toList) : (leftOf es (seen.push e.born)).size < (leftOf es seen).size := by
  obtain ⟨h1, h2⟩ := mem_left he
  have := filter_lt (fun e => !seen.contains e.born) (fun x => !(seen.push e.born).contains x.born) (fun x hx => by simp at hx ⊢; exact hx.1) es.toList ⟨e, h1, by simpa using h2, by simp⟩
  simpa [leftOf, ← Array.length_toList, Array.toList_filter] using this

section
variable {ops : Array Oper} {rest : List Oper} {o : Oper} {a : Act} {Q : Exit → Act → World → Prop} {w : World}

theorem wpL_next {x : Operand} {r bm since c0 clock : Nat} {seen : Array Nat} {es : Array MapEntry} {g : Int → Option (Array Value)} (hg : o.guard = none) (ho : o.op = .next x false) (hx : a.eval x = .pointer (some ⟨r, 0, none⟩))
    (hr : w.heap[r]? = some (.mapIter (some bm) since seen c0)) (hb : w.heap[bm]? = some (.map es clock)) (hold : ∀ x ∈ es.toList, x.born < since) (hsc : since ≤ c0) (ok : MapOk es.toList clock g)
    (h0 : (leftOf es seen).size = 0 → wpList Try.prog ops Q rest (a.put o.dst (.tuple #[.bool false])) w)
    (h1 : ∀ e ∈ (leftOf es seen).toList, ∀ k v, e.key = .int .i64 k → e.val = .agg v → ∀ w1 : World, (w1 = w ∨ w1 = w.drew) → wpList Try.prog ops Q rest (a.put o.dst (.tuple #[.bool true, .int .i64 k, .agg v])) (setBlock w1 r (.mapIter (some bm) since (seen.push e.born) clock))) :
    wpList Try.prog ops Q (o :: rest) a w := by
  rcases run_next_at (P := Try.prog) w o.type r bm since c0 seen es clock hr hb hold hsc with ⟨hz, hrun⟩ | ⟨e, he, w1, hw1, hrun⟩
  · refine wpL_value hg ?_ (h0 hz)
    unfold execOp
    simp only [ho, hx, Sem.run_bind, hrun, Result.andThen_ok, Sem.run_pure]
  · obtain ⟨k, v, ek, ev⟩ := ok.form e (mem_left he).1
    refine wpL_value hg ?_ (h1 e he k v ek ev w1 hw1)
    unfold execOp
    simp only [ho, hx, Sem.run_bind, hrun, Result.andThen_ok, Sem.run_pure, ek, ev]

theorem wpL_entry {x : Operand} {r bm since clock : Nat} {seen : Array Nat} {es : Array MapEntry} {e : MapEntry} {k : Int} {v : Array Value} (hg : o.guard = none) (ho : o.op = .entry x) (hx : a.eval x = .pointer (some ⟨r, 0, none⟩))
    (hr : w.heap[r]? = some (.mapIter (some bm) since (seen.push e.born) clock)) (hb : w.heap[bm]? = some (.map es clock)) (he : e ∈ es.toList) (hn : (es.toList.map (·.born)).Nodup) (ek : e.key = .int .i64 k) (ev : e.val = .agg v)
    (h : wpList Try.prog ops Q rest (a.put o.dst (.tuple #[.int .i64 k, .agg v])) w) : wpList Try.prog ops Q (o :: rest) a w := by
  refine wpL_value hg ?_ h
  unfold execOp
  simp only [ho, hx, Sem.run_bind, run_entry_at (P := Try.prog) w r bm since seen es clock e hr hb he hn, Result.andThen_ok, Sem.run_pure, ek, ev]

theorem wpL_range {x : Operand} {bm clock : Nat} {es : Array MapEntry} (hg : o.guard = none) (ho : o.op = .range 88 x) (hx : a.eval x = .map (some bm)) (hb : w.heap[bm]? = some (.map es clock))
    (h : wpList Try.prog ops Q rest (a.put o.dst (.pointer (some ⟨w.heap.size, 0, none⟩))) (w.alloc (.mapIter (some bm) clock #[] clock))) : wpList Try.prog ops Q (o :: rest) a w := by
  refine wpL_value hg ?_ h
  unfold execOp
  simp only [ho, hx, Instr.range, Sem.run_bind, run_underlying Try.underlying88, Result.andThen_ok, Go.MapKept.run_getObj_map hb, Sem.run_pure]
  simp [newObj, Sem.run]

theorem wpL_load88 {x : Operand} {g : Nat} {v : Array Value} {t : TypeId} (hg : o.guard = none) (ho : o.op = .load 93 x) (hx : a.eval x = .pointer (some ⟨g, 0, none⟩)) (hb : w.heap[g]? = some (.cells v t (0, 0))) (hv : v.size = 64)
    (h : wpList Try.prog ops Q rest (a.put o.dst (.agg v)) w) : wpList Try.prog ops Q (o :: rest) a w := wpL_value hg (run_load88 ho hx hb hv) h
end

/-- Those keys whose entries have been met read as g, the others as f. -/
def Met (es : List MapEntry) (seen : Array Nat) (g f h : Int → Option (Array Value)) : Prop :=
  ∀ k, ((∃ e ∈ es, e.key = .int .i64 k ∧ seen.contains e.born = true) → h k = g k) ∧ ((¬ ∃ e ∈ es, e.key = .int .i64 k ∧ seen.contains e.born = true) → h k = f k)

theorem born_inj {l : List MapEntry} (hn : (l.map (·.born)).Nodup) {e e' : MapEntry} (he : e ∈ l) (he' : e' ∈ l) (h : e'.born = e.born) : e' = e := by
  have h1 := find_born e l hn he
  have h2 := find_born e' l hn he'
  rw [h, h1] at h2
  exact (Option.some.inj h2).symm

theorem met_start (es : List MapEntry) (g f : Int → Option (Array Value)) : Met es #[] g f f := fun k => ⟨fun ⟨e, _, _, h⟩ => by simp at h, fun _ => rfl⟩
theorem met_step {es : List MapEntry} {c : Nat} {seen : Array Nat} {g f h : Int → Option (Array Value)} (ok : MapOk es c g) (hm : Met es seen g f h) {e : MapEntry} (he : e ∈ es) {k : Int} {v : Array Value} (ek : e.key = .int .i64 k) (ev : e.val = .agg v) :
    Met es (seen.push e.born) g f (updF h k v) := by
  have hg : g k = some v := (ok.has k v).2 ⟨e, he, ek, ev⟩
  intro j
  unfold updF
  by_cases hj : j = k
  · subst hj
    simp only [if_true]
    exact ⟨fun _ => hg.symm, fun hn => absurd ⟨e, he, ek, by simp⟩ hn⟩
  · simp only [hj, if_false]
    have heq : (∃ e' ∈ es, e'.key = .int .i64 j ∧ (seen.push e.born).contains e'.born = true) ↔ ∃ e' ∈ es, e'.key = .int .i64 j ∧ seen.contains e'.born = true := by
      constructor
      · rintro ⟨e', h1, h2, h3⟩
        refine ⟨e', h1, h2, ?_⟩
        simp at h3
        rcases h3 with h3 | h3
        · simpa using h3
        · have := born_inj ok.born he h1 h3
          subst this
          rw [ek] at h2
          simp at h2
          exact absurd h2.symm hj
      · rintro ⟨e', h1, h2, h3⟩
        refine ⟨e', h1, h2, ?_⟩
        simp at h3 ⊢
        exact .inl h3
    rw [heq]
    exact hm j
theorem met_end {es : Array MapEntry} {c : Nat} {seen : Array Nat} {g f h : Int → Option (Array Value)} (ok : MapOk es.toList c g) (hm : Met es.toList seen g f h) (hl : (leftOf es seen).size = 0) : h = fun k => (g k).or (f k) := by
  funext k
  have hall : ∀ e ∈ es.toList, seen.contains e.born = true := by
    intro e he
    cases hc : seen.contains e.born with
    | true => rfl
    | false =>
      have : e ∈ (leftOf es seen).toList := by
        simp only [leftOf, Array.toList_filter, List.mem_filter]
        exact ⟨he, by simp only [hc]; rfl⟩
      have := List.length_pos_of_mem this
      simp at this
      omega
  cases hg : g k with
  | some v =>
    obtain ⟨e, he, ek, ev⟩ := (ok.has k v).1 hg
    rw [(hm k).1 ⟨e, he, ek, hall e he⟩, hg]
    rfl
  | none =>
    rw [(hm k).2 (fun ⟨e, he, ek, _⟩ => by
      obtain ⟨k', v', ek', ev'⟩ := ok.form e he
      rw [ek] at ek'
      cases ek'
      have := (ok.has k v').2 ⟨e, he, ek, ev'⟩
      rw [hg] at this
      cases this)]
    rfl

def iterLeft (es : Array MapEntry) (r : Nat) (w : World) : Nat := match w.heap[r]? with | some (.mapIter _ _ seen _) => (leftOf es seen).size | _ => 0
theorem iterLeft_eq {es : Array MapEntry} {r : Nat} {w : World} {m : Option Nat} {s c : Nat} {seen : Array Nat} (h : w.heap[r]? = some (.mapIter m s seen c)) : iterLeft es r w = (leftOf es seen).size := by simp [iterLeft, h]
theorem heap_setBlock_at {w : World} {r : Nat} (h : r < w.heap.size) (o : Obj) : (setBlock w r o).heap[r]? = some o := by simp [Go.ChangeMaps.setBlock, h]

set_option maxHeartbeats 400000 in
theorem copy_any {w : World} {mn ms : Nat} {f g : Int → Option (Array Value)} (hf : MapAt w mn f) (hg : MapAt w ms g) (hne : mn ≠ ms) (hok : ∀ i v, g i = some v → SecOk v) :
    Calls Try.prog 62 #[.map (some mn), .map (some ms)] w fun e w' => e = .returned (.tuple #[]) ∧ MapAt w' mn (fun k => (g k).or (f k)) ∧ Only [mn] w w' := by
  obtain ⟨es, clock, hb, ok⟩ := hg
  have hmn := mapAt_lt hf
  have hms : ms < w.heap.size := (Array.getElem?_eq_some_iff.1 hb).1
  have HB := Lib.hid hb
  clear hb
  go_enter Try.func62, Try.ntmps62
  go_wp2_with (refine wpL_range rfl rfl rfl HB.out ?_)
  simp only [Act.put, List.setIfInBounds_toArray, List.set_cons_succ, List.set_cons_zero]
  go_loopw [8] (fun _ wr => ∃ seen h, wr.heap[w.heap.size]? = some (.mapIter (some ms) clock seen clock) ∧ MapAt wr mn h ∧ Met es.toList seen g f h ∧ Only [mn] w wr ∧ w.heap.size < wr.heap.size) (fun _ wr => iterLeft es w.heap.size wr)
  case atStart => exact ⟨#[], f, heap_alloc_last w _, mapAt_congr hf (Below.heap_alloc _ _ _ hmn), met_start _ _ _, (Only.refl _ w).alloc _, by simp⟩
  case round =>
    obtain ⟨seen, h, hit, hmap, hmet, honly, hsz⟩ := hrel
    have hms' : wr.heap[ms]? = some (.map es clock) := (honly.block ms hms (by simpa using hne.symm)).trans HB.out
    have HIT := Lib.hid hit
    have HMS := Lib.hid hms'
    clear hit hms'
    apply wp_seq_k
    intro _ _
    apply wp_region_lit
    refine wpL_next rfl rfl rfl HIT.out HMS.out ok.lt (Nat.le_refl _) ok (fun hz => ?_) (fun e he k v ek ev w1 hw1 => ?_)
    · have HZ := Lib.hid hz
      clear hz
      go_wp2
      go_end0
      refine ⟨rfl, ?_, honly⟩
      rw [← met_end ok hmet HZ.out]
      exact hmap
    · have hee := (mem_left he).1
      have hw1h : w1.heap = wr.heap := by rcases hw1 with rfl | rfl <;> rfl
      have o1 : Only [mn] w (setBlock w1 w.heap.size (.mapIter (some ms) clock (seen.push e.born) clock)) := by
        have : Only [mn] w w1 := by rcases hw1 with rfl | rfl; exact honly; exact honly.drew
        exact this.setBlock (.inr (Nat.le_refl _)) _
      have hit1 : (setBlock w1 w.heap.size (.mapIter (some ms) clock (seen.push e.born) clock)).heap[w.heap.size]? = some (.mapIter (some ms) clock (seen.push e.born) clock) := heap_setBlock_at (by rw [hw1h]; exact hsz) _
      have hms1 : (setBlock w1 w.heap.size (.mapIter (some ms) clock (seen.push e.born) clock)).heap[ms]? = some (.map es clock) := by
        rw [heap_setBlock_ne _ _ _ (Nat.ne_of_lt hms), hw1h]; exact HMS.out
      have hmap1 : MapAt (setBlock w1 w.heap.size (.mapIter (some ms) clock (seen.push e.born) clock)) mn h := mapAt_congr hmap (by rw [heap_setBlock_ne _ _ _ (Nat.ne_of_lt hmn), hw1h])
      have hsz1 : w.heap.size < (setBlock w1 w.heap.size (.mapIter (some ms) clock (seen.push e.born) clock)).heap.size := by simp [Go.ChangeMaps.setBlock, hw1h, hsz]
      generalize setBlock w1 w.heap.size (.mapIter (some ms) clock (seen.push e.born) clock) = W at *
      have HIT1 := Lib.hid hit1
      have HMS1 := Lib.hid hms1
      have HE := Lib.hid he
      have EK := Lib.hid ek
      have EV := Lib.hid ev
      have hvok : SecOk v := hok k v ((ok.has k v).2 ⟨e, hee, ek, ev⟩)
      clear hit1 hms1 hw1h hw1 he ek ev
      have hblk := heap_alloc_last W (.cells v 93)
      have BLK := Lib.hid hblk
      clear hblk
      go_wp2_with (first | (refine wpL_entry rfl rfl rfl HIT1.out HMS1.out hee ok.born EK.out EV.out ?_) | (refine wpL_alloc88 rfl rfl ?_) | (refine wpL_store88 rfl rfl rfl rfl rfl hvok ?_) | (refine wpL_load88 rfl rfl rfl BLK.out hvok.1 ?_) | (refine wpL_update rfl rfl rfl rfl rfl (mapAt_congr (w' := W.alloc (.cells v 93)) hmap1 (Below.heap_alloc _ _ _ (mapAt_lt hmap1))) ?_; intro ob hm; simp only [Act.put, List.setIfInBounds_toArray, List.set_cons_succ, List.set_cons_zero]))
      go_roundw
      case rel =>
        have hit2 : (setBlock (W.alloc (.cells v 93)) mn ob).heap[w.heap.size]? = some (.mapIter (some ms) clock (seen.push e.born) clock) := by
          rw [heap_setBlock_ne _ _ _ (Nat.ne_of_gt hmn), Below.heap_alloc _ _ _ hsz1]; exact HIT1.out
        exact ⟨seen.push e.born, updF h k v, hit2, hm, met_step ok hmet hee EK.out EV.out, (o1.alloc _).setBlock (by simp) _, by simp [Go.ChangeMaps.setBlock]; omega⟩
      case measure =>
        have hit2 : (setBlock (W.alloc (.cells v 93)) mn ob).heap[w.heap.size]? = some (.mapIter (some ms) clock (seen.push e.born) clock) := by
          rw [heap_setBlock_ne _ _ _ (Nat.ne_of_gt hmn), Below.heap_alloc _ _ _ hsz1]; exact HIT1.out
        rw [iterLeft_eq hit2, iterLeft_eq HIT.out]
        exact left_lt HE.out

end Go.Proofs.Ytoccnaebckcfmaa
