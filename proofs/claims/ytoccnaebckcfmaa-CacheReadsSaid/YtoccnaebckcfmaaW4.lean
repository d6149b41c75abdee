/- A head read back; bytes as strings. -/
import Derived.Test.YtoccnaebckcfmaaW3
set_option linter.unusedSimpArgs false
set_option linter.unusedVariables false
set_option maxRecDepth 8000
namespace Go.Proofs.Ytoccnaebckcfmaa
open Go.RowKit

def parsed (f : Nat → Int) : Nat → Array Value
  | 0 => #[.int .i64 0, .int .i64 0, .int .i64 0, .int .i64 0]
  | 1 => #[.int .i64 (ldF (fun j => f (13 + j)) 4), .int .i64 0, .int .i64 0, .int .i64 0]
  | 2 => #[.int .i64 (ldF (fun j => f (13 + j)) 4), .int .i64 (ldF (fun j => f (17 + j)) 4), .int .i64 0, .int .i64 0]
  | 3 => #[.int .i64 (ldF (fun j => f (13 + j)) 4), .int .i64 (ldF (fun j => f (17 + j)) 4), .int .i64 (ldF (fun j => f (21 + j)) 4), .int .i64 0]
  | _ => #[.int .i64 (ldF (fun j => f (13 + j)) 4), .int .i64 (ldF (fun j => f (17 + j)) 4), .int .i64 (ldF (fun j => f (21 + j)) 4), .int .i64 (ldF (fun j => f (25 + j)) 4)]

set_option maxHeartbeats 1000000 in
theorem parse_any (w : World) (g cap : Nat) (f : Nat → Int) (hc : ∀ j, j < 64 → w.cell? ⟨g, j, none⟩ = some (.int .u8 (f j))) (hgw : g < w.heap.size) (hf : ∀ j, 0 ≤ f j ∧ f j < 256) :
    Calls Try.prog 57 #[.slice (some ⟨g, 0, none⟩) 64 64] w fun e w' => e = .returned (.agg (parsed f 4)) ∧ Only [] w w' := by
  have HC := Lib.hid hc
  have HF := Lib.hid hf
  clear hc hf
  go_enter Try.func57, Try.ntmps57
  go_wp2
  go_loopw [8, 4] (fun i r wr => ∃ k : Nat, k ≤ 4 ∧ i = .int .i64 k ∧ r = .slice (some ⟨g, 13 + 4 * k, none⟩) (51 - 4 * k) (51 - 4 * k) ∧ wr.heap[w.heap.size + 1]? = some (.cells (parsed f k) 123 (0, 0)) ∧ wr.heap[w.heap.size]? = some (.cells #[.int .i64 0, .int .i64 0, .int .i64 0, .int .i64 0] 99 (0, 0)) ∧ Only [] w wr) (fun i _ _ => 4 - (intOf i).toNat)
  case atStart =>
    refine ⟨0, by omega, rfl, by rfl, ?_, ?_, ?_⟩
    · have := heap_alloc_last (w.alloc (.cells #[.int .i64 0, .int .i64 0, .int .i64 0, .int .i64 0] 99)) (.cells #[.int .i64 0, .int .i64 0, .int .i64 0, .int .i64 0] 123)
      rw [World.size_alloc] at this
      exact this
    · rw [Below.heap_alloc _ _ _ (by simp)]
      exact heap_alloc_last w _
    · exact ((Only.refl [] w).alloc _).alloc _
  case round =>
    obtain ⟨k, hk, rfl, rfl, hb, hi, ho⟩ := hrel
    have hcc : ∀ j, j < 64 → wr.cell? ⟨g, j, none⟩ = some (.int .u8 (f j)) := fun j hj => (World.cell?_of_block (ho.block g hgw (by simp))).trans (HC.out j hj)
    have hgt : w.heap.size + 1 < wr.heap.size := (Array.getElem?_eq_some_iff.1 hb).1
    by_cases hlt : k < 4
    · have hk4 : k = 0 ∨ k = 1 ∨ k = 2 ∨ k = 3 := by omega
      have HO := Lib.hid ho
      have HI := Lib.hid hi
      rcases hk4 with rfl | rfl | rfl | rfl
      · have LD := Lib.hid (load_any wr g 13 4 51 (fun j => f (13 + j)) (by omega) (fun j hj => hcc (13 + j) (by omega)) (fun j => HF.out (13 + j)))
        have hcell : wr.cell? ⟨w.heap.size + 1, 0, none⟩ = some (.int .i64 0) := by rw [cell_of_row _ _ _ _ _ _ hb]; rfl
        have hfz : wr.frozen? ⟨w.heap.size + 1, 0, none⟩ = false := by simp [World.frozen?, hb]
        have HB := Lib.hid hb
        clear hb ho hi hcc
        go_wp2_with (go_at_call 79; refine LD.out.mono ?_; rintro e w' ⟨rfl, rfl⟩)
        go_roundw
        case rel =>
          refine ⟨1, by omega, by go_num, by simp, heap_setCell_row HB.out _ _, ?_, HO.out.setCell (by simp) _⟩
          rw [Below.heap_setCell _ _ _ _ (by simp)]
          exact HI.out
        case measure => simp [intOf]
      · have LD := Lib.hid (load_any wr g 17 4 47 (fun j => f (17 + j)) (by omega) (fun j hj => hcc (17 + j) (by omega)) (fun j => HF.out (17 + j)))
        have hcell : wr.cell? ⟨w.heap.size + 1, 1, none⟩ = some (.int .i64 0) := by rw [cell_of_row _ _ _ _ _ _ hb]; rfl
        have hfz : wr.frozen? ⟨w.heap.size + 1, 1, none⟩ = false := by simp [World.frozen?, hb]
        have HB := Lib.hid hb
        clear hb ho hi hcc
        go_wp2_with (go_at_call 79; refine LD.out.mono ?_; rintro e w' ⟨rfl, rfl⟩)
        go_roundw
        case rel =>
          refine ⟨2, by omega, by go_num, by simp, heap_setCell_row HB.out _ _, ?_, HO.out.setCell (by simp) _⟩
          rw [Below.heap_setCell _ _ _ _ (by simp)]
          exact HI.out
        case measure => simp [intOf]
      · have LD := Lib.hid (load_any wr g 21 4 43 (fun j => f (21 + j)) (by omega) (fun j hj => hcc (21 + j) (by omega)) (fun j => HF.out (21 + j)))
        have hcell : wr.cell? ⟨w.heap.size + 1, 2, none⟩ = some (.int .i64 0) := by rw [cell_of_row _ _ _ _ _ _ hb]; rfl
        have hfz : wr.frozen? ⟨w.heap.size + 1, 2, none⟩ = false := by simp [World.frozen?, hb]
        have HB := Lib.hid hb
        clear hb ho hi hcc
        go_wp2_with (go_at_call 79; refine LD.out.mono ?_; rintro e w' ⟨rfl, rfl⟩)
        go_roundw
        case rel =>
          refine ⟨3, by omega, by go_num, by simp, heap_setCell_row HB.out _ _, ?_, HO.out.setCell (by simp) _⟩
          rw [Below.heap_setCell _ _ _ _ (by simp)]
          exact HI.out
        case measure => simp [intOf]
      · have LD := Lib.hid (load_any wr g 25 4 39 (fun j => f (25 + j)) (by omega) (fun j hj => hcc (25 + j) (by omega)) (fun j => HF.out (25 + j)))
        have hcell : wr.cell? ⟨w.heap.size + 1, 3, none⟩ = some (.int .i64 0) := by rw [cell_of_row _ _ _ _ _ _ hb]; rfl
        have hfz : wr.frozen? ⟨w.heap.size + 1, 3, none⟩ = false := by simp [World.frozen?, hb]
        have HB := Lib.hid hb
        clear hb ho hi hcc
        go_wp2_with (go_at_call 79; refine LD.out.mono ?_; rintro e w' ⟨rfl, rfl⟩)
        go_roundw
        case rel =>
          refine ⟨4, by omega, by go_num, by simp, heap_setCell_row HB.out _ _, ?_, HO.out.setCell (by simp) _⟩
          rw [Below.heap_setCell _ _ _ _ (by simp)]
          exact HI.out
        case measure => simp [intOf]
    · have : k = 4 := by omega
      subst this
      have c0 : wr.cell? ⟨w.heap.size + 1, 0, none⟩ = some (.int .i64 (ldF (fun j => f (13 + j)) 4)) := by rw [cell_of_row _ _ _ _ _ _ hb]; rfl
      have c1 : wr.cell? ⟨w.heap.size + 1, 1, none⟩ = some (.int .i64 (ldF (fun j => f (17 + j)) 4)) := by rw [cell_of_row _ _ _ _ _ _ hb]; rfl
      have c2 : wr.cell? ⟨w.heap.size + 1, 2, none⟩ = some (.int .i64 (ldF (fun j => f (21 + j)) 4)) := by rw [cell_of_row _ _ _ _ _ _ hb]; rfl
      have c3 : wr.cell? ⟨w.heap.size + 1, 3, none⟩ = some (.int .i64 (ldF (fun j => f (25 + j)) 4)) := by rw [cell_of_row _ _ _ _ _ _ hb]; rfl
      have d0 : wr.cell? ⟨w.heap.size, 0, none⟩ = some (.int .i64 0) := by rw [cell_of_row _ _ _ _ _ _ hi]; rfl
      have d1 : wr.cell? ⟨w.heap.size, 1, none⟩ = some (.int .i64 0) := by rw [cell_of_row _ _ _ _ _ _ hi]; rfl
      have d2 : wr.cell? ⟨w.heap.size, 2, none⟩ = some (.int .i64 0) := by rw [cell_of_row _ _ _ _ _ _ hi]; rfl
      have d3 : wr.cell? ⟨w.heap.size, 3, none⟩ = some (.int .i64 0) := by rw [cell_of_row _ _ _ _ _ _ hi]; rfl
      have hfz : ∀ j, wr.frozen? ⟨w.heap.size, j, none⟩ = false := by intro j; simp [World.frozen?, hi]
      have HO := Lib.hid ho
      have HI := Lib.hid hi
      clear hb ho hi hcc
      go_wp2
      have hrow := heap_setCell_row (heap_setCell_row (heap_setCell_row (heap_setCell_row HI.out 0 (.int .i64 (ldF (fun j => f (13 + j)) 4))) 1 (.int .i64 (ldF (fun j => f (17 + j)) 4))) 2 (.int .i64 (ldF (fun j => f (21 + j)) 4))) 3 (.int .i64 (ldF (fun j => f (25 + j)) 4))
      have hon := (((HO.out.setCell (p := ⟨w.heap.size, 0, none⟩) (by simp) (.int .i64 (ldF (fun j => f (13 + j)) 4))).setCell (p := ⟨w.heap.size, 1, none⟩) (by simp) (.int .i64 (ldF (fun j => f (17 + j)) 4))).setCell (p := ⟨w.heap.size, 2, none⟩) (by simp) (.int .i64 (ldF (fun j => f (21 + j)) 4))).setCell (p := ⟨w.heap.size, 3, none⟩) (by simp) (.int .i64 (ldF (fun j => f (25 + j)) 4))
      generalize ((((wr.setCell ⟨w.heap.size, 0, none⟩ (.int .i64 (ldF (fun j => f (13 + j)) 4))).setCell ⟨w.heap.size, 1, none⟩ (.int .i64 (ldF (fun j => f (17 + j)) 4))).setCell ⟨w.heap.size, 2, none⟩ (.int .i64 (ldF (fun j => f (21 + j)) 4))).setCell ⟨w.heap.size, 3, none⟩ (.int .i64 (ldF (fun j => f (25 + j)) 4))) = W at *
      have r0 : W.cell? ⟨w.heap.size, 0, none⟩ = some (.int .i64 (ldF (fun j => f (13 + j)) 4)) := by rw [cell_of_row _ _ _ _ _ _ hrow]; rfl
      have r1 : W.cell? ⟨w.heap.size, 1, none⟩ = some (.int .i64 (ldF (fun j => f (17 + j)) 4)) := by rw [cell_of_row _ _ _ _ _ _ hrow]; rfl
      have r2 : W.cell? ⟨w.heap.size, 2, none⟩ = some (.int .i64 (ldF (fun j => f (21 + j)) 4)) := by rw [cell_of_row _ _ _ _ _ _ hrow]; rfl
      have r3 : W.cell? ⟨w.heap.size, 3, none⟩ = some (.int .i64 (ldF (fun j => f (25 + j)) 4)) := by rw [cell_of_row _ _ _ _ _ _ hrow]; rfl
      refine bodyPost_ret (v := .agg (parsed f 4)) ?_ rfl ⟨rfl, hon⟩
      simp [results, Try.results34, go_sem, r0, r1, r2, r3, Result.andThen, parsed]

/-- A row of bytes. -/
def sec (l : List Int) : Array Value := (l.map (Value.int .u8)).toArray
theorem sec_of (c : Array Value) (n : Nat) (hs : c.size = n) (f : Nat → Int) (h : ∀ j, j < n → c[j]? = some (.int .u8 (f j))) : c = sec ((List.range n).map f) := by
  apply Array.ext
  · simp [sec, hs]
  · intro i h1 h2
    have := h i (by omega)
    rw [Array.getElem?_eq_getElem h1] at this
    rw [Option.some.inj this]
    simp [sec]
theorem sec_size (l : List Int) : (sec l).size = l.length := by simp [sec]
theorem sec_at (l : List Int) (j : Nat) (z : Int) (h : l[j]? = some z) : (sec l)[j]? = some (.int .u8 z) := by simp [sec, h]
theorem sec_ok {l : List Int} (h : l.length = 64) : SecOk (sec l) := secOk_bytes (by rw [sec_size]; exact h) (fun j => l.getD j 0) (fun j hj => sec_at _ _ _ (by rw [List.getD_eq_getElem?_getD, List.getElem?_eq_getElem (by omega)]; rfl))

def strOf (l : List Int) : ByteArray := l.foldl (fun r n => r.push (UInt8.ofNat n.toNat)) ByteArray.empty

theorem strOf_data (l : List Int) (r : ByteArray) : (l.foldl (fun r n => r.push (UInt8.ofNat n.toNat)) r).data.toList = r.data.toList ++ l.map (fun n => UInt8.ofNat n.toNat) := by
  induction l generalizing r with
  | nil => simp
  | cons n l ih => rw [List.foldl_cons, ih]; simp [ByteArray.push]
theorem strOf_inj {l l' : List Int} (h : ∀ x ∈ l, 0 ≤ x ∧ x < 256) (h' : ∀ x ∈ l', 0 ≤ x ∧ x < 256) (he : strOf l = strOf l') : l = l' := by
  have h1 := strOf_data l ByteArray.empty
  have h2 := strOf_data l' ByteArray.empty
  have e : l.map (fun n => UInt8.ofNat n.toNat) = l'.map (fun n => UInt8.ofNat n.toNat) := by
    have := congrArg (fun b : ByteArray => b.data.toList) he
    simp only [strOf] at this
    rw [h1, h2] at this
    simpa using this
  have hmap : ∀ (l : List Int), (∀ x ∈ l, 0 ≤ x ∧ x < 256) → (l.map (fun n => UInt8.ofNat n.toNat)).map (fun b => (b.toNat : Int)) = l := by
    intro l hl
    rw [List.map_map]
    conv => rhs; rw [← List.map_id l]
    apply List.map_congr_left
    intro x hx
    obtain ⟨a, b⟩ := hl x hx
    simp only [Function.comp, UInt8.toNat_ofNat', id]
    omega
  rw [← hmap l h, ← hmap l' h', e]

theorem strOf_eq {l l' : List Int} (h : ∀ x ∈ l, 0 ≤ x ∧ x < 256) (h' : ∀ x ∈ l', 0 ≤ x ∧ x < 256) : ((strOf l).toList == (strOf l').toList) = decide (l = l') := by
  by_cases e : l = l'
  · subst e; simp
  · rw [decide_eq_false e, beq_eq_false_iff_ne]
    intro hh
    rw [ByteArray.toList_eq, ByteArray.toList_eq] at hh
    exact e (strOf_inj h h' (ByteArray.ext (Array.toList_inj.1 hh)))

section
variable {o : Oper} {a : Act} {w : World}
theorem run_str {x : Operand} {g cap : Nat} {l : List Int} {t : TypeId} (hl : l.length = 64) (ho : o.op = .convert 34 9 x) (hx : a.eval x = .slice (some ⟨g, 0, none⟩) 64 cap) (hb : w.heap[g]? = some (.cells (sec l) t (0, 0))) :
    (execOp a.eval o).run Try.prog w = .ok (.value (.string (strOf l))) w := by
  have hld : (loadCells ⟨g, 0, none⟩ 64).run Try.prog w = .ok (l.map (Value.int .u8)).toArray w := by
    have := run_loadCells_list (P := Try.prog) w ⟨g, 0, none⟩ (l.map (Value.int .u8)) (fun j v hv => by
      rw [Addr.add_mid, Nat.zero_add, cell_of_row _ _ _ _ _ _ hb]
      simpa [sec] using hv)
    rw [List.length_map, hl] at this
    exact this
  unfold execOp
  simp only [ho, hx, Sem.run_bind, run_convert_bytes_string (P := Try.prog) w 34 9 5 _ 64 cap Try.underlying34 Try.underlying5 Try.underlying9, run_bytesToString (P := Try.prog) w ⟨g, 0, none⟩ 64 cap l hld, Result.andThen_ok, Sem.run_pure]
  rfl
end

set_option maxHeartbeats 400000 in
theorem equal_any {w : World} {g g' : Nat} {l l' : List Int} {t t' : TypeId} (hl : l.length = 64) (hl' : l'.length = 64) (hb : w.heap[g]? = some (.cells (sec l) t (0, 0))) (hb' : w.heap[g']? = some (.cells (sec l') t' (0, 0))) (h : ∀ x ∈ l, 0 ≤ x ∧ x < 256) (h' : ∀ x ∈ l', 0 ≤ x ∧ x < 256) :
    Calls Try.prog 58 #[.slice (some ⟨g, 0, none⟩) 64 64, .slice (some ⟨g', 0, none⟩) 64 64] w fun e w' => e = .returned (.bool (decide (l = l'))) ∧ w = w' := by
  have HB := Lib.hid hb
  have HB' := Lib.hid hb'
  clear hb hb'
  go_enter Try.func58, Try.ntmps58
  go_wp2_with (first | (refine wpL_value rfl (run_str hl rfl rfl HB.out) ?_) | (refine wpL_value rfl (run_str hl' rfl rfl HB'.out) ?_))
  go_ret
  exact ⟨ret_bool (strOf_eq h h'), rfl⟩

end Go.Proofs.Ytoccnaebckcfmaa
