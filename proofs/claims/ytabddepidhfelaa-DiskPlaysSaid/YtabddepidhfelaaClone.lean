/- What Clone does. -/
import Derived.Test.YtabddepidhfelaaDo
import Derived.Laws.Externs
set_option linter.unusedSimpArgs false
namespace Go.Proofs.Ytabddepidhfelaa
open Go.RowKit
open Go.ChangeMaps (setBlock)

theorem run_map_eql_nil (w : World) (p : Option Nat) : (binOp .eql 55 (.map p) (.map none)).run Try.prog w = .ok (.bool p.isNone) w := by
  have h : ∀ d, (Op.equalIn (d + 1) 55 (.map p) (.map none)).run Try.prog w = .ok p.isNone w := fun d => by cases p <;> simp [Op.equalIn, run_underlying Try.underlying55]
  simp only [binOp]
  simp [show Op.equal 55 (.map p) (.map none) = Op.equalIn (9999 + 1) 55 (.map p) (.map none) from rfl, h 9999]

theorem run_assert55 (w : World) (v : Value) : (Instr.typeAssert (.iface 55 v) 20 55 false).run Try.prog w = .ok v w := by
  simp [Instr.typeAssert, run_underlying Try.underlying55, go_sem, Result.andThen]

theorem run_mclone (w : World) {r : Nat} {es : Array MapEntry} {clock : Nat} (hb : w.heap[r]? = some (.map es clock)) :
    (Extern.MapsClone.clone #[.iface 55 (.map (some r))]).run Try.prog w = .ok (.iface 55 (.map (some w.heap.size))) (w.alloc (.map es clock)) := by
  have e : Extern.MapsClone.clone #[.iface 55 (.map (some r))] = Sem.bind (getObj r) (fun o => match o with | .map entries c => Sem.bind (newObj (.map entries c)) (fun n => Sem.pure (.iface 55 (.map (some n)))) | _ => stuck "maps.clone: a map expected") := rfl
  rw [e]
  change (getObj r >>= _).run Try.prog w = _
  rw [Sem.run_bind, Go.MapKept.run_getObj_map hb]
  simp only [Result.andThen]
  rfl

set_option maxHeartbeats 400000 in
theorem mclone_any {w : World} {r : Nat} {es : Array MapEntry} {clock : Nat} (hb : w.heap[r]? = some (.map es clock)) :
    Calls Try.prog 29 #[.map (some r)] w fun e w' => e = .returned (.map (some w.heap.size)) ∧ w' = w.alloc (.map es clock) := by
  have hq := fun w => run_map_eql_nil w (some r)
  have HB := Lib.hid hb
  clear hb
  go_enter Try.func29, Try.ntmps29
  go_wp2
  rw [run_callFunc_extern Try.func41 (by kernel_rfl) (by kernel_rfl) (by kernel_rfl) (e := Extern.MapsClone.clone) (by kernel_rfl), run_mclone w HB.out]
  simp only [Result.andThen]
  rw [Oper.upon_value]
  go_wp2
  rw [run_assert55]
  simp only [Result.andThen]
  rw [Oper.upon_value]
  go_wp2
  go_ret
  exact ⟨rfl, rfl⟩

set_option maxHeartbeats 400000 in
theorem sclone_nil (w : World) : Calls Try.prog 30 #[.slice none 0 0] w fun e w' => e = .returned (.slice none 0 0) ∧ w = w' := by
  have hq : ∀ w, (binOp .eql 56 (.slice none 0 0) (.slice none 0 0)).run Try.prog w = .ok (.bool true) w := fun w => by kernel_rfl
  go_enter Try.func30, Try.ntmps30
  go_wp2
  go_ret
  exact ⟨rfl, rfl⟩

theorem run_build0 (w : World) : (Instr.buildSlice 56 0 #[]).run Try.prog w = .ok (.slice (some ⟨w.heap.size, 0, none⟩) 0 0) (w.alloc (.cells #[] 68)) := by kernel_rfl

set_option maxHeartbeats 400000 in
theorem sclone_some (w : World) (g n cap : Nat) (pend : List (Int × Array Value)) (hn : n = pend.length) (hok : ∀ p ∈ pend, SecOk p.2) (hlen : pend.length < 1000000000) (hr : w.rangeAt g 0 (pend.flatMap wcells)) :
    Calls Try.prog 30 #[.slice (some ⟨g, 0, none⟩) n cap] w fun e w' => ∃ v', e = .returned v' ∧ w'.ownsRow 0 68 65 v' pend.length (pend.flatMap wcells) ∧ Only [] w w' ∧ ∀ x, v'.ownBlock = some x → w.heap.size ≤ x := by
  have hq : ∀ w, (binOp .eql 56 (.slice (some ⟨g, 0, none⟩) n cap) (.slice none 0 0)).run Try.prog w = .ok (.bool false) w := fun w => by kernel_rfl
  obtain ⟨i0, hi, hz0, hz1, hz2⟩ := info_parts info68a
  have hown0 : (w.alloc (.cells #[] 68)).ownsRow 0 68 65 (.slice (some ⟨w.heap.size, 0, none⟩) 0 0) 0 [] := ⟨rfl, .inr ⟨w.heap.size, 0, #[], rfl, Nat.zero_le _, heap_alloc_last w _, Nat.le_refl _, Nat.zero_le _, rfl, rfl⟩⟩
  have hfl : ∀ l : List (Int × Array Value), (∀ p ∈ l, SecOk p.2) → (l.flatMap wcells).length = l.length * 65 := by
    intro l
    induction l with
    | nil => intro _; rfl
    | cons p l ih =>
      intro hl
      have hp : (wcells p).length = 65 := by simp [wcells, (hl p (by simp)).1]
      rw [List.flatMap_cons, List.length_append, ih (fun q hq => hl q (by simp [hq])), hp, List.length_cons]
      omega
  have hone : ∀ u ∈ pend.flatMap wcells, u.oneCell' = true := by
    intro u hu
    obtain ⟨p, hp, hu⟩ := List.mem_flatMap.1 hu
    simp only [wcells, List.mem_cons] at hu
    rcases hu with rfl | hu
    · rfl
    · exact (Array.all_eq_true_iff_forall_mem.1 (hok p hp).2) u (by simpa using hu)
  obtain ⟨v', w', hrun, hown, hgrow, hnil, hloc⟩ := run_append_own_at (P := Try.prog) (w.alloc (.cells #[] 68)) 0 56 56 68 i0 _ 65 72 Try.underlying56 hi hz0 hz1 hz2 (by simp [Value.cells, Z]) (by omega)
    (.slice (some ⟨w.heap.size, 0, none⟩) 0 0) 0 [] hown0 ⟨g, 0, none⟩ n cap (pend.flatMap wcells) (by rw [hfl pend hok, hn]) (fun j u hu => by rw [Addr.add_mid]; exact (World.rangeAt_alloc hr _) j u hu) hone (by unfold maxLen; omega) (by omega) (Nat.zero_le _)
  rw [Nat.zero_add, List.nil_append] at hown
  have HRUN := Lib.hid hrun
  have hb0 := run_build0
  have HN := Lib.hid hn
  clear hrun hn hi hz0 hz1 hz2
  go_enter Try.func30, Try.ntmps30
  go_wp2_with (refine wpL_value rfl (run_builtin_append rfl rfl rfl HRUN.out) ?_)
  go_ret
  refine ⟨v', rfl, by rw [← HN.out]; exact hown, ((Only.refl [] w).alloc (.cells #[] 68)).grown hgrow (fun k hk => ?_), fun x hx => ?_⟩
  · simp [Value.ownBlock] at hk
    exact .inr (by omega)
  · rcases hloc with h | h
    · rw [h] at hx
      simp [Value.ownBlock] at hx
      omega
    · rw [h] at hx
      simp at hx
      omega

set_option maxHeartbeats 1000000 in
theorem clone_any {w : World} {b : Nat} {F : List Nat} {S : St} (h : DAt w b F S) (hlen : S.pend.length < 1000000000) :
    Calls Try.prog 12 #[.pointer (some ⟨b, 0, none⟩)] w fun e w' => ∃ b' F', e = .returned (.pointer (some ⟨b', 0, none⟩)) ∧ DAt w' b' F' S ∧ Only [] w w' ∧ ∀ x ∈ F', w.heap.size ≤ x := by
  obtain ⟨mn, ms, pv, h, rfl⟩ := h
  obtain ⟨c0, c1, c2, c3, c4, c5, c6, fz⟩ := h.cells
  have hb := diskAt_lt h b (by simp [foot])
  obtain ⟨pa, pcap, hpv⟩ : ∃ a cap, pv = .slice a S.pend.length cap := by
    rcases h.pend.2 with ⟨h1, h2⟩ | ⟨g, cap, cur, h1, _⟩
    · exact ⟨none, 0, by rw [h1, h2]⟩
    · exact ⟨_, _, h1⟩
  subst hpv
  obtain ⟨es1, ck1, hb1, ok1⟩ := h.now
  obtain ⟨es2, ck2, hb2, ok2⟩ := h.sure
  have lt := diskAt_lt h
  have hmn := lt mn (by simp [foot])
  have hms := lt ms (by simp [foot])
  have H := Lib.hid h
  have HB1 := Lib.hid hb1
  have HB2 := Lib.hid hb2
  have LT := Lib.hid lt
  clear h hb1 hb2 lt
  go_enter Try.func12, Try.ntmps12
  go_wp2_with fail
  refine (mclone_any (es := es1) (clock := ck1) ?_).mono ?_
  · rw [Below.heap_alloc _ _ _ hmn]; exact HB1.out
  rintro e w' ⟨rfl, rfl⟩
  -- the copy's row at cb, and the first map's copy
  have o1 : Only [] w ((w.alloc (.cells (drow S mn ms (.slice pa S.pend.length pcap)) 58)).alloc (.map es1 ck1)) := ((Only.refl [] w).alloc _).alloc _
  have r1 : ((w.alloc (.cells (drow S mn ms (.slice pa S.pend.length pcap)) 58)).alloc (.map es1 ck1)).heap[w.heap.size]? = some (.cells (drow S mn ms (.slice pa S.pend.length pcap)) 58 (0, 0)) := by
    rw [Below.heap_alloc _ _ _ (by simp)]; exact heap_alloc_last w _
  have m1 : ((w.alloc (.cells (drow S mn ms (.slice pa S.pend.length pcap)) 58)).alloc (.map es1 ck1)).heap[w.heap.size + 1]? = some (.map es1 ck1) := by
    have := heap_alloc_last (w.alloc (.cells (drow S mn ms (.slice pa S.pend.length pcap)) 58)) (.map es1 ck1)
    rw [World.size_alloc] at this
    exact this
  have z1 : ((w.alloc (.cells (drow S mn ms (.slice pa S.pend.length pcap)) 58)).alloc (.map es1 ck1)).heap.size = w.heap.size + 2 := by simp
  rw [show (w.alloc (Obj.cells #[Value.int IntKind.i64 S.n, Value.bool S.on, Value.int IntKind.i64 S.fuse, Value.int IntKind.i64 S.steps, Value.map (some mn), Value.map (some ms), Value.slice pa S.pend.length pcap] 58)) = w.alloc (.cells (drow S mn ms (.slice pa S.pend.length pcap)) 58) from rfl, World.size_alloc]
  generalize (w.alloc (.cells (drow S mn ms (.slice pa S.pend.length pcap)) 58)).alloc (.map es1 ck1) = W1 at *
  have cellOf : ∀ (x : World) (k : Nat) (v : Value), Only [] w x → w.cell? ⟨b, k, none⟩ = some v → x.cell? ⟨b, k, none⟩ = some v := fun x k v ho hc => (World.cell?_of_block (w := w) (ho.block b hb (by simp))).trans hc
  have CELL := Lib.hid cellOf
  have C5 := Lib.hid c5
  have C6 := Lib.hid c6
  clear c0 c1 c2 c3 c4 c5 c6 fz cellOf
  have MS := Lib.hid (fun (x : World) (ho : Only [] w x) => (ho.block ms hms (by simp)).trans HB2.out)
  have LEN := Lib.hid hlen
  clear hlen
  generalize hcb : w.heap.size = cb at *
  -- the first store
  have q4 : W1.cell? ⟨cb, 4, none⟩ = some (.map (some mn)) := by rw [cell_of_row _ _ _ _ _ _ r1]; rfl
  have f4 : W1.frozen? ⟨cb, 4, none⟩ = false := by simp [World.frozen?, r1]
  have o2 : Only [] w (W1.setCell ⟨cb, 4, none⟩ (.map (some (cb + 1)))) := o1.setCell (.inr (by show w.heap.size ≤ cb; omega)) _
  have r2 := heap_setCell_row r1 4 (.map (some (cb + 1)))
  have m2 : (W1.setCell ⟨cb, 4, none⟩ (.map (some (cb + 1)))).heap[cb + 1]? = some (.map es1 ck1) := (Below.heap_setCell _ _ _ _ (by simp)).trans m1
  have z2 : (W1.setCell ⟨cb, 4, none⟩ (.map (some (cb + 1)))).heap.size = cb + 2 := by rw [World.size_setCell]; exact z1
  have d5 := CELL.out _ 5 _ o2 C5.out
  have MC := Lib.hid (mclone_any (MS.out _ o2))
  have O2 := Lib.hid o2
  have R2 := Lib.hid r2
  have M2 := Lib.hid m2
  have Z2 := Lib.hid z2
  have CB := Lib.hid hcb
  clear r1 m1 z1 o1 o2 r2 m2 z2 hcb MS
  go_wp2_with fail
  refine MC.out.mono ?_
  rintro e w' ⟨rfl, rfl⟩
  rw [Z2.out]
  -- the second map's copy
  have o3 := O2.out.alloc (.map es2 ck2)
  have r3 := (Below.heap_alloc _ (.map es2 ck2) _ (by rw [Z2.out]; omega)).trans R2.out
  have m3 := (Below.heap_alloc _ (.map es2 ck2) _ (by rw [Z2.out]; omega)).trans M2.out
  have s3 := heap_alloc_last (W1.setCell ⟨cb, 4, none⟩ (.map (some (cb + 1)))) (.map es2 ck2)
  rw [Z2.out] at s3
  have z3 : ((W1.setCell ⟨cb, 4, none⟩ (.map (some (cb + 1)))).alloc (.map es2 ck2)).heap.size = cb + 3 := by rw [World.size_alloc, Z2.out]
  clear MC O2 R2 M2 Z2 q4 f4 d5
  generalize (W1.setCell ⟨cb, 4, none⟩ (.map (some (cb + 1)))).alloc (.map es2 ck2) = W3 at *
  have q5 : W3.cell? ⟨cb, 5, none⟩ = some (.map (some ms)) := by rw [cell_of_row _ _ _ _ _ _ r3]; rfl
  have f5 : W3.frozen? ⟨cb, 5, none⟩ = false := by simp [World.frozen?, r3]
  have o4 : Only [] w (W3.setCell ⟨cb, 5, none⟩ (.map (some (cb + 2)))) := o3.setCell (.inr (by show w.heap.size ≤ cb; rw [CB.out]; omega)) _
  have r4 := heap_setCell_row r3 5 (.map (some (cb + 2)))
  have m4 : (W3.setCell ⟨cb, 5, none⟩ (.map (some (cb + 2)))).heap[cb + 1]? = some (.map es1 ck1) := (Below.heap_setCell _ _ _ _ (by simp)).trans m3
  have s4 : (W3.setCell ⟨cb, 5, none⟩ (.map (some (cb + 2)))).heap[cb + 2]? = some (.map es2 ck2) := (Below.heap_setCell _ _ _ _ (by simp)).trans s3
  have z4 : (W3.setCell ⟨cb, 5, none⟩ (.map (some (cb + 2)))).heap.size = cb + 3 := by rw [World.size_setCell]; exact z3
  have d6 := CELL.out _ 6 _ o4 C6.out
  -- the pending writes
  have SC : Hid (Calls Try.prog 30 #[.slice pa S.pend.length pcap] (W3.setCell ⟨cb, 5, none⟩ (.map (some (cb + 2)))) fun e w' => ∃ v', e = .returned v' ∧ w'.ownsRow 0 68 65 v' S.pend.length (S.pend.flatMap wcells) ∧ Only [] (W3.setCell ⟨cb, 5, none⟩ (.map (some (cb + 2)))) w' ∧ ∀ x, v'.ownBlock = some x → (W3.setCell ⟨cb, 5, none⟩ (.map (some (cb + 2)))).heap.size ≤ x) := by
    rcases H.out.pend with ⟨hl1, ⟨hnil, hl2⟩ | ⟨g, cap, cur, hv, _, hh, h3, h4, h5, h6⟩⟩
    · simp only [Value.slice.injEq] at hnil
      obtain ⟨rfl, hl3, rfl⟩ := hnil
      have hpe : S.pend = [] := List.eq_nil_of_length_eq_zero hl2
      rw [hl3]
      refine (sclone_nil _).mono ?_
      rintro e w' ⟨rfl, rfl⟩
      exact ⟨_, rfl, by rw [hpe]; exact World.ownsRow_nil _ _ _ _, Only.refl _ _, by simp [Value.ownBlock]⟩
    · simp only [Value.slice.injEq] at hv
      obtain ⟨rfl, _, rfl⟩ := hv
      refine sclone_some _ g S.pend.length _ S.pend rfl H.out.ok.pend LEN.out (fun j u hu => ?_)
      have hlt : g < w.heap.size := by rw [CB.out]; exact LT.out g (by simp [foot, Value.ownBlock])
      rw [World.cell?_of_block (w := w) (o4.block g hlt (by simp)), Nat.zero_add, cell_of_row _ _ _ _ _ _ hh, ← Array.getElem?_toList]
      rw [← h6] at hu
      have hj : j < S.pend.length * 65 := by
        rcases Nat.lt_or_ge j (S.pend.length * 65) with h | h
        · exact h
        · rw [List.getElem?_eq_none (by simp; omega)] at hu; cases hu
      rw [List.getElem?_take_of_lt hj] at hu
      exact hu
  have O4 := Lib.hid o4
  have R4 := Lib.hid r4
  have M4 := Lib.hid m4
  have S4 := Lib.hid s4
  have Z4 := Lib.hid z4
  clear r3 m3 s3 z3 o3 o4 r4 m4 s4 z4
  go_wp2_with fail
  refine SC.out.mono ?_
  rintro e w5 ⟨v', rfl, hown, o5, hnew⟩
  have lt4 : ∀ x, x < cb + 3 → w5.heap[x]? = (W3.setCell ⟨cb, 5, none⟩ (.map (some (cb + 2)))).heap[x]? := fun x hx => o5.block x (by rw [Z4.out]; exact hx) (by simp)
  have r5 := (lt4 cb (by omega)).trans R4.out
  have m5 := (lt4 (cb + 1) (by omega)).trans M4.out
  have s5 := (lt4 (cb + 2) (by omega)).trans S4.out
  have o6 := O4.out.trans o5 (by simp)
  have hnew' : ∀ x, v'.ownBlock = some x → cb + 3 ≤ x := fun x hx => by have := hnew x hx; rw [Z4.out] at this; exact this
  have hv1 : v'.oneCell' = true ∧ v'.cells = #[v'] := by
    rcases hown.2 with ⟨h1, _⟩ | ⟨g', cap', cur', h1, _⟩ <;> rw [h1] <;> exact ⟨rfl, rfl⟩
  obtain ⟨va, vc, hvs⟩ : ∃ a c, v' = .slice a S.pend.length c := by
    rcases hown.2 with ⟨h1, h2⟩ | ⟨g', cap', cur', h1, _⟩
    · exact ⟨none, 0, by rw [h1, h2]⟩
    · exact ⟨_, _, h1⟩
  subst hvs
  have q6 : w5.cell? ⟨cb, 6, none⟩ = some (.slice pa S.pend.length pcap) := by rw [cell_of_row _ _ _ _ _ _ r5]; rfl
  have f6 : w5.frozen? ⟨cb, 6, none⟩ = false := by simp [World.frozen?, r5]
  have R5 := Lib.hid r5
  have M5 := Lib.hid m5
  have S5 := Lib.hid s5
  clear SC lt4 r5 m5 s5 O4 R4 M4 S4 Z4 d6 q5 f5 hnew hv1
  go_wp2
  go_ret
  have hsz : cb + 3 ≤ w5.heap.size := by
    have := (Array.getElem?_eq_some_iff.1 S5.out).1
    omega
  refine ⟨cb, foot cb (cb + 1) (cb + 2) (.slice va S.pend.length vc), rfl, ⟨cb + 1, cb + 2, _, ⟨?_, ?_, ?_, ?_, by omega, H.out.ok⟩, rfl⟩, o6.setCell (.inr (by show w.heap.size ≤ cb; rw [CB.out]; omega)) _, fun x hx => ?_⟩
  · rw [heap_setCell_row R5.out]
    rfl
  · exact ⟨es1, ck1, (Below.heap_setCell _ _ _ _ (by simp)).trans M5.out, ok1⟩
  · exact ⟨es2, ck2, (Below.heap_setCell _ _ _ _ (by simp)).trans S5.out, ok2⟩
  · exact ownsRow_congr hown (fun x hx => Below.heap_setCell _ _ _ _ (by have := hnew' x hx; show x ≠ cb; omega))
  · rw [CB.out]
    simp only [foot, List.mem_cons, Option.mem_toList] at hx
    rcases hx with rfl | rfl | rfl | hx
    · omega
    · omega
    · omega
    · have := hnew' x hx; omega

theorem has_clone {w0 w : World} {b : Nat} {F : List Nat} {S : St} {Rs : List Res} (h : Has w0 w (DRes b F S :: Rs)) (hlen : S.pend.length < 1000000000) :
    Calls Try.prog 12 #[.pointer (some ⟨b, 0, none⟩)] w fun e w' => ∃ b' F', e = .returned (.pointer (some ⟨b', 0, none⟩)) ∧ Has w0 w' (DRes b' F' S :: DRes b F S :: Rs) := by
  refine (clone_any h.dat hlen).mono ?_
  rintro e w' ⟨b', F', rfl, d, o, f⟩
  exact ⟨b', F', rfl, h.more o (DRes b' F' S) d (fun x hx => ⟨f x hx, dAt_lt d x hx⟩)⟩

end Go.Proofs.Ytabddepidhfelaa
