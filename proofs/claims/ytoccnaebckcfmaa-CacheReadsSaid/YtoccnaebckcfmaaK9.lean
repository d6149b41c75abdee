/- fetch, Read, New. -/
import Derived.Test.YtoccnaebckcfmaaK8
set_option linter.unusedSimpArgs false
set_option linter.unusedVariables false
set_option maxRecDepth 8000
namespace Go.Proofs.Ytoccnaebckcfmaa
open Go.RowKit
open Go.ChangeMaps (setBlock)

section
variable {ops : Array Oper} {rest : List Oper} {o : Oper} {a : Act} {Q : Exit → Act → World → Prop} {w : World}
/-- 'copy(s[:], b)' into a sector of one's own. -/
theorem wpL_copyG {c v : Array Value} {t : TypeId} {g : Nat} {x y : Operand} {ad : Addr} {cap : Nat} (hg : o.guard = none) (ho : o.op = .call { callee := .builtin .copy, args := #[x, y], argTypes := #[34, 34] })
    (hx : a.eval x = .slice (some ⟨g, 0, none⟩) 64 64) (hy : a.eval y = .slice (some ad) 64 cap) (hb : w.heap[g]? = some (.cells c t (0, 0))) (hc : c.size = 64) (hv : SecOk v) (hsrc : ∀ j u, v.toList[j]? = some u → w.cell? (ad.add j) = some u)
    (h : wpList Try.prog ops Q rest (a.put o.dst (.int .i64 64)) (w.setRow g v)) : wpList Try.prog ops Q (o :: rest) a w := by
  have hl : v.toList.length = 64 := by simpa using hv.1
  have hr := run_copy_row (P := Try.prog) w 34 34 o.type 5 g 0 64 64 ad 64 cap c t v.toList Try.underlying34 (by kernel_rfl) hb (by rw [hl]; rfl) hsrc (by rw [hl, hc]; omega) (fun u hu => (Array.all_eq_true_iff_forall_mem.1 hv.2) u (by simpa using hu))
  rw [hl] at hr
  have e : (c.toList.take 0 ++ v.toList ++ c.toList.drop (0 + 64)).toArray = v := by
    rw [List.take_zero, List.nil_append, List.drop_of_length_le (by simp [hc]), List.append_nil, Array.toArray_toList]
  rw [e] at hr
  refine wpL_value hg ?_ h
  unfold execOp
  simp only [ho, resolve, invoke, builtin, Sem.run_bind, Sem.run_pure, Result.andThen_ok, List.map_toArray, List.map_cons, List.map_nil, hx, hy, hr]
  rfl
end

set_option maxHeartbeats 1000000 in
theorem fetch_ok {w : World} {cb b : Nat} {F : List Nat} {S : St} (hc : w.cell? ⟨cb, 0, none⟩ = some (pp b)) (hd : DAt w b F S) (i : Int) (hr : S.reach i = 0) :
    Calls Try.prog 38 #[pp cb, .int .i64 i] w fun e w' => e = .returned (.tuple #[.slice (some ⟨w.heap.size, 0, none⟩) 64 64, .int .i64 0]) ∧ w' = w.alloc (.cells ((S.now i).getD Z) 93) := by
  have RD := Lib.hid (read_ok hd i hr)
  have hc' : w.cell? ⟨cb, 0, none⟩ = some (.pointer (some ⟨b, 0, none⟩)) := hc
  clear hd hc
  show Calls Try.prog 38 #[.pointer (some ⟨cb, 0, none⟩), .int .i64 i] w _
  go_enter Try.func38, Try.ntmps38
  go_wp2_with (go_at_call 33; refine RD.out.mono ?_; rintro e w' ⟨rfl, rfl⟩)
  go_ret2
  exact ⟨rfl, rfl⟩
set_option maxHeartbeats 1000000 in
theorem fetch_no {w : World} {cb b : Nat} {F : List Nat} {S : St} (hc : w.cell? ⟨cb, 0, none⟩ = some (pp b)) (hd : DAt w b F S) (i : Int) (hr : S.reach i ≠ 0) :
    Calls Try.prog 38 #[pp cb, .int .i64 i] w fun e w' => e = .returned (.tuple #[.slice none 0 0, .int .i64 (S.reach i)]) ∧ w' = w := by
  have RD := Lib.hid (read_no hd i hr)
  have hc' : w.cell? ⟨cb, 0, none⟩ = some (.pointer (some ⟨b, 0, none⟩)) := hc
  clear hd hc
  show Calls Try.prog 38 #[.pointer (some ⟨cb, 0, none⟩), .int .i64 i] w _
  go_enter Try.func38, Try.ntmps38
  go_wp2_with (go_at_call 33; refine RD.out.mono ?_; rintro e w' ⟨rfl, rfl⟩)
  go_ret2
  exact ⟨rfl, rfl⟩

/-- Behind a Read: the bytes lie in a block of the caller's. -/
def ReadPost (w : World) (cb d wb : Nat) (F : List Nat) (C' : CaS) (v : Array Value) (e : Ending) (w' : World) : Prop :=
  e = .returned (.tuple #[.slice (some ⟨w.heap.size, 0, none⟩) 64 64, .int .i64 0]) ∧ w'.heap[w.heap.size]? = some (.cells v 69 (0, 0)) ∧ ∃ F', CAt w' cb d wb F' C' ∧ (∀ x ∈ F', x ∈ F ∨ w.heap.size < x) ∧ Only F w w'

/-- The end of a Read: hold, evict. -/
theorem read_tail {w w1 w2 w3 : World} {cb d wb hm pm : Nat} {ov : Value} {C : CaS} {i : Int} {v : Array Value} {e2 e3 : Ending} (hs : w1.heap.size = w.heap.size + 1 ∨ w1.heap.size = w.heap.size + 2) (lt : ∀ x ∈ cfoot cb hm pm ov, x < w.heap.size) (o1 : Only (cfoot cb hm pm ov) w w1) (hb : w1.heap[w.heap.size]? = some (.cells v 69 (0, 0)))
    (ok : CaOk C) (h0 : 0 ≤ i) (h1 : i < 8192) (hv : SecOk v) {ov2 : Value} (hg2 : ∀ g, ov2.ownBlock = some g → ov.ownBlock = some g ∨ w1.heap.size ≤ g) (o2 : Only (cfoot cb hm pm ov) w1 w2) {ov3 : Value} (hov : ov3.ownBlock = ov2.ownBlock) (h3 : CIs w3 cb d wb hm pm ov3 (C.use i v).evict) (o3 : Only (cfoot cb hm pm ov2) w2 w3) :
    ReadPost w cb d wb (cfoot cb hm pm ov) (C.use i v).evict v (.returned (.tuple #[.slice (some ⟨w.heap.size, 0, none⟩) 64 64, .int .i64 0])) w3 := by
  have n2 : w.heap.size ∉ cfoot cb hm pm ov := fun hx => by have := lt _ hx; omega
  have n3 : w.heap.size ∉ cfoot cb hm pm ov2 := fun hx => by
    simp only [cfoot, List.mem_cons, Option.mem_toList] at hx
    rcases hx with hx | hx | hx | hx
    · have := lt cb (by simp [cfoot]); omega
    · have := lt hm (by simp [cfoot]); omega
    · have := lt pm (by simp [cfoot]); omega
    · rcases hg2 _ hx with hx | hx
      · have := lt w.heap.size (by simp [cfoot, hx]); omega
      · omega
  have s2 := o2.size
  have b2 := (o2.block w.heap.size (by omega) n2).trans hb
  have b3 := (o3.block w.heap.size (by omega) n3).trans b2
  have o12 := o1.trans o2 (fun x hx => .inl hx)
  refine ⟨rfl, b3, _, ⟨hm, pm, ov3, h3, (ok.use h0 h1 hv).evict, rfl⟩, fun x hx => ?_, o12.trans o3 (fun x hx => ?_)⟩
  · simp only [cfoot, List.mem_cons, Option.mem_toList] at hx ⊢
    rcases hx with h | h | h | h
    · exact .inl (.inl h)
    · exact .inl (.inr (.inl h))
    · exact .inl (.inr (.inr (.inl h)))
    · rcases hg2 x (hov ▸ h) with h | h
      · exact .inl (.inr (.inr (.inr h)))
      · exact .inr (by omega)
  · simp only [cfoot, List.mem_cons, Option.mem_toList] at hx ⊢
    rcases hx with h | h | h | h
    · exact .inl (.inl h)
    · exact .inl (.inr (.inl h))
    · exact .inl (.inr (.inr (.inl h)))
    · rcases hg2 x h with h | h
      · exact .inl (.inr (.inr (.inr h)))
      · exact .inr (by omega)

set_option maxHeartbeats 4000000 in
theorem read_hit {w : World} {cb d wb : Nat} {F : List Nat} {C : CaS} (h : CAt w cb d wb F C) {i : Int} {v : Array Value} (hi : C.held i = some v) :
    Calls Try.prog 12 #[pp cb, .int .i64 i] w fun e w' => ReadPost w cb d wb F (C.use i v).evict v e w' := by
  obtain ⟨hm, pm, ov, h1, ok, rfl⟩ := h
  have hv := ok.sec i v hi
  have hin : i ∈ C.ord := (ok.hd i).1 (by rw [hi]; rfl)
  have hrg := ok.rg i hin
  have hlen := ok.len
  obtain ⟨c0, c1, c2, c3, c4, c5, c6, c7, fz⟩ := h1.cells
  have HM := Lib.hid h1.held
  have lt := h1.lt
  have o1 : Only [] w (w.alloc (.cells v 69)) := (Only.refl [] w).alloc _
  have hb := heap_alloc_last w (.cells v 69)
  have HO := Lib.hid (hold_any (h1.only o1 (by simp)) ok.nd hlen i v hv)
  have OK := Lib.hid ok
  have LT := Lib.hid lt
  have e1 : (C.held i).getD Z = v := by rw [hi]; rfl
  have e2 : (C.held i).isSome = true := by rw [hi]; rfl
  have HI := Lib.hid hi
  have hhs : (w.alloc (.cells v 69)).heap.size = w.heap.size + 1 := by simp
  have HHS := Lib.hid hhs
  clear h1 c0 c1 c2 c3 c4 c6 c7 fz ok lt hi hhs
  show Calls Try.prog 12 #[.pointer (some ⟨cb, 0, none⟩), .int .i64 i] w _
  go_enter Try.func12, Try.ntmps12
  go_wp2_with (first | (refine wpL_lookG Try.underlying71 zero69 rfl rfl rfl rfl HM.out ?_; simp only [if_true, e1, e2]) | (refine wpL_alloc0 zero69 rfl rfl ?_) | (refine wpL_store0 info69 (by rfl) hv.1 hv.2 rfl rfl rfl rfl ?_) | (refine wpL_value rfl (run_load69 rfl rfl hb hv.1) ?_))
  generalize w.alloc (.cells v 69) = w1 at *
  refine HO.out.mono ?_
  rintro e w2 ⟨rfl, ov2, hg2, h2, o2⟩
  have h2' : CIs w2 cb d wb hm pm ov2 (C.use i v) := h2
  have EV := Lib.hid (evict_any h2' (OK.out.use hrg.1 hrg.2 hv))
  have O2 := Lib.hid o2
  clear h2 h2' o2 HO
  go_wp2_with fail
  refine EV.out.mono ?_
  rintro e w3 ⟨rfl, ov3, hov, h3, o3⟩
  have FIN := Lib.hid (read_tail (e2 := .returned (.tuple #[])) (e3 := .returned (.tuple #[])) (.inl HHS.out) LT.out (o1.mono (by simp)) hb OK.out hrg.1 hrg.2 hv hg2 O2.out hov h3 o3)
  clear h3 o3 EV hb
  go_wp2
  go_ret2
  exact FIN.out
end Go.Proofs.Ytoccnaebckcfmaa
