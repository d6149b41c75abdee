/- CodecStuffs' walk. -/
import Derived.Test.YtdikgifgapbocaaDoorC22
import Derived.Deep.RegionHeld3
set_option linter.unusedSimpArgs false
set_option linter.unusedVariables false
namespace Go.Proofs.YtdikgifgapbocaaDoor
open Go.RowKit Go.Shelf

set_option maxHeartbeats 4000000 in
set_option maxRecDepth 1000000 in
theorem stuffs_any (a : Option Addr) (cap : Nat) (l : List UInt8) (s : ByteArray) (w : World) (hc : l.length ≤ cap) (hm : cap ≤ maxLen) (hl : l.length ≤ 1048576) (hs : s.size ≤ 1048576) (hB : Bs w a l) (hM : Max w) :
    Calls Tryd.prog 5 #[.slice a l.length cap, .string s] w fun e w' => e = .returned (.bool true) ∧ Below w.heap.size w w' := by
  have hu1 := fun w => unstuff_any s w
  have hu2 := fun w => runstuff_any s (by omega) w
  generalize (⟨(uns s.data.toList).toArray⟩ : ByteArray) = u at hu1 hu2
  generalize (s.data.toList == [46]) = en at hu1 hu2
  go_enter Tryd.func5, Tryd.ntmps5
  go_wp2_with fail
  refine (shown_any w hM).mono ?_; rintro e w1 ⟨rfl, b1⟩
  have hB1 := hB.below b1
  have z1 := b1.size
  go_wp2_with (at_builtin; refine wpL_obs rfl rfl rfl (OB.made' b1) rfl rfl rfl (hB1.below ((Below.refl _ _).alloc (Nat.le_refl _) _)) (by simp; omega) ?_; rw [List.nil_append, Nat.zero_add]; intro a2 c2 w2 o2)
  refine (stuff_any a2 c2 l w2 (by omega) o2.cells (hM.below o2.bel)).mono ?_; rintro e w3 ⟨g, c3, rfl, r3, q3, q4⟩
  go_wp2_with fail
  refine (hu1 w3).mono ?_; rintro e w4 ⟨rfl, hw⟩; rw [hw]
  go_wp2_with fail
  refine (hu2 w3).mono ?_; rintro e w5 ⟨rfl, hw'⟩; rw [hw']
  have b3 := r3.bel
  have b4 : Below w3.heap.size w3 w3.drew := (Below.refl _ _).drew
  have bw3 := below_trans (below_trans o2.bel b3) b4
  have hBw := hB.below bw3
  have hO := (o2.cells.below b3).below b4
  have hR := r3.bs.below b4
  have HE := rstuff_any a cap l w3.drew hc hm (by omega) hBw
  unfold RStuff at HE
  generalize hst : stuff l = S at *
  have s0 := bs_string' (n := S.length) c3 hR rfl
  go_wp2_with fail
  have s1 := bs_string' (n := l.length) c2 hO rfl
  have s2 := bs_string' (n := l.length) cap hBw rfl
  clear hst hw hw' hB1 z1 hs hM hB hl b1 b3 b4 q4 q3 o2 r3 s0
  have s0 := bs_string' (n := S.length) c3 hR rfl
  refine wp_region_held_drew (S := (fun w' => (convert 22 9 (.slice (some ⟨g, 0, none⟩) S.length c3)).run Tryd.prog w' = .ok (.string ⟨S.toArray⟩) w' ∧ (convert 22 9 (.slice a2 l.length c2)).run Tryd.prog w' = .ok (.string ⟨l.toArray⟩) w' ∧ (convert 22 9 (.slice a l.length cap)).run Tryd.prog w' = .ok (.string ⟨l.toArray⟩) w')) (by kernel_rfl) ⟨s0, s1, s2⟩ (fun hHeld => ?_)
  refine wpAnyH_take (i := 0) (oi := ({ dst := some 28, op := Op.move (Operand.tmp 5), type := 4, pos := "law.go:46", after := #[], guard := none  } : Oper)) (v := ?_) rfl (by kernel_rfl) (by kernel_rfl) (by kernel_rfl) (fun _ _ _ h => h) (Or.inl ⟨by rfl, ?_⟩) (by assumption) ?_
  rotate_left
  · (intro w hSw; (try dsimp only at hSw); go_simp) <;> with_reducible rfl
  try simp only [Act.put, List.setIfInBounds_toArray, List.set_cons_zero, List.set_cons_succ]
  refine wpAnyH_take (i := 1) (oi := ({ dst := some 29, op := Op.move (Operand.tmp 28), type := 4, pos := "law.go:46", after := #[{ on := 0, ground := Ground.data  }], guard := none  } : Oper)) (v := ?_) rfl (by kernel_rfl) (by kernel_rfl) (by kernel_rfl) (fun _ _ _ h => h) (Or.inl ⟨by rfl, ?_⟩) (by assumption) ?_
  rotate_left
  · (intro w hSw; (try dsimp only at hSw); go_simp) <;> with_reducible rfl
  try simp only [Act.put, List.setIfInBounds_toArray, List.set_cons_zero, List.set_cons_succ]
  refine wpAnyH_take (i := 2) (oi := ({ dst := some 30, op := Op.move (Operand.tmp 7), type := 22, pos := "law.go:46", after := #[{ on := 1, ground := Ground.guard  }], guard := some (1, true)  } : Oper)) (v := ?_) rfl (by kernel_rfl) (by kernel_rfl) (by kernel_rfl) (fun _ _ _ h => h) (Or.inl ⟨by rfl, ?_⟩) (by assumption) ?_
  rotate_left
  · (intro w hSw; (try dsimp only at hSw); go_simp) <;> with_reducible rfl
  try simp only [Act.put, List.setIfInBounds_toArray, List.set_cons_zero, List.set_cons_succ]
  refine wpAnyH_take (i := 3) (oi := ({ dst := some 31, op := Op.convert 22 9 (Operand.tmp 30), type := 9, pos := "law.go:46", after := #[{ on := 2, ground := Ground.data  }, { on := 1, ground := Ground.guard  }], guard := some (1, true)  } : Oper)) (v := ?_) rfl (by kernel_rfl) (by kernel_rfl) (by kernel_rfl) (fun _ _ _ h => h) (Or.inl ⟨by rfl, ?_⟩) (by assumption) ?_
  rotate_left
  · (intro w hSw; (try dsimp only at hSw); go_simp) <;> with_reducible rfl
  try simp only [Act.put, List.setIfInBounds_toArray, List.set_cons_zero, List.set_cons_succ]
  refine wpAnyH_take (i := 4) (oi := ({ dst := some 32, op := Op.move (Operand.tmp 0), type := 22, pos := "law.go:46", after := #[{ on := 1, ground := Ground.guard  }], guard := some (1, true)  } : Oper)) (v := ?_) rfl (by kernel_rfl) (by kernel_rfl) (by kernel_rfl) (fun _ _ _ h => h) (Or.inl ⟨by rfl, ?_⟩) (by assumption) ?_
  rotate_left
  · (intro w hSw; (try dsimp only at hSw); go_simp) <;> with_reducible rfl
  try simp only [Act.put, List.setIfInBounds_toArray, List.set_cons_zero, List.set_cons_succ]
  refine wpAnyH_ready (rs := [5]) (by kernel_rfl) (by simp) ?_
  refine AllReadyH.cons (o := ({ dst := some 33, op := Op.call { callee := Callee.value (Operand.func 18), args := #[Operand.tmp 32], argTypes := #[22]  }, type := 22, pos := "law.go:46", after := #[{ on := 4, ground := Ground.data  }, { on := 1, ground := Ground.chain  }, { on := 1, ground := Ground.guard  }], guard := some (1, true)  } : Oper)) rfl (fun K hK => ?_) AllReadyH.nil
  go_simp
  go_at_call 18
  refine HE.mono ?_; rintro e w6 ⟨ar, cr, rfl, hr, q5, q6, b6⟩
  have t0 := bs_string' c3 (hR.below b6) rfl
  have t1 := bs_string' c2 (hO.below b6) rfl
  have t2 := bs_string' cap (hBw.below b6) rfl
  have t3 := bs_string' cr hr rfl
  go_wp2_with fail
  refine hK.out _ _ ⟨t0, t1, t2⟩ (fun hHeld => ?_)
  clear hK K
  try simp only [Act.put, List.setIfInBounds_toArray, List.set_cons_zero, List.set_cons_succ]
  refine wpAnyH_ready (rs := [6]) (by kernel_rfl) (by simp) ?_
  refine AllReadyH.cons (o := ({ dst := some 34, op := Op.convert 22 9 (Operand.tmp 33), type := 9, pos := "law.go:46", after := #[{ on := 5, ground := Ground.data  }, { on := 1, ground := Ground.guard  }], guard := some (1, true)  } : Oper)) rfl (fun K hK => ?_) AllReadyH.nil
  go_simp
  refine hK.out _ _ ⟨t0, t1, t2⟩ (fun hHeld => ?_)
  clear hK K
  try simp only [Act.put, List.setIfInBounds_toArray, List.set_cons_zero, List.set_cons_succ]
  refine wpAnyH_take (i := 7) (oi := ({ dst := some 35, op := Op.binOp BinOp.eql 9 (Operand.tmp 31) (Operand.tmp 34) 9, type := 4, pos := "law.go:46", after := #[{ on := 3, ground := Ground.data  }, { on := 6, ground := Ground.data  }, { on := 1, ground := Ground.guard  }], guard := some (1, true)  } : Oper)) (v := ?_) rfl (by kernel_rfl) (by kernel_rfl) (by kernel_rfl) (fun _ _ _ h => h) (Or.inl ⟨by rfl, ?_⟩) (by assumption) ?_
  rotate_left
  · (intro w hSw; (try dsimp only at hSw); go_simp) <;> with_reducible rfl
  try simp only [Act.put, List.setIfInBounds_toArray, List.set_cons_zero, List.set_cons_succ]
  refine wpAnyH_take (i := 8) (oi := ({ dst := some 36, op := Op.pick (Operand.tmp 29) (Operand.tmp 35) (Operand.const (Value.bool false)), type := 4, pos := "law.go:46", after := #[{ on := 1, ground := Ground.data  }, { on := 7, ground := Ground.data  }], guard := none  } : Oper)) (v := ?_) rfl (by kernel_rfl) (by kernel_rfl) (by kernel_rfl) (fun _ _ _ h => h) (Or.inl ⟨by rfl, ?_⟩) (by assumption) ?_
  rotate_left
  · (intro w hSw; (try dsimp only at hSw); go_simp) <;> with_reducible rfl
  try simp only [Act.put, List.setIfInBounds_toArray, List.set_cons_zero, List.set_cons_succ]
  refine wpAnyH_take (i := 9) (oi := ({ dst := some 37, op := Op.move (Operand.tmp 36), type := 4, pos := "law.go:46", after := #[{ on := 8, ground := Ground.data  }, { on := 5, ground := Ground.chain  }], guard := none  } : Oper)) (v := ?_) rfl (by kernel_rfl) (by kernel_rfl) (by kernel_rfl) (fun _ _ _ h => h) (Or.inl ⟨by rfl, ?_⟩) (by assumption) ?_
  rotate_left
  · (intro w hSw; (try dsimp only at hSw); go_simp) <;> with_reducible rfl
  try simp only [Act.put, List.setIfInBounds_toArray, List.set_cons_zero, List.set_cons_succ]
  refine wpAnyH_take (i := 10) (oi := ({ dst := some 38, op := Op.move (Operand.tmp 6), type := 22, pos := "law.go:46", after := #[{ on := 9, ground := Ground.guard  }], guard := some (9, true)  } : Oper)) (v := ?_) rfl (by kernel_rfl) (by kernel_rfl) (by kernel_rfl) (fun _ _ _ h => h) (Or.inl ⟨by rfl, ?_⟩) (by assumption) ?_
  rotate_left
  · (intro w hSw; (try dsimp only at hSw); go_simp) <;> with_reducible rfl
  try simp only [Act.put, List.setIfInBounds_toArray, List.set_cons_zero, List.set_cons_succ]
  refine wpAnyH_take (i := 11) (oi := ({ dst := some 39, op := Op.convert 22 9 (Operand.tmp 38), type := 9, pos := "law.go:46", after := #[{ on := 10, ground := Ground.data  }, { on := 9, ground := Ground.guard  }], guard := some (9, true)  } : Oper)) (v := ?_) rfl (by kernel_rfl) (by kernel_rfl) (by kernel_rfl) (fun _ _ _ h => h) (Or.inl ⟨by rfl, ?_⟩) (by assumption) ?_
  rotate_left
  · (intro w hSw; (try dsimp only at hSw); go_simp) <;> with_reducible rfl
  try simp only [Act.put, List.setIfInBounds_toArray, List.set_cons_zero, List.set_cons_succ]
  refine wpAnyH_take (i := 12) (oi := ({ dst := some 40, op := Op.move (Operand.tmp 0), type := 22, pos := "law.go:46", after := #[{ on := 9, ground := Ground.guard  }], guard := some (9, true)  } : Oper)) (v := ?_) rfl (by kernel_rfl) (by kernel_rfl) (by kernel_rfl) (fun _ _ _ h => h) (Or.inl ⟨by rfl, ?_⟩) (by assumption) ?_
  rotate_left
  · (intro w hSw; (try dsimp only at hSw); go_simp) <;> with_reducible rfl
  try simp only [Act.put, List.setIfInBounds_toArray, List.set_cons_zero, List.set_cons_succ]
  refine wpAnyH_take (i := 13) (oi := ({ dst := some 41, op := Op.convert 22 9 (Operand.tmp 40), type := 9, pos := "law.go:46", after := #[{ on := 12, ground := Ground.data  }, { on := 9, ground := Ground.guard  }], guard := some (9, true)  } : Oper)) (v := ?_) rfl (by kernel_rfl) (by kernel_rfl) (by kernel_rfl) (fun _ _ _ h => h) (Or.inl ⟨by rfl, ?_⟩) (by assumption) ?_
  rotate_left
  · (intro w hSw; (try dsimp only at hSw); go_simp) <;> with_reducible rfl
  try simp only [Act.put, List.setIfInBounds_toArray, List.set_cons_zero, List.set_cons_succ]
  refine wpAnyH_take (i := 14) (oi := ({ dst := some 42, op := Op.binOp BinOp.eql 9 (Operand.tmp 39) (Operand.tmp 41) 9, type := 4, pos := "law.go:46", after := #[{ on := 11, ground := Ground.data  }, { on := 13, ground := Ground.data  }, { on := 9, ground := Ground.guard  }], guard := some (9, true)  } : Oper)) (v := ?_) rfl (by kernel_rfl) (by kernel_rfl) (by kernel_rfl) (fun _ _ _ h => h) (Or.inl ⟨by rfl, ?_⟩) (by assumption) ?_
  rotate_left
  · (intro w hSw; (try dsimp only at hSw); go_simp) <;> with_reducible rfl
  try simp only [Act.put, List.setIfInBounds_toArray, List.set_cons_zero, List.set_cons_succ]
  refine wpAnyH_take (i := 15) (oi := ({ dst := some 43, op := Op.pick (Operand.tmp 37) (Operand.tmp 42) (Operand.const (Value.bool false)), type := 4, pos := "law.go:46", after := #[{ on := 9, ground := Ground.data  }, { on := 14, ground := Ground.data  }], guard := none  } : Oper)) (v := ?_) rfl (by kernel_rfl) (by kernel_rfl) (by kernel_rfl) (fun _ _ _ h => h) (Or.inl ⟨by rfl, ?_⟩) (by assumption) ?_
  rotate_left
  · (intro w hSw; (try dsimp only at hSw); go_simp) <;> with_reducible rfl
  try simp only [Act.put, List.setIfInBounds_toArray, List.set_cons_zero, List.set_cons_succ]
  refine wpAnyH_take (i := 16) (oi := ({ dst := some 44, op := Op.move (Operand.tmp 43), type := 4, pos := "law.go:46", after := #[{ on := 15, ground := Ground.data  }, { on := 9, ground := Ground.chain  }], guard := none  } : Oper)) (v := ?_) rfl (by kernel_rfl) (by kernel_rfl) (by kernel_rfl) (fun _ _ _ h => h) (Or.inl ⟨by rfl, ?_⟩) (by assumption) ?_
  rotate_left
  · (intro w hSw; (try dsimp only at hSw); go_simp) <;> with_reducible rfl
  try simp only [Act.put, List.setIfInBounds_toArray, List.set_cons_zero, List.set_cons_succ]
  refine wpAnyH_take (i := 17) (oi := ({ dst := some 45, op := Op.move (Operand.tmp 8), type := 9, pos := "law.go:46", after := #[{ on := 16, ground := Ground.guard  }], guard := some (16, true)  } : Oper)) (v := ?_) rfl (by kernel_rfl) (by kernel_rfl) (by kernel_rfl) (fun _ _ _ h => h) (Or.inl ⟨by rfl, ?_⟩) (by assumption) ?_
  rotate_left
  · (intro w hSw; (try dsimp only at hSw); go_simp) <;> with_reducible rfl
  try simp only [Act.put, List.setIfInBounds_toArray, List.set_cons_zero, List.set_cons_succ]
  refine wpAnyH_take (i := 18) (oi := ({ dst := some 46, op := Op.move (Operand.tmp 10), type := 9, pos := "law.go:46", after := #[{ on := 16, ground := Ground.guard  }], guard := some (16, true)  } : Oper)) (v := ?_) rfl (by kernel_rfl) (by kernel_rfl) (by kernel_rfl) (fun _ _ _ h => h) (Or.inl ⟨by rfl, ?_⟩) (by assumption) ?_
  rotate_left
  · (intro w hSw; (try dsimp only at hSw); go_simp) <;> with_reducible rfl
  try simp only [Act.put, List.setIfInBounds_toArray, List.set_cons_zero, List.set_cons_succ]
  refine wpAnyH_take (i := 19) (oi := ({ dst := some 47, op := Op.binOp BinOp.eql 9 (Operand.tmp 45) (Operand.tmp 46) 9, type := 4, pos := "law.go:46", after := #[{ on := 17, ground := Ground.data  }, { on := 18, ground := Ground.data  }, { on := 16, ground := Ground.guard  }], guard := some (16, true)  } : Oper)) (v := ?_) rfl (by kernel_rfl) (by kernel_rfl) (by kernel_rfl) (fun _ _ _ h => h) (Or.inl ⟨by rfl, ?_⟩) (by assumption) ?_
  rotate_left
  · (intro w hSw; (try dsimp only at hSw); go_simp) <;> with_reducible rfl
  try simp only [Act.put, List.setIfInBounds_toArray, List.set_cons_zero, List.set_cons_succ]
  refine wpAnyH_take (i := 20) (oi := ({ dst := some 48, op := Op.pick (Operand.tmp 44) (Operand.tmp 47) (Operand.const (Value.bool false)), type := 4, pos := "law.go:46", after := #[{ on := 16, ground := Ground.data  }, { on := 19, ground := Ground.data  }], guard := none  } : Oper)) (v := ?_) rfl (by kernel_rfl) (by kernel_rfl) (by kernel_rfl) (fun _ _ _ h => h) (Or.inl ⟨by rfl, ?_⟩) (by assumption) ?_
  rotate_left
  · (intro w hSw; (try dsimp only at hSw); go_simp) <;> with_reducible rfl
  try simp only [Act.put, List.setIfInBounds_toArray, List.set_cons_zero, List.set_cons_succ]
  refine wpAnyH_take (i := 21) (oi := ({ dst := some 49, op := Op.move (Operand.tmp 48), type := 4, pos := "law.go:46", after := #[{ on := 20, ground := Ground.data  }, { on := 16, ground := Ground.chain  }], guard := none  } : Oper)) (v := ?_) rfl (by kernel_rfl) (by kernel_rfl) (by kernel_rfl) (fun _ _ _ h => h) (Or.inl ⟨by rfl, ?_⟩) (by assumption) ?_
  rotate_left
  · (intro w hSw; (try dsimp only at hSw); go_simp) <;> with_reducible rfl
  try simp only [Act.put, List.setIfInBounds_toArray, List.set_cons_zero, List.set_cons_succ]
  refine wpAnyH_take (i := 22) (oi := ({ dst := some 50, op := Op.move (Operand.tmp 9), type := 4, pos := "law.go:46", after := #[{ on := 21, ground := Ground.guard  }], guard := some (21, true)  } : Oper)) (v := ?_) rfl (by kernel_rfl) (by kernel_rfl) (by kernel_rfl) (fun _ _ _ h => h) (Or.inl ⟨by rfl, ?_⟩) (by assumption) ?_
  rotate_left
  · (intro w hSw; (try dsimp only at hSw); go_simp) <;> with_reducible rfl
  try simp only [Act.put, List.setIfInBounds_toArray, List.set_cons_zero, List.set_cons_succ]
  refine wpAnyH_take (i := 23) (oi := ({ dst := some 51, op := Op.move (Operand.tmp 11), type := 4, pos := "law.go:46", after := #[{ on := 21, ground := Ground.guard  }], guard := some (21, true)  } : Oper)) (v := ?_) rfl (by kernel_rfl) (by kernel_rfl) (by kernel_rfl) (fun _ _ _ h => h) (Or.inl ⟨by rfl, ?_⟩) (by assumption) ?_
  rotate_left
  · (intro w hSw; (try dsimp only at hSw); go_simp) <;> with_reducible rfl
  try simp only [Act.put, List.setIfInBounds_toArray, List.set_cons_zero, List.set_cons_succ]
  refine wpAnyH_take (i := 24) (oi := ({ dst := some 52, op := Op.binOp BinOp.eql 4 (Operand.tmp 50) (Operand.tmp 51) 4, type := 4, pos := "law.go:46", after := #[{ on := 22, ground := Ground.data  }, { on := 23, ground := Ground.data  }, { on := 21, ground := Ground.guard  }], guard := some (21, true)  } : Oper)) (v := ?_) rfl (by kernel_rfl) (by kernel_rfl) (by kernel_rfl) (fun _ _ _ h => h) (Or.inl ⟨by rfl, ?_⟩) (by assumption) ?_
  rotate_left
  · (intro w hSw; (try dsimp only at hSw); go_simp) <;> with_reducible rfl
  try simp only [Act.put, List.setIfInBounds_toArray, List.set_cons_zero, List.set_cons_succ]
  refine wpAnyH_take (i := 25) (oi := ({ dst := some 53, op := Op.pick (Operand.tmp 49) (Operand.tmp 52) (Operand.const (Value.bool false)), type := 4, pos := "law.go:46", after := #[{ on := 21, ground := Ground.data  }, { on := 24, ground := Ground.data  }], guard := none  } : Oper)) (v := ?_) rfl (by kernel_rfl) (by kernel_rfl) (by kernel_rfl) (fun _ _ _ h => h) (Or.inl ⟨by rfl, ?_⟩) (by assumption) ?_
  rotate_left
  · (intro w hSw; (try dsimp only at hSw); go_simp) <;> with_reducible rfl
  try simp only [Act.put, List.setIfInBounds_toArray, List.set_cons_zero, List.set_cons_succ]
  refine wpAnyH_take (i := 26) (oi := ({ dst := some 4, op := Op.assign (Operand.tmp 53), type := 4, pos := "law.go:46", after := #[{ on := 25, ground := Ground.data  }, { on := 21, ground := Ground.chain  }, { on := 0, ground := Ground.phase  }, { on := 1, ground := Ground.phase  }, { on := 2, ground := Ground.phase  }, { on := 3, ground := Ground.phase  }, { on := 4, ground := Ground.phase  }, { on := 5, ground := Ground.phase  }, { on := 6, ground := Ground.phase  }, { on := 7, ground := Ground.phase  }, { on := 8, ground := Ground.phase  }, { on := 9, ground := Ground.phase  }, { on := 10, ground := Ground.phase  }, { on := 11, ground := Ground.phase  }, { on := 12, ground := Ground.phase  }, { on := 13, ground := Ground.phase  }, { on := 14, ground := Ground.phase  }, { on := 15, ground := Ground.phase  }, { on := 16, ground := Ground.phase  }, { on := 17, ground := Ground.phase  }, { on := 18, ground := Ground.phase  }, { on := 19, ground := Ground.phase  }, { on := 20, ground := Ground.phase  }, { on := 21, ground := Ground.phase  }, { on := 22, ground := Ground.phase  }, { on := 23, ground := Ground.phase  }, { on := 24, ground := Ground.phase  }, { on := 25, ground := Ground.phase  }], guard := none  } : Oper)) (v := ?_) rfl (by kernel_rfl) (by kernel_rfl) (by kernel_rfl) (fun _ _ _ h => h) (Or.inl ⟨by rfl, ?_⟩) (by assumption) ?_
  rotate_left
  · (intro w hSw; (try dsimp only at hSw); go_simp) <;> with_reducible rfl
  try simp only [Act.put, List.setIfInBounds_toArray, List.set_cons_zero, List.set_cons_succ]
  refine wpAnyH_done (by kernel_rfl) ?_ _
  go_wp2
  go_ret
  exact ⟨rfl, below_trans bw3 b6⟩
end Go.Proofs.YtdikgifgapbocaaDoor
