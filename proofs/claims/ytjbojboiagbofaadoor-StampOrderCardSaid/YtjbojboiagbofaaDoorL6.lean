/- StampOrder's walk, all. -/
import Derived.Test.YtjbojboiagbofaaDoorL6a
import Derived.Test.YtjbojboiagbofaaDoorL6b
set_option linter.unusedSimpArgs false
set_option linter.unusedVariables false
namespace Go.Proofs.YtjbojboiagbofaaDoor
open Go.RowKit Go.Shelf

theorem lex_tm {a b ka ja da kb jb db : Nat} (hab : a < b) (hA : IsDate (a / 86400 + 365) ka ja da) (hB : IsDate (b / 86400 + 365) kb jb db) :
    ka < kb ∨ (ka = kb ∧ (ja < jb ∨ (ja = jb ∧ (da < db ∨ (da = db ∧ (a % 86400 / 3600 < b % 86400 / 3600 ∨ (a % 86400 / 3600 = b % 86400 / 3600 ∧ (a % 3600 / 60 < b % 3600 / 60 ∨ (a % 3600 / 60 = b % 3600 / 60 ∧ a % 60 < b % 60))))))))) := by
  rcases Nat.lt_or_ge (a / 86400) (b / 86400) with h | h
  · rcases hA.order hB (by omega) with q | ⟨q, q2 | ⟨q2, q3⟩⟩
    · exact .inl q
    · exact .inr ⟨q, .inl q2⟩
    · exact .inr ⟨q, .inr ⟨q2, .inl q3⟩⟩
  · have he : a / 86400 = b / 86400 := by omega
    rw [he] at hA
    obtain ⟨e1, e2, e3⟩ := hA.unique hB
    refine .inr ⟨e1.symm, .inr ⟨e2.symm, .inr ⟨e3.symm, ?_⟩⟩⟩
    omega
theorem order_some (a b : Nat) (hab : a < b) (hb : b < 4294880896) (w : World) (hT : Tabs w) (hw0 : 0 < w.heap.size) : Calls Tryd.prog 6 #[.int .i64 a, .int .i64 b] w fun e w' => e = .returned (.bool true) ∧ Below w.heap.size w w' := by
  obtain ⟨ka, ja, da, hA⟩ := date_ex (a / 86400 + 365)
  obtain ⟨kb, jb, db, hB⟩ := date_ex (b / 86400 + 365)
  obtain ⟨kc, jc, dc, hC⟩ := date_ex ((b + 86400) / 86400 + 365)
  have cA := fun w hT => of_any a ka ja da (by omega) hA w hT
  have cB := fun w hT => of_any b kb jb db (by omega) hB w hT
  have cC : ∀ w, Days w → Calls Tryd.prog 10 #[.int .i64 ((b : Int) + 86400)] w _ := fun w hT => of_any (b + 86400) kc jc dc (by omega) hC w hT
  have hlex := lex_tm hab hA hB
  obtain ⟨f0, f1, f2, f3, f4, f5, wa, TA⟩ := tm_ex ka ja da a (by omega) hA
  obtain ⟨y0, y1, y2, y3, y4, y5, wb, TB⟩ := tm_ex kb jb db b (by omega) hB
  obtain ⟨c0, c1, c2, c3, c4, c5, wc, TC⟩ := tm_ex kc jc dc (b + 86400) (by omega) hC
  rw [TA.eq] at cA
  rw [TB.eq] at cB
  rw [TC.eq] at cC
  have a0 := TA.yr.1
  have a1 := TA.mo.1
  have a2 := TA.da.1
  have a3 := TA.hr.1
  have a4 := TA.mn.1
  have a5 := TA.sc.1
  have b0 := TB.yr.1
  have b1 := TB.mo.1
  have b2 := TB.da.1
  have b3 := TB.hr.1
  have b4 := TB.mn.1
  have b5 := TB.sc.1
  have b6 := TB.wk.1
  have d3 := TC.hr.1
  have d6 := TC.wk.1
  obtain rfl : c3 = y3 := by omega
  obtain rfl : wc = (wb + 1) % 7 := by omega
  have hw : 0 ≤ wb ∧ wb < 7 := by omega
  clear d3 d6 TA TB TC hA hB hC
  rcases hlex with h | ⟨h0, h | ⟨h1, h | ⟨h2, h | ⟨h3, h | ⟨h4, h⟩⟩⟩⟩⟩
  · exact order_0 a b hab hb (by omega) hw cA cB cC w hT hw0
  · obtain rfl : f0 = y0 := by omega
    exact order_1 a b hab hb (by omega) hw cA cB cC w hT hw0
  · obtain rfl : f0 = y0 := by omega
    obtain rfl : f1 = y1 := by omega
    exact order_2 a b hab hb (by omega) hw cA cB cC w hT hw0
  · obtain rfl : f0 = y0 := by omega
    obtain rfl : f1 = y1 := by omega
    obtain rfl : f2 = y2 := by omega
    exact order_3 a b hab hb (by omega) hw cA cB cC w hT hw0
  · obtain rfl : f0 = y0 := by omega
    obtain rfl : f1 = y1 := by omega
    obtain rfl : f2 = y2 := by omega
    obtain rfl : f3 = c3 := by omega
    exact order_4 a b hab hb (by omega) hw cA cB cC w hT hw0
  · obtain rfl : f0 = y0 := by omega
    obtain rfl : f1 = y1 := by omega
    obtain rfl : f2 = y2 := by omega
    obtain rfl : f3 = c3 := by omega
    obtain rfl : f4 = y4 := by omega
    exact order_5 a b hab hb (by omega) hw cA cB cC w hT hw0
set_option maxHeartbeats 1000000 in
theorem order_none (a b : Int) (hn : a < 0 ∨ (¬ a < 0 ∧ b ≤ a) ∨ (¬ a < 0 ∧ ¬ b ≤ a ∧ 4294880896 ≤ b)) (w : World) (hT : Tabs w) (hw0 : 0 < w.heap.size) : Calls Tryd.prog 6 #[.int .i64 a, .int .i64 b] w fun e w' => e = .returned (.bool true) ∧ Below w.heap.size w w' := by
  rcases hn with h1 | ⟨h1, h2⟩ | ⟨h1, h2, h3⟩
  all_goals
    go_enter Tryd.func6, Tryd.ntmps6
    go_wp2_with fail
    refine (shown_any _ hT hw0).mono ?_; rintro e w0 ⟨rfl, b0⟩
    go_wp2
    go_ret
    exact ⟨rfl, b0⟩
theorem order_any (a b : Int) (w : World) (ba : -9223372036854775808 ≤ a ∧ a ≤ 9223372036854775807) (bb : -9223372036854775808 ≤ b ∧ b ≤ 9223372036854775807) (hT : Tabs w) (hw0 : 0 < w.heap.size) : Calls Tryd.prog 6 #[.int .i64 a, .int .i64 b] w fun e w' => e = .returned (.bool true) ∧ Below w.heap.size w w' := by
  by_cases hn : a < 0 ∨ (¬ a < 0 ∧ b ≤ a) ∨ (¬ a < 0 ∧ ¬ b ≤ a ∧ 4294880896 ≤ b)
  · exact order_none a b hn w hT hw0
  · obtain ⟨x, rfl⟩ : ∃ x : Nat, a = x := ⟨a.toNat, by omega⟩
    obtain ⟨y, rfl⟩ : ∃ y : Nat, b = y := ⟨b.toNat, by omega⟩
    exact order_some x y (by omega) (by omega) w hT hw0
end Go.Proofs.YtjbojboiagbofaaDoor
