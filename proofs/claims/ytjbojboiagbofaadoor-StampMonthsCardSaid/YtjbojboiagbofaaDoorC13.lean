/- clock. -/
import Derived.Test.YtjbojboiagbofaaDoorC12
set_option linter.unusedSimpArgs false
set_option linter.unusedVariables false
namespace Go.Proofs.YtjbojboiagbofaaDoor
open Go.RowKit Go.Shelf

def clockL (h mi se : Nat) : List UInt8 := dg2 h ++ ([58] ++ (dg2 mi ++ ([58] ++ (dg2 se ++ [32, 43, 48, 48, 48, 48]))))
theorem clockL_len (h mi se : Nat) : (clockL h mi se).length = 14 := rfl
theorem ret_str {a b : ByteArray} (h : a = b) : Ending.returned (.string a) = .returned (.string b) := by rw [h]
theorem str_lit (l : List UInt8) : ∀ a : Array UInt8, a = l.toArray → (⟨a⟩ : ByteArray) = ⟨l.toArray⟩ := fun _ h => by rw [h]
set_option maxHeartbeats 2000000 in
theorem clock_any (y m d h mi se wd : Int) (hn mn sn : Nat) (hh : h = hn) (hm : mi = mn) (hs : se = sn) (h1 : hn < 100) (h2 : mn < 100) (h3 : sn < 100) (w : World) :
    Calls Tryd.prog 25 #[.agg #[.int .i64 y, .int .i64 m, .int .i64 d, .int .i64 h, .int .i64 mi, .int .i64 se, .int .i64 wd]] w fun e w' => e = .returned (.string ⟨(clockL hn mn sn).toArray⟩) ∧ Below w.heap.size w w' := by
  have hbb := below_dn (w := w) #[.int .i64 y, .int .i64 m, .int .i64 d, .int .i64 h, .int .i64 mi, .int .i64 se, .int .i64 wd]
  have c1 := fun w => two_any hn h1 48 w
  have c2 := fun w => two_any mn h2 48 w
  have c3 := fun w => two_any sn h3 48 w
  rw [dgp_zero h1] at c1
  rw [dgp_zero h2] at c2
  rw [dgp_zero h3] at c3
  rw [← hh] at c1
  rw [← hm] at c2
  rw [← hs] at c3
  unfold clockL
  clear h1 h2 h3 hh hm hs
  have z1 : (⟨(dg2 hn).toArray⟩ : ByteArray).size = 2 := rfl
  have z2 : (⟨(dg2 mn).toArray⟩ : ByteArray).size = 2 := rfl
  have z3 : (⟨(dg2 sn).toArray⟩ : ByteArray).size = 2 := rfl
  rw [← str_app, ← str_app, ← str_app, ← str_app, ← str_app]
  generalize (⟨(dg2 hn).toArray⟩ : ByteArray) = s1 at *
  generalize (⟨(dg2 mn).toArray⟩ : ByteArray) = s2 at *
  generalize (⟨(dg2 sn).toArray⟩ : ByteArray) = s3 at *
  go_enter Tryd.func25, Tryd.ntmps25
  go_wp2
  go_quiet ((go_at_call 23; with_reducible first | exact qSame c1 | exact qSame c2 | exact qSame c3))
  go_wp2
  go_ret
  refine ⟨ret_str ?_, hbb _⟩
  simp only [ByteArray.append_assoc]
end Go.Proofs.YtjbojboiagbofaaDoor
