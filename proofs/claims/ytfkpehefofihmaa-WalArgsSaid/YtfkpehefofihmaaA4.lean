/- WalArgs, walked, whatever came in. -/
import Derived.Test.YtfkpehefofihmaaA1
import Derived.Test.YtfkpehefofihmaaA2
import Derived.Test.YtfkpehefofihmaaA3
namespace Go.Proofs.Ytfkpehefofihmaa
open Go.RowKit
theorem args_all (w : World) (n at' many : Int) (n0 : -9223372036854775808 ≤ n) (n1 : n ≤ 9223372036854775807) (a0 : -9223372036854775808 ≤ at') (a1 : at' ≤ 9223372036854775807) (m0 : -9223372036854775808 ≤ many) (m1 : many ≤ 9223372036854775807) :
    Calls Try.prog 4 #[.int .i64 n, .int .i64 at', .int .i64 many] w fun e w' => e = .returned (.bool true) ∧ Only [] w w' := by
  by_cases hn : n < 1 ∨ 8192 < n
  · exact args_no w n at' many hn
  by_cases h1 : many < 3
  · exact args_b1 w n at' many (by omega) (by omega) a0 a1 m0 m1 h1
  by_cases h2 : at' < 0
  · exact args_b2 w n at' many (by omega) (by omega) a0 a1 m0 m1 (by omega) h2
  by_cases h3 : n < many
  · exact args_b3 w n at' many (by omega) (by omega) a0 a1 m0 m1 (by omega) (by omega) h3
  by_cases h4 : n - many < at'
  · exact args_b4 w n at' many (by omega) (by omega) a0 a1 m0 m1 (by omega) (by omega) (by omega) h4
  by_cases h5 : many ≤ 3
  · exact args_c1 w n at' many (by omega) (by omega) ⟨by omega, h5⟩ (by omega) (by omega)
  · exact args_c2 w n at' many (by omega) (by omega) (by omega) (by omega) (by omega)
end Go.Proofs.Ytfkpehefofihmaa
