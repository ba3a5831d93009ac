/- Layer 6, what is asked of one dot or two: contracts of the program's. -/
import Derived.Test.YtlckappnpdkihaaRefDot
import Derived.Test.YtlckappnpdkihaaDotMemS
namespace Go.Proofs.Ytlckappnpdkihaa
set_option linter.unusedVariables false
set_option linter.unusedSimpArgs false
open Go.ChangeShapes Go.WideShapes Go.ChangeAt Go.RowKit

set_option maxHeartbeats 400000 in
theorem maybe_any (a b : Int) (w : World) :
    Calls Try.prog 66 #[.agg #[.int .i64 a, .int .i64 b]] w fun e w' => e = .returned (.bool (D.may (a, b))) ∧ Below w.heap.size w w' := by
  go_enter Try.func66, Try.ntmps66
  go_wp2
  all_goals
    go_ret
    refine ⟨ret_bool ?_, b_alloc _ _⟩
    rw [Bool.eq_iff_iff]
    simp [D.may]
    try omega

set_option maxHeartbeats 400000 in
theorem ahead_any (a b c d : Int) (w : World) :
    Calls Try.prog 76 #[.agg #[.int .i64 a, .int .i64 b], .agg #[.int .i64 c, .int .i64 d]] w fun e w' => e = .returned (.bool (D.bef (a, b) (c, d))) ∧ Below w.heap.size w w' := by
  go_enter Try.func76, Try.ntmps76
  go_wp2
  all_goals
    go_ret
    refine ⟨ret_bool ?_, b_alloc2 _ _ _⟩
    rw [Bool.eq_iff_iff]
    simp [D.bef]
    try omega
end Go.Proofs.Ytlckappnpdkihaa
