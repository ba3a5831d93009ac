/- Layer 7, the document's own: RightPolicy. -/
import Derived.Test.YtdppabnhflaoeaaPolV
namespace Go.Proofs.Ytdppabnhflaoeaa
set_option linter.unusedVariables false
set_option linter.unusedSimpArgs false
open Go.ChangeShapes Go.WideShapes Go.ChangeAt Go.RowKit

set_option maxRecDepth 100000 in
set_option maxHeartbeats 2000000 in
theorem rpol_any (F : Nat → Int) (w : World) : Calls Try.prog 19 #[pv F] w fun e w' => e = .returned (.bool (E.rp F)) ∧ Below w.heap.size w w' := by
  go_enter Try.func19, Try.ntmps19
  go_wp2
  all_goals
    go_ret
    refine ⟨ret_bool ?_, b_alloc _ _⟩
    rw [Bool.eq_iff_iff]
    simp [E.rp]
    try omega
end Go.Proofs.Ytdppabnhflaoeaa
