/- Layer 6: rows of dots searched and held against each other. -/
import Derived.Test.YtedcgfcmhaeldaaDotRowI
namespace Go.Proofs.Ytedcgfcmhaeldaa
set_option linter.unusedVariables false
set_option linter.unusedSimpArgs false
open Go.ChangeShapes Go.WideShapes Go.ChangeAt Go.RowKit

set_option maxHeartbeats 1000000 in
theorem rsame_yes (S T : Nat → Prop) (U : Nat → Int) (A B : Option Addr) (n c d : Nat) (M : List D.Dot) (w : World) (hn : M.length = n) (hA : Rds w S A (dvs M)) (hB : Rds w T B (dvs M)) (hl : n ≤ 1000000) :
    Calls Try.prog 17 #[sv U A n c, sv U B n d] w fun e w' => e = .returned (.bool true) ∧ Below w.heap.size w w' := by
  have q1 := fun W => eql_arr U W
  have q2 := Try.guardArr
  go_enter Try.func17, Try.ntmps17
  go_wp2_with fail
  refine (dots_yes S T A B n c d M _ hn ((hA.alloc _).alloc _) ((hB.alloc _).alloc _) hl).mono ?_
  rintro e w1 ⟨rfl, hd⟩
  clear q1 q2
  go_wp2
  go_ret
  exact ⟨rfl, (b_alloc2 _ _ _).trans (hd.below _)⟩
end Go.Proofs.Ytedcgfcmhaeldaa
