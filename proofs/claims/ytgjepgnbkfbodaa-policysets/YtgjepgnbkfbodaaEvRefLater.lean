/- Layer 7, the document's own: Later. -/
import Derived.Test.YtgjepgnbkfbodaaEvMem
namespace Go.Proofs.Ytgjepgnbkfbodaa
set_option linter.unusedVariables false
set_option linter.unusedSimpArgs false
open Go.ChangeShapes Go.WideShapes Go.ChangeAt Go.RowKit

set_option maxRecDepth 100000 in
set_option maxHeartbeats 2000000 in
theorem rlater_any (F G : Nat → Int) (A : Option Addr) (n c : Nat) (B : Option Addr) (m d : Nat) (w : World) : Calls Try.prog 29 #[ev F A n c, ev G B m d] w fun e w' => e = .returned (.bool (E.later F G)) ∧ Below w.heap.size w w' := by
  by_cases h : F 2 = G 2
  · have hl : E.later F G = D.bef (G 0, G 1) (F 0, F 1) := by unfold E.later; rw [if_pos h]
    rw [hl]
    clear hl
    go_enter Try.func29, Try.ntmps29
    go_wp2_with fail
    refine (rbefore_any _ _ _ _ _).mono ?_
    rintro e w1 ⟨rfl, hb⟩
    go_wp2
    go_ret
    exact ⟨rfl, below_new (b_alloc2 _ _ _) hb⟩
  · have hl : E.later F G = decide (G 2 < F 2) := by unfold E.later; rw [if_neg h]
    rw [hl]
    clear hl
    go_enter Try.func29, Try.ntmps29
    go_wp2
    go_ret
    exact ⟨rfl, b_alloc2 _ _ _⟩
end Go.Proofs.Ytgjepgnbkfbodaa
