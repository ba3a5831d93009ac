/- Layer 7, the program's: Later. -/
import Derived.Test.YtgjepgnbkfbodaaEvP2
namespace Go.Proofs.Ytgjepgnbkfbodaa
set_option linter.unusedVariables false
set_option linter.unusedSimpArgs false
open Go.ChangeShapes Go.WideShapes Go.ChangeAt Go.RowKit

set_option maxRecDepth 100000 in
set_option maxHeartbeats 2000000 in
theorem later_any (F G : Nat → Int) (A : Option Addr) (n c : Nat) (B : Option Addr) (m d : Nat) (w : World) : Calls Try.prog 20 #[ev F A n c, ev G B m d] w fun e w' => e = .returned (.bool (E.later F G)) ∧ Below w.heap.size w w' := by
  by_cases h : F 2 = G 2
  · have HL : Hid (E.later F G = D.bef (G 0, G 1) (F 0, F 1)) := Lib.hid (by unfold E.later; rw [if_pos h])
    go_enter Try.func20, Try.ntmps20
    go_wp2_with fail
    refine (behind_any _ _ _ _ _).mono ?_
    rintro e w1 ⟨rfl, hb⟩
    go_wp2
    go_ret
    exact ⟨ret_bool HL.out.symm, below_new (b_alloc2 _ _ _) hb⟩
  · have HL : Hid (E.later F G = decide (G 2 < F 2)) := Lib.hid (by unfold E.later; rw [if_neg h])
    have h' : (F 2 == G 2) = false := by simpa using h
    by_cases hlt : G 2 < F 2
    · have HT : Hid (E.later F G = true) := Lib.hid (by rw [HL.out]; simpa using hlt)
      go_enter Try.func20, Try.ntmps20
      go_wp2
      go_ret
      exact ⟨ret_bool HT.out.symm, b_alloc2 _ _ _⟩
    · have HT : Hid (E.later F G = false) := Lib.hid (by rw [HL.out]; simpa using hlt)
      go_enter Try.func20, Try.ntmps20
      go_wp2
      go_ret
      exact ⟨ret_bool HT.out.symm, b_alloc2 _ _ _⟩
end Go.Proofs.Ytgjepgnbkfbodaa
