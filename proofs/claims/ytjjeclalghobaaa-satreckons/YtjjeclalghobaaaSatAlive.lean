/- The document's examples of layer 1 (sat) hold, and what the document's own answers (murmurref01) return. -/
import Derived.Test.YtjjeclalghobaaaSat
namespace Go.Proofs.Ytjjeclalghobaaa
open Go.ChangeShapes Go.WideShapes Go.ChangeAt Go.RowKit

theorem ex1 : S.cdiv 7 2 = 4 := by decide
theorem ex2 : S.cdiv (-7) 2 = -3 := by decide
theorem ex3 : S.add 1099511627776 1 = 1099511627776 := by decide
theorem ex4 : S.mul 1073741824 (-1073741824) = -1099511627776 := by decide

set_option maxHeartbeats 400000 in
theorem alive01 (w : World) :
    Calls Try.prog 8 #[] w fun e w' => e = .returned (.bool true) ∧ Grown w w' := by
  go_enter Try.func8, Try.ntmps8
  go_wp2_with fail
  refine (cdiv_yes _ _ _ (by omega)).mono ?_
  rintro e w1 ⟨rfl, hg1⟩
  rw [ex1]
  go_wp2_with fail
  refine (cdiv_yes _ _ _ (by omega)).mono ?_
  rintro e w2 ⟨rfl, hg2⟩
  rw [ex2]
  go_wp2_with fail
  refine (add_any _ _ _).mono ?_
  rintro e w3 ⟨rfl, hg3⟩
  rw [ex3]
  go_wp2_with fail
  refine (mul_any _ _ _).mono ?_
  rintro e w4 ⟨rfl, hg4⟩
  rw [ex4]
  go_wp2
  go_ret
  exact ⟨rfl, Gr.trans (Gr.trans (Gr.trans hg1 hg2) hg3) hg4⟩
end Go.Proofs.Ytjjeclalghobaaa
