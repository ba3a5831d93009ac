/- Arrays of eight numbers held against each other. -/
import Derived.Test.YtlckappnpdkihaaDotEqD
import Derived.Test.YtlckappnpdkihaaDotMemS
namespace Go.Proofs.Ytlckappnpdkihaa
set_option linter.unusedVariables false
set_option linter.unusedSimpArgs false
open Go.ChangeShapes Go.WideShapes Go.ChangeAt Go.RowKit

theorem Try.guardArr : Try.prog.eqGuardType Try.prog.depth 82 = false := by kernel_rfl
theorem eqIn_arr (U : Nat → Int) (W : World) : (Op.equalIn 10000 82 (av U) (av U)).run Try.prog W = .ok true W := by
  obtain ⟨i0, hi, hz0, hz1, hz2⟩ := info_parts Try.rowI64
  have hc : Try.prog.cellsOf 3 = 1 := by kernel_rfl
  have hr : List.range 8 = [0, 1, 2, 3, 4, 5, 6, 7] := rfl
  rw [run_equalIn_array W 9999 _ _ Try.underlying82 hi, hc, hr]
  simp [Op.eqItems, go_sem, part]
theorem eql_arr (U : Nat → Int) (W : World) : (binOp .eql 82 (av U) (av U)).run Try.prog W = .ok (.bool true) W := by
  rw [run_eql_struct, eqIn_arr]; rfl
end Go.Proofs.Ytlckappnpdkihaa
