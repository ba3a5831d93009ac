/- Layer 6, what is asked of one dot or two: contracts of the program's and the document's. -/
import Derived.Test.YtegppdobpihbnaaDotMem
import Derived.BigQuiet
namespace Go.Proofs.Ytegppdobpihbnaa
set_option linter.unusedVariables false
set_option linter.unusedSimpArgs false
open Go.ChangeShapes Go.WideShapes Go.ChangeAt Go.RowKit

theorem ret_bool {a b : Bool} (h : a = b) : Ending.returned (.bool a) = .returned (.bool b) := by rw [h]
theorem b_alloc (w : World) (o : Obj) : Below w.heap.size w (w.alloc o) := (Below.refl _ _).alloc (Nat.le_refl _) o
theorem b_alloc2 (w : World) (o o' : Obj) : Below w.heap.size w ((w.alloc o).alloc o') := (b_alloc w o).alloc (b_alloc w o).size o'

set_option maxHeartbeats 400000 in
theorem maybe_any (a b : Int) (w : World) :
    Calls Try.prog 34 #[.agg #[.int .i64 a, .int .i64 b]] w fun e w' => e = .returned (.bool (D.may (a, b))) ∧ Below w.heap.size w w' := by
  go_enter Try.func34, Try.ntmps34
  go_wp2
  all_goals
    go_ret
    refine ⟨ret_bool ?_, b_alloc _ _⟩
    rw [Bool.eq_iff_iff]
    simp [D.may]
    try omega

set_option maxHeartbeats 400000 in
theorem rmay_any (a b : Int) (w : World) :
    Calls Try.prog 38 #[.agg #[.int .i64 a, .int .i64 b]] w fun e w' => e = .returned (.bool (D.may (a, b))) ∧ Below w.heap.size w w' := by
  go_enter Try.func38, Try.ntmps38
  go_wp2
  all_goals
    go_ret
    refine ⟨ret_bool ?_, b_alloc _ _⟩
    rw [Bool.eq_iff_iff]
    simp [D.may]
    try omega

set_option maxHeartbeats 400000 in
theorem ahead_any (a b c d : Int) (w : World) :
    Calls Try.prog 40 #[.agg #[.int .i64 a, .int .i64 b], .agg #[.int .i64 c, .int .i64 d]] w fun e w' => e = .returned (.bool (D.bef (a, b) (c, d))) ∧ Below w.heap.size w w' := by
  go_enter Try.func40, Try.ntmps40
  go_wp2
  all_goals
    go_ret
    refine ⟨ret_bool ?_, b_alloc2 _ _ _⟩
    rw [Bool.eq_iff_iff]
    simp [D.bef]
    try omega

set_option maxHeartbeats 400000 in
theorem rbefore_any (a b c d : Int) (w : World) :
    Calls Try.prog 41 #[.agg #[.int .i64 a, .int .i64 b], .agg #[.int .i64 c, .int .i64 d]] w fun e w' => e = .returned (.bool (D.bef (a, b) (c, d))) ∧ Below w.heap.size w w' := by
  go_enter Try.func41, Try.ntmps41
  go_wp2
  all_goals
    go_ret
    refine ⟨ret_bool ?_, b_alloc2 _ _ _⟩
    rw [Bool.eq_iff_iff]
    simp [D.bef]
    try omega

end Go.Proofs.Ytegppdobpihbnaa
