/- Layer 6: sets as values. -/
import Derived.Test.YtlckappnpdkihaaDotMem
namespace Go.Proofs.Ytlckappnpdkihaa
set_option linter.unusedVariables false
set_option linter.unusedSimpArgs false
open Go.ChangeShapes Go.WideShapes Go.ChangeAt Go.RowKit

/-! ### sets as values -/
abbrev sv (U : Nat → Int) (A : Option Addr) (n c : Nat) : Value := .agg #[.int .i64 (U 0), .int .i64 (U 1), .int .i64 (U 2), .int .i64 (U 3), .int .i64 (U 4), .int .i64 (U 5), .int .i64 (U 6), .int .i64 (U 7), .slice A n c]
abbrev scs (U : Nat → Int) (A : Option Addr) (n c : Nat) : Array Value := #[.int .i64 (U 0), .int .i64 (U 1), .int .i64 (U 2), .int .i64 (U 3), .int .i64 (U 4), .int .i64 (U 5), .int .i64 (U 6), .int .i64 (U 7), .slice A n c]
abbrev av (U : Nat → Int) : Value := .agg #[.int .i64 (U 0), .int .i64 (U 1), .int .i64 (U 2), .int .i64 (U 3), .int .i64 (U 4), .int .i64 (U 5), .int .i64 (U 6), .int .i64 (U 7)]
theorem scs_at (U : Nat → Int) (A : Option Addr) (n c : Nat) {k : Nat} (hk : k < 8) : (scs U A n c)[k]? = some (.int .i64 (U k)) := by
  rcases k with _ | _ | _ | _ | _ | _ | _ | _ | k
  all_goals first | rfl | omega
/-- The array's cell at k. -/
theorem av_at (U : Nat → Int) {k : Nat} (hk : k < 8) (W : World) : (Instr.index 82 (av U) (.int .i64 (k : Int))).run Try.prog W = .ok (.int .i64 (U k)) W := by
  rcases k with _ | _ | _ | _ | _ | _ | _ | _ | k
  all_goals first | omega | kernel_rfl
/-- One number turned. -/
def upd (U : Nat → Int) (k : Nat) (x : Int) : Nat → Int := fun j => if j = k then x else U j
theorem upd_same (U : Nat → Int) (k : Nat) (x : Int) : upd U k x k = x := by simp [upd]
theorem upd_other (U : Nat → Int) {k j : Nat} (x : Int) (h : j ≠ k) : upd U k x j = U j := by simp [upd, h]
theorem scs_set (U : Nat → Int) (A : Option Addr) (n c : Nat) {k : Nat} (hk : k < 8) (x : Int) : (scs U A n c).setIfInBounds k (.int .i64 x) = scs (upd U k x) A n c := by
  rcases k with _ | _ | _ | _ | _ | _ | _ | _ | k
  all_goals first | omega | simp [upd]
theorem scs_more (U : Nat → Int) (A A' : Option Addr) (n n' c c' : Nat) : (scs U A n c).setIfInBounds 8 (.slice A' n' c') = scs U A' n' c' := by simp

/-- A call answers a set: these numbers, these dots in a row of its own. -/
def SetPost (U : Nat → Int) (M : List D.Dot) (w : World) (e : Ending) (w' : World) : Prop :=
  ∃ A c, e = .returned (sv U A M.length c) ∧ DRow w' w.heap.size (.slice A M.length c) M ∧ Below w.heap.size w w'
end Go.Proofs.Ytlckappnpdkihaa
