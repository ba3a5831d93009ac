/- Layer 8: the document's example, as plain mathematics; Add of none. -/
import Derived.Test.YtedcgfcmhaeldaaBkP4
namespace Go.Proofs.Ytedcgfcmhaeldaa
set_option linter.unusedVariables false
set_option linter.unusedSimpArgs false
open Go.ChangeShapes Go.WideShapes Go.ChangeAt Go.RowKit

def FX : Nat → Int := fun j => [0, 1, 1, 2, 0, 0, 0, 1, 1, 0, 1, 1, 0].getD j 0
def FY : Nat → Int := fun j => [1, 1, 2, 2, 0, 0, 0, 1, 1, 0, 1, 1, 0].getD j 0
def bk1 : B.Bk := B.add B.new (FX, [])
def bk2 : B.Bk := B.add bk1 (FY, [(0, 1)])
theorem al_e1 : B.addE B.new (FX, []) = 0 := by kernel_rfl
theorem al_e2 : B.addE bk1 (FY, [(0, 1)]) = 0 := by kernel_rfl
theorem al_hold : bk2.hold = [(FY, [(0, 1)])] := by kernel_rfl
theorem al_time : bk2.time = 2 := by kernel_rfl
theorem al_e3 : B.addE bk2 (FX, []) = 9 := by kernel_rfl
theorem al_b3 : B.add bk2 (FX, []) = bk2 := B.add_no (by rw [al_e3]; decide)
theorem al_saw : (D.lst bk2.saw).length = 2 := by kernel_rfl
theorem al_stl : (B.stL bk2 0).length = 2 := by kernel_rfl
theorem al_stE : B.stE bk2 0 = 0 := by unfold B.stE; rw [al_stl]; decide
theorem al_stA : (B.stA bk2 0).length = 2 := by unfold B.stA; rw [al_stE, if_pos rfl, al_stl]
theorem al_cnt : D.cnt (D.cU bk2.saw) (D.cM bk2.saw) = 2 := by
  rw [D.cnt_eq, D.lst_congr (T := bk2.saw) fun d hd => by rw [D.cl_has, hd]; rfl, al_saw]
  rfl
set_option maxRecDepth 100000 in
set_option maxHeartbeats 2000000 in
theorem badd_nil (F : Nat → Int) (A : Option Addr) (n c : Nat) (w : World) : Calls Try.prog 13 #[.pointer none, ev F A n c] w fun e w' => e = .returned (.int .i64 1) ∧ Below w.heap.size w w' := by
  go_enter Try.func13, Try.ntmps13
  go_wp2
  go_ret
  exact ⟨rfl, b_alloc _ _⟩
end Go.Proofs.Ytedcgfcmhaeldaa
