/- Layer 7, the program's: behind, within, RightPolicy, Later. -/
import Derived.Test.YtlckappnpdkihaaEvMem
import Derived.Test.YtlckappnpdkihaaSat1
namespace Go.Proofs.Ytlckappnpdkihaa
set_option linter.unusedVariables false
set_option linter.unusedSimpArgs false
open Go.ChangeShapes Go.WideShapes Go.ChangeAt Go.RowKit

def inB (n lo hi : Int) : Bool := decide (lo ≤ n ∧ n ≤ hi)

set_option maxHeartbeats 400000 in
theorem evwithin_any (n lo hi : Int) (w : World) :
    Calls Try.prog 33 #[.int .i64 n, .int .i64 lo, .int .i64 hi] w fun e w' => e = .returned (.bool (inB n lo hi)) ∧ w' = w := by
  have HB : Hid ((S.within n lo hi == n) = inB n lo hi) := Lib.hid (by
    rw [Bool.eq_iff_iff]
    unfold S.within inB
    simp
    split
    · constructor <;> intro h <;> omega
    · split
      · constructor <;> intro h <;> omega
      · constructor <;> intro h <;> omega)
  go_enter Try.func33, Try.ntmps33
  go_wp2_with fail
  refine (within_any n lo hi _).mono ?_
  rintro e w1 ⟨rfl, rfl⟩
  go_wp2
  go_ret
  exact ⟨ret_bool HB.out, rfl⟩

set_option maxHeartbeats 400000 in
theorem behind_any (a b c d : Int) (w : World) :
    Calls Try.prog 37 #[.agg #[.int .i64 a, .int .i64 b], .agg #[.int .i64 c, .int .i64 d]] w fun e w' => e = .returned (.bool (D.bef (c, d) (a, b))) ∧ Below w.heap.size w w' := by
  go_enter Try.func37, Try.ntmps37
  go_wp2
  all_goals
    go_ret
    refine ⟨ret_bool ?_, b_alloc2 _ _ _⟩
    rw [Bool.eq_iff_iff]
    simp [D.bef]
    try omega

set_option maxRecDepth 100000 in
set_option maxHeartbeats 2000000 in
theorem later_any (F G : Nat → Int) (A : Option Addr) (n c : Nat) (B : Option Addr) (m d : Nat) (w : World) : Calls Try.prog 15 #[ev F A n c, ev G B m d] w fun e w' => e = .returned (.bool (E.later F G)) ∧ Below w.heap.size w w' := by
  by_cases h : F 2 = G 2
  · have HL : Hid (E.later F G = D.bef (G 0, G 1) (F 0, F 1)) := Lib.hid (by unfold E.later; rw [if_pos h])
    go_enter Try.func15, Try.ntmps15
    go_wp2_with fail
    refine (behind_any _ _ _ _ _).mono ?_
    rintro e w1 ⟨rfl, hb⟩
    go_wp2
    go_ret
    exact ⟨ret_bool HL.out.symm, below_new (b_alloc2 _ _ _) hb⟩
  · have HL : Hid (E.later F G = decide (G 2 < F 2)) := Lib.hid (by unfold E.later; rw [if_neg h])
    have h' : (F 2 == G 2) = false := by simpa using h
    by_cases hlt : G 2 < F 2
    · have HT : Hid (E.later F G = true) := Lib.hid (by rw [HL.out]; simpa using hlt)
      go_enter Try.func15, Try.ntmps15
      go_wp2
      go_ret
      exact ⟨ret_bool HT.out.symm, b_alloc2 _ _ _⟩
    · have HT : Hid (E.later F G = false) := Lib.hid (by rw [HL.out]; simpa using hlt)
      go_enter Try.func15, Try.ntmps15
      go_wp2
      go_ret
      exact ⟨ret_bool HT.out.symm, b_alloc2 _ _ _⟩
end Go.Proofs.Ytlckappnpdkihaa
