/- Layer 7, the program's: within, RightPolicy. -/
import Derived.Below
import Derived.Test.YtdppabnhflaoeaaMem
import Derived.Test.YtdppabnhflaoeaaPolV
import Derived.Test.YtdppabnhflaoeaaSatMath
import Derived.Test.YtdppabnhflaoeaaSatW

section
namespace Go.Proofs.Ytdppabnhflaoeaa
set_option linter.unusedVariables false
set_option linter.unusedSimpArgs false
open Go.ChangeShapes Go.WideShapes Go.ChangeAt Go.RowKit

def inB (n lo hi : Int) : Bool := decide (lo ≤ n ∧ n ≤ hi)

set_option maxHeartbeats 400000 in
theorem evwithin_any (n lo hi : Int) (w : World) :
    Calls Try.prog 24 #[.int .i64 n, .int .i64 lo, .int .i64 hi] w fun e w' => e = .returned (.bool (inB n lo hi)) ∧ w' = w := by
  have HB : Hid ((S.within n lo hi == n) = inB n lo hi) := Lib.hid (by
    rw [Bool.eq_iff_iff]
    unfold S.within inB
    simp
    split
    · constructor <;> intro h <;> omega
    · split
      · constructor <;> intro h <;> omega
      · constructor <;> intro h <;> omega)
  go_enter Try.func24, Try.ntmps24
  go_wp2_with fail
  refine (within_any n lo hi _).mono ?_
  rintro e w1 ⟨rfl, rfl⟩
  go_wp2
  go_ret
  exact ⟨ret_bool HB.out, rfl⟩

end Go.Proofs.Ytdppabnhflaoeaa
end

section
namespace Go.Proofs.Ytdppabnhflaoeaa
set_option linter.unusedVariables false
set_option linter.unusedSimpArgs false
open Go.ChangeShapes Go.WideShapes Go.ChangeAt Go.RowKit

theorem rp_parts (F : Nat → Int) : E.rp F = (inB (F 6) (0) (F 7) && inB (F 7) (0) (1000) && inB (F 8) (1) (1073741824) && inB (F 9) (0) (100) && inB (F 10) (1) (1000) && inB (F 11) (1) (1000) && inB (F 12) (0) (1000)) := by
  rw [Bool.eq_iff_iff]
  simp [E.rp, inB]
  omega

set_option maxRecDepth 100000 in
set_option maxHeartbeats 4000000 in
theorem rightpol_any (F : Nat → Int) (w : World) : Calls Try.prog 15 #[pv F] w fun e w' => e = .returned (.bool (E.rp F)) ∧ Below w.heap.size w w' := by
  have HP := Lib.hid (rp_parts F)
  go_enter Try.func15, Try.ntmps15
  go_wp2_with fail
  refine (evwithin_any _ _ _ _).mono ?_
  rintro e w1 ⟨rfl, rfl⟩
  cases q0 : inB (F 6) (0) (F 7) with
  | false =>
    have HF : Hid (E.rp F = false) := Lib.hid (by rw [HP.out, q0]; simp)
    clear q0
    go_wp2
    go_ret
    exact ⟨ret_bool HF.out.symm, b_alloc _ _⟩
  | true =>
    go_wp2_with fail
    refine (evwithin_any _ _ _ _).mono ?_
    rintro e w1 ⟨rfl, rfl⟩
    cases q1 : inB (F 7) (0) (1000) with
    | false =>
      have HF : Hid (E.rp F = false) := Lib.hid (by rw [HP.out, q0, q1]; simp)
      clear q0 q1
      go_wp2
      go_ret
      exact ⟨ret_bool HF.out.symm, b_alloc _ _⟩
    | true =>
      go_wp2_with fail
      refine (evwithin_any _ _ _ _).mono ?_
      rintro e w1 ⟨rfl, rfl⟩
      cases q2 : inB (F 8) (1) (1073741824) with
      | false =>
        have HF : Hid (E.rp F = false) := Lib.hid (by rw [HP.out, q0, q1, q2]; simp)
        clear q0 q1 q2
        go_wp2
        go_ret
        exact ⟨ret_bool HF.out.symm, b_alloc _ _⟩
      | true =>
        go_wp2_with fail
        refine (evwithin_any _ _ _ _).mono ?_
        rintro e w1 ⟨rfl, rfl⟩
        cases q3 : inB (F 9) (0) (100) with
        | false =>
          have HF : Hid (E.rp F = false) := Lib.hid (by rw [HP.out, q0, q1, q2, q3]; simp)
          clear q0 q1 q2 q3
          go_wp2
          go_ret
          exact ⟨ret_bool HF.out.symm, b_alloc _ _⟩
        | true =>
          go_wp2_with fail
          refine (evwithin_any _ _ _ _).mono ?_
          rintro e w1 ⟨rfl, rfl⟩
          cases q4 : inB (F 10) (1) (1000) with
          | false =>
            have HF : Hid (E.rp F = false) := Lib.hid (by rw [HP.out, q0, q1, q2, q3, q4]; simp)
            clear q0 q1 q2 q3 q4
            go_wp2
            go_ret
            exact ⟨ret_bool HF.out.symm, b_alloc _ _⟩
          | true =>
            go_wp2_with fail
            refine (evwithin_any _ _ _ _).mono ?_
            rintro e w1 ⟨rfl, rfl⟩
            cases q5 : inB (F 11) (1) (1000) with
            | false =>
              have HF : Hid (E.rp F = false) := Lib.hid (by rw [HP.out, q0, q1, q2, q3, q4, q5]; simp)
              clear q0 q1 q2 q3 q4 q5
              go_wp2
              go_ret
              exact ⟨ret_bool HF.out.symm, b_alloc _ _⟩
            | true =>
              go_wp2_with fail
              refine (evwithin_any _ _ _ _).mono ?_
              rintro e w1 ⟨rfl, rfl⟩
              cases q6 : inB (F 12) (0) (1000) with
              | false =>
                have HF : Hid (E.rp F = false) := Lib.hid (by rw [HP.out, q0, q1, q2, q3, q4, q5, q6]; simp)
                clear q0 q1 q2 q3 q4 q5 q6
                go_wp2
                go_ret
                exact ⟨ret_bool HF.out.symm, b_alloc _ _⟩
              | true =>
                have HF : Hid (E.rp F = true) := Lib.hid (by rw [HP.out, q0, q1, q2, q3, q4, q5, q6]; rfl)
                clear q0 q1 q2 q3 q4 q5 q6
                go_wp2
                go_ret
                exact ⟨ret_bool HF.out.symm, b_alloc _ _⟩
end Go.Proofs.Ytdppabnhflaoeaa
end

