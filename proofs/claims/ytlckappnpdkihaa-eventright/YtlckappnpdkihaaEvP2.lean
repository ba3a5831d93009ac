/- Layer 7, the program's: RightPolicy. -/
import Derived.Test.YtlckappnpdkihaaEvP1
namespace Go.Proofs.Ytlckappnpdkihaa
set_option linter.unusedVariables false
set_option linter.unusedSimpArgs false
open Go.ChangeShapes Go.WideShapes Go.ChangeAt Go.RowKit

theorem rp_parts (F : Nat → Int) : E.rp F = (inB (F 6) (0) (F 7) && inB (F 7) (0) (1000) && inB (F 8) (1) (1073741824) && inB (F 9) (0) (100) && inB (F 10) (1) (1000) && inB (F 11) (1) (1000) && inB (F 12) (0) (1000)) := by
  rw [Bool.eq_iff_iff]
  simp [E.rp, inB]
  omega

set_option maxRecDepth 100000 in
set_option maxHeartbeats 4000000 in
theorem rightpol_any (F : Nat → Int) (w : World) : Calls Try.prog 13 #[pv F] w fun e w' => e = .returned (.bool (E.rp F)) ∧ Below w.heap.size w w' := by
  have HP := Lib.hid (rp_parts F)
  go_enter Try.func13, Try.ntmps13
  go_wp2_with fail
  refine (evwithin_any _ _ _ _).mono ?_
  rintro e w1 ⟨rfl, rfl⟩
  cases q0 : inB (F 6) (0) (F 7) with
  | false =>
    have HF : Hid (E.rp F = false) := Lib.hid (by rw [HP.out, q0]; simp)
    clear q0
    go_wp2
    go_ret
    exact ⟨ret_bool HF.out.symm, b_alloc _ _⟩
  | true =>
    go_wp2_with fail
    refine (evwithin_any _ _ _ _).mono ?_
    rintro e w1 ⟨rfl, rfl⟩
    cases q1 : inB (F 7) (0) (1000) with
    | false =>
      have HF : Hid (E.rp F = false) := Lib.hid (by rw [HP.out, q0, q1]; simp)
      clear q0 q1
      go_wp2
      go_ret
      exact ⟨ret_bool HF.out.symm, b_alloc _ _⟩
    | true =>
      go_wp2_with fail
      refine (evwithin_any _ _ _ _).mono ?_
      rintro e w1 ⟨rfl, rfl⟩
      cases q2 : inB (F 8) (1) (1073741824) with
      | false =>
        have HF : Hid (E.rp F = false) := Lib.hid (by rw [HP.out, q0, q1, q2]; simp)
        clear q0 q1 q2
        go_wp2
        go_ret
        exact ⟨ret_bool HF.out.symm, b_alloc _ _⟩
      | true =>
        go_wp2_with fail
        refine (evwithin_any _ _ _ _).mono ?_
        rintro e w1 ⟨rfl, rfl⟩
        cases q3 : inB (F 9) (0) (100) with
        | false =>
          have HF : Hid (E.rp F = false) := Lib.hid (by rw [HP.out, q0, q1, q2, q3]; simp)
          clear q0 q1 q2 q3
          go_wp2
          go_ret
          exact ⟨ret_bool HF.out.symm, b_alloc _ _⟩
        | true =>
          go_wp2_with fail
          refine (evwithin_any _ _ _ _).mono ?_
          rintro e w1 ⟨rfl, rfl⟩
          cases q4 : inB (F 10) (1) (1000) with
          | false =>
            have HF : Hid (E.rp F = false) := Lib.hid (by rw [HP.out, q0, q1, q2, q3, q4]; simp)
            clear q0 q1 q2 q3 q4
            go_wp2
            go_ret
            exact ⟨ret_bool HF.out.symm, b_alloc _ _⟩
          | true =>
            go_wp2_with fail
            refine (evwithin_any _ _ _ _).mono ?_
            rintro e w1 ⟨rfl, rfl⟩
            cases q5 : inB (F 11) (1) (1000) with
            | false =>
              have HF : Hid (E.rp F = false) := Lib.hid (by rw [HP.out, q0, q1, q2, q3, q4, q5]; simp)
              clear q0 q1 q2 q3 q4 q5
              go_wp2
              go_ret
              exact ⟨ret_bool HF.out.symm, b_alloc _ _⟩
            | true =>
              go_wp2_with fail
              refine (evwithin_any _ _ _ _).mono ?_
              rintro e w1 ⟨rfl, rfl⟩
              cases q6 : inB (F 12) (0) (1000) with
              | false =>
                have HF : Hid (E.rp F = false) := Lib.hid (by rw [HP.out, q0, q1, q2, q3, q4, q5, q6]; simp)
                clear q0 q1 q2 q3 q4 q5 q6
                go_wp2
                go_ret
                exact ⟨ret_bool HF.out.symm, b_alloc _ _⟩
              | true =>
                have HF : Hid (E.rp F = true) := Lib.hid (by rw [HP.out, q0, q1, q2, q3, q4, q5, q6]; rfl)
                clear q0 q1 q2 q3 q4 q5 q6
                go_wp2
                go_ret
                exact ⟨ret_bool HF.out.symm, b_alloc _ _⟩
end Go.Proofs.Ytlckappnpdkihaa
