/- Layer 1, the document's own: Clamp, CeilDiv. -/
import Derived.Test.YtdppabnhflaoeaaSatMath
import Derived.WalkKit
import Derived.ProofKit
import Derived.OpenShut
import Derived.Deep.QuietTactic
import Derived.BigQuiet
import Derived.Lib.Hide
namespace Go.Proofs.Ytdppabnhflaoeaa
set_option linter.unusedVariables false
set_option linter.unusedSimpArgs false
open Go.ChangeShapes Go.WideShapes Go.ChangeAt Go.RowKit

set_option maxHeartbeats 400000 in
theorem rclamp_any (n : Int) (w : World) :
    Calls Try.prog 29 #[.int .i64 n] w fun e w' => e = .returned (.int .i64 (S.clamp n)) ∧ w = w' := by
  by_cases h1 : n < -1099511627776
  · rw [S.clamp_lo (by omega)]
    go_enter Try.func29, Try.ntmps29
    go_wp2
    go_ret
    exact ⟨rfl, rfl⟩
  · by_cases h2 : 1099511627776 < n
    · rw [S.clamp_hi (by omega)]
      go_enter Try.func29, Try.ntmps29
      go_wp2
      go_ret
      exact ⟨rfl, rfl⟩
    · rw [S.clamp_id (by omega) (by omega)]
      go_enter Try.func29, Try.ntmps29
      go_wp2
      go_ret
      exact ⟨rfl, rfl⟩

set_option maxHeartbeats 400000 in
theorem rcdiv_no (a b : Int) (w : World) (h : b ≤ 0) :
    Calls Try.prog 30 #[.int .i64 a, .int .i64 b] w fun e w' => e = .returned (.tuple #[.int .i64 0, .int .i64 2]) ∧ w = w' := by
  have hb := S.clamp_nonpos h
  go_enter Try.func30, Try.ntmps30
  go_wp2_with fail
  refine (rclamp_any _ _).mono ?_
  rintro e w' ⟨rfl, rfl⟩
  go_wp2_with fail
  refine (rclamp_any _ _).mono ?_
  rintro e w' ⟨rfl, rfl⟩
  go_wp2
  go_ret2
  exact ⟨rfl, rfl⟩

theorem ret_tup {k l : IntKind} {a b c : Int} (h : a = b) : Ending.returned (.tuple #[.int k a, .int l c]) = .returned (.tuple #[.int k b, .int l c]) := by rw [h]

set_option maxHeartbeats 400000 in
theorem rcdiv_yes (a b : Int) (w : World) (h : 0 < b) :
    Calls Try.prog 30 #[.int .i64 a, .int .i64 b] w fun e w' => e = .returned (.tuple #[.int .i64 (S.cdiv a b), .int .i64 0]) ∧ w = w' := by
  have ha := S.clamp_bd a
  have hb := S.clamp_bd b
  have hp := S.clamp_pos h
  unfold S.cdiv
  generalize hA : S.clamp a = A at *
  generalize hB : S.clamp b = B at *
  have HA := Lib.hid hA
  have HB := Lib.hid hB
  clear hA hB
  have ht := S.tdiv_mul_bd hp ha.1 ha.2 hb.2
  have hu := S.up_bd hp ha.1 ha.2
  by_cases hr : 0 < A.tmod B
  · have e := S.up_tdiv_pos hp hr
    have hlt := S.tdiv_lt_iff.2 hr
    have e1 : -1099511627776 ≤ A.tdiv B + 1 := by omega
    have e2 : A.tdiv B + 1 ≤ 1099511627776 := by omega
    have E := Lib.hid e; clear e hu hr
    go_enter Try.func30, Try.ntmps30
    go_wp2_with fail
    refine (rclamp_any _ _).mono ?_
    rintro e w' ⟨rfl, rfl⟩
    rw [HA.out]
    go_wp2_with fail
    refine (rclamp_any _ _).mono ?_
    rintro e w' ⟨rfl, rfl⟩
    rw [HB.out]
    go_wp2
    go_ret2
    exact ⟨ret_tup E.out, rfl⟩
  · have hlt : ¬ A.tdiv B * B < A := fun k => hr (S.tdiv_lt_iff.1 k)
    have E := Lib.hid (S.up_tdiv_neg hp hr); clear hu hr
    go_enter Try.func30, Try.ntmps30
    go_wp2_with fail
    refine (rclamp_any _ _).mono ?_
    rintro e w' ⟨rfl, rfl⟩
    rw [HA.out]
    go_wp2_with fail
    refine (rclamp_any _ _).mono ?_
    rintro e w' ⟨rfl, rfl⟩
    rw [HB.out]
    go_wp2
    go_ret2
    exact ⟨ret_tup E.out, rfl⟩
end Go.Proofs.Ytdppabnhflaoeaa
