/- Layer 1, what later layers reach: quotients rounded up (the program's, the document's own), within bounds. -/
import Derived.Test.YtgjepgnbkfbodaaEvP2
import Derived.WalkKit
import Derived.ProofKit
import Derived.OpenShut
import Derived.Deep.QuietTactic
import Derived.BigQuiet
import Derived.Lib.Hide
namespace Go.Proofs.Ytgjepgnbkfbodaa
set_option linter.unusedVariables false
set_option linter.unusedSimpArgs false
open Go.ChangeShapes Go.WideShapes Go.ChangeAt Go.RowKit

set_option maxHeartbeats 400000 in
theorem clamp_any (n : Int) (w : World) :
    Calls Try.prog 63 #[.int .i64 n] w fun e w' => e = .returned (.int .i64 (S.clamp n)) ∧ w = w' := by
  unfold S.clamp
  go_enter Try.func63, Try.ntmps63
  go_wp2_with fail
  refine (within_any _ _ _ _).mono ?_
  rintro e w' ⟨rfl, rfl⟩
  go_wp2
  go_ret
  exact ⟨rfl, rfl⟩

set_option maxHeartbeats 400000 in
theorem ceiling_any (a b : Int) (w : World) (h0 : -1099511627776 ≤ a) (h1 : a ≤ 1099511627776) (h2 : 0 < b) (h3 : b ≤ 1099511627776) :
    Calls Try.prog 48 #[.agg #[.int .i64 a, .int .i64 b]] w fun e w' => e = .returned (.int .i64 (S.up a b)) ∧ Below w.heap.size w w' := by
  have hu := S.up_bd h2 h0 h1
  by_cases hr : 0 < a.tmod b
  · have e := S.up_tdiv_pos h2 hr
    have e1 : -1099511627776 ≤ a.tdiv b + 1 := by omega
    have e2 : a.tdiv b + 1 ≤ 1099511627776 := by omega
    have E := Lib.hid e; clear e hu
    go_enter Try.func48, Try.ntmps48
    go_wp2
    go_ret
    exact ⟨ret_int E.out, b_alloc _ _⟩
  · have E := Lib.hid (S.up_tdiv_neg h2 hr); clear hu
    go_enter Try.func48, Try.ntmps48
    go_wp2
    go_ret
    exact ⟨ret_int E.out, b_alloc _ _⟩

/-- What 'reckon' is handed: a function that answers a number which, clamped, is c. -/
def HowPost (c : Int) (w : World) (e : Ending) (w' : World) : Prop := ∃ p : Int, S.clamp p = c ∧ e = .returned (.int .i64 p) ∧ Below w.heap.size w w'

set_option maxHeartbeats 400000 in
theorem reckon_any (f : Nat) (a b c : Int) (w : World)
  (h4 : f = 48)
  (hf : Hid (∀ w, Calls Try.prog f #[.agg #[.int .i64 (S.clamp a), .int .i64 (S.clamp b)]] w (HowPost c w))) :
  Calls Try.prog 47 #[.int .i64 a, .int .i64 b, .func (.func f) #[] #[]] w fun e w' => e = .returned (.int .i64 c) ∧ Below w.heap.size w w' := by
  subst h4
  go_enter Try.func47, Try.ntmps47
  go_wp2_with fail
  refine (clamp_any _ _).mono ?_
  rintro e w' ⟨rfl, rfl⟩
  go_wp2_with fail
  refine (clamp_any _ _).mono ?_
  rintro e w' ⟨rfl, rfl⟩
  go_wp2_with fail
  refine (hf.out _).mono ?_
  rintro e w' ⟨p, hp, rfl, hg⟩
  have HP := Lib.hid hp; clear hp
  go_wp2_with fail
  refine (clamp_any _ _).mono ?_
  rintro e w' ⟨rfl, rfl⟩
  go_wp2
  go_ret
  exact ⟨ret_int HP.out, hg⟩

theorem cdiv_how (a b : Int) (hb : 0 < b) : Hid (∀ w, Calls Try.prog 48 #[.agg #[.int .i64 (S.clamp a), .int .i64 (S.clamp b)]] w (HowPost (S.cdiv a b) w)) := fun w =>
  (ceiling_any _ _ w (S.clamp_bd a).1 (S.clamp_bd a).2 (S.clamp_pos hb) (S.clamp_bd b).2).mono fun _ _ ⟨he, hg⟩ => ⟨_, S.clamp_id (S.up_bd (S.clamp_pos hb) (S.clamp_bd a).1 (S.clamp_bd a).2).1 (S.up_bd (S.clamp_pos hb) (S.clamp_bd a).1 (S.clamp_bd a).2).2, he, hg⟩

set_option maxHeartbeats 400000 in
theorem cdiv_no (a b : Int) (w : World) (hb : b ≤ 0) :
    Calls Try.prog 33 #[.int .i64 a, .int .i64 b] w fun e w' => e = .returned (.tuple #[.int .i64 0, .int .i64 2]) ∧ w = w' := by
  go_enter Try.func33, Try.ntmps33
  go_wp2
  go_ret2
  exact ⟨rfl, rfl⟩

set_option maxHeartbeats 400000 in
theorem cdiv_yes (a b : Int) (w : World) (hb : 0 < b) :
    Calls Try.prog 33 #[.int .i64 a, .int .i64 b] w fun e w' => e = .returned (.tuple #[.int .i64 (S.cdiv a b), .int .i64 0]) ∧ Below w.heap.size w w' := by
  go_enter Try.func33, Try.ntmps33
  go_wp2_with fail
  refine (reckon_any _ _ _ _ _ rfl (cdiv_how a b hb)).mono ?_
  rintro e w' ⟨rfl, hg⟩
  go_wp2
  go_ret2
  exact ⟨rfl, hg⟩

set_option maxHeartbeats 400000 in
theorem rwithin_any (n lo hi : Int) (w : World) :
    Calls Try.prog 37 #[.int .i64 n, .int .i64 lo, .int .i64 hi] w fun e w' => e = .returned (.int .i64 (S.within n lo hi)) ∧ w = w' := by
  unfold S.within
  by_cases h1 : hi < n
  · rw [if_pos h1]
    go_enter Try.func37, Try.ntmps37
    go_wp2
    go_ret
    exact ⟨rfl, rfl⟩
  · rw [if_neg h1]
    by_cases h2 : n < lo
    · rw [if_pos h2]
      go_enter Try.func37, Try.ntmps37
      go_wp2
      go_ret
      exact ⟨rfl, rfl⟩
    · rw [if_neg h2]
      go_enter Try.func37, Try.ntmps37
      go_wp2
      go_ret
      exact ⟨rfl, rfl⟩

set_option maxHeartbeats 400000 in
theorem rclamp_any (n : Int) (w : World) :
    Calls Try.prog 49 #[.int .i64 n] w fun e w' => e = .returned (.int .i64 (S.clamp n)) ∧ w = w' := by
  by_cases h1 : n < -1099511627776
  · rw [S.clamp_lo (by omega)]
    go_enter Try.func49, Try.ntmps49
    go_wp2
    go_ret
    exact ⟨rfl, rfl⟩
  · by_cases h2 : 1099511627776 < n
    · rw [S.clamp_hi (by omega)]
      go_enter Try.func49, Try.ntmps49
      go_wp2
      go_ret
      exact ⟨rfl, rfl⟩
    · rw [S.clamp_id (by omega) (by omega)]
      go_enter Try.func49, Try.ntmps49
      go_wp2
      go_ret
      exact ⟨rfl, rfl⟩

set_option maxHeartbeats 400000 in
theorem rcdiv_no (a b : Int) (w : World) (h : b ≤ 0) :
    Calls Try.prog 36 #[.int .i64 a, .int .i64 b] w fun e w' => e = .returned (.tuple #[.int .i64 0, .int .i64 2]) ∧ w = w' := by
  have hb := S.clamp_nonpos h
  go_enter Try.func36, Try.ntmps36
  go_wp2_with fail
  refine (rclamp_any _ _).mono ?_
  rintro e w' ⟨rfl, rfl⟩
  go_wp2_with fail
  refine (rclamp_any _ _).mono ?_
  rintro e w' ⟨rfl, rfl⟩
  go_wp2
  go_ret2
  exact ⟨rfl, rfl⟩

theorem ret_tup {k l : IntKind} {a b c : Int} (h : a = b) : Ending.returned (.tuple #[.int k a, .int l c]) = .returned (.tuple #[.int k b, .int l c]) := by rw [h]

set_option maxHeartbeats 400000 in
theorem rcdiv_yes (a b : Int) (w : World) (h : 0 < b) :
    Calls Try.prog 36 #[.int .i64 a, .int .i64 b] w fun e w' => e = .returned (.tuple #[.int .i64 (S.cdiv a b), .int .i64 0]) ∧ w = w' := by
  have ha := S.clamp_bd a
  have hb := S.clamp_bd b
  have hp := S.clamp_pos h
  unfold S.cdiv
  generalize hA : S.clamp a = A at *
  generalize hB : S.clamp b = B at *
  have HA := Lib.hid hA
  have HB := Lib.hid hB
  clear hA hB
  have ht := S.tdiv_mul_bd hp ha.1 ha.2 hb.2
  have hu := S.up_bd hp ha.1 ha.2
  by_cases hr : 0 < A.tmod B
  · have e := S.up_tdiv_pos hp hr
    have hlt := S.tdiv_lt_iff.2 hr
    have e1 : -1099511627776 ≤ A.tdiv B + 1 := by omega
    have e2 : A.tdiv B + 1 ≤ 1099511627776 := by omega
    have E := Lib.hid e; clear e hu hr
    go_enter Try.func36, Try.ntmps36
    go_wp2_with fail
    refine (rclamp_any _ _).mono ?_
    rintro e w' ⟨rfl, rfl⟩
    rw [HA.out]
    go_wp2_with fail
    refine (rclamp_any _ _).mono ?_
    rintro e w' ⟨rfl, rfl⟩
    rw [HB.out]
    go_wp2
    go_ret2
    exact ⟨ret_tup E.out, rfl⟩
  · have hlt : ¬ A.tdiv B * B < A := fun k => hr (S.tdiv_lt_iff.1 k)
    have E := Lib.hid (S.up_tdiv_neg hp hr); clear hu hr
    go_enter Try.func36, Try.ntmps36
    go_wp2_with fail
    refine (rclamp_any _ _).mono ?_
    rintro e w' ⟨rfl, rfl⟩
    rw [HA.out]
    go_wp2_with fail
    refine (rclamp_any _ _).mono ?_
    rintro e w' ⟨rfl, rfl⟩
    rw [HB.out]
    go_wp2
    go_ret2
    exact ⟨ret_tup E.out, rfl⟩
end Go.Proofs.Ytgjepgnbkfbodaa
