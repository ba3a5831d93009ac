/- Layer 1, what later layers reach: the program's Add. -/
import Derived.Test.YtodlifbhpgphcaaSatDiv
namespace Go.Proofs.Ytodlifbhpgphcaa
set_option linter.unusedVariables false
set_option linter.unusedSimpArgs false
open Go.ChangeShapes Go.WideShapes Go.ChangeAt Go.RowKit

set_option maxHeartbeats 400000 in
theorem sum_any (a b : Int) (w : World) (h0 : -1099511627776 ≤ a) (h1 : a ≤ 1099511627776) (h2 : -1099511627776 ≤ b) (h3 : b ≤ 1099511627776) :
    Calls Try.prog 34 #[.agg #[.int .i64 a, .int .i64 b]] w fun e w' => e = .returned (.int .i64 (a + b)) ∧ Below w.heap.size w w' := by
  go_enter Try.func34, Try.ntmps34
  go_wp2
  go_ret
  exact ⟨rfl, b_alloc _ _⟩
theorem add_how (a b : Int) : Hid (∀ w, Calls Try.prog 34 #[.agg #[.int .i64 (S.clamp a), .int .i64 (S.clamp b)]] w (HowPost (S.add a b) w)) := fun w =>
  (sum_any _ _ w (S.clamp_bd a).1 (S.clamp_bd a).2 (S.clamp_bd b).1 (S.clamp_bd b).2).mono fun _ _ ⟨he, hg⟩ => ⟨_, rfl, he, hg⟩
set_option maxHeartbeats 400000 in
theorem reckon_sum (f : Nat) (a b c : Int) (w : World)
  (h4 : f = 34)
  (hf : Hid (∀ w, Calls Try.prog f #[.agg #[.int .i64 (S.clamp a), .int .i64 (S.clamp b)]] w (HowPost c w))) :
  Calls Try.prog 33 #[.int .i64 a, .int .i64 b, .func (.func f) #[] #[]] w fun e w' => e = .returned (.int .i64 c) ∧ Below w.heap.size w w' := by
  subst h4
  go_enter Try.func33, Try.ntmps33
  go_wp2_with fail
  refine (clamp_any _ _).mono ?_
  rintro e w' ⟨rfl, rfl⟩
  go_wp2_with fail
  refine (clamp_any _ _).mono ?_
  rintro e w' ⟨rfl, rfl⟩
  go_wp2_with fail
  refine (hf.out _).mono ?_
  rintro e w' ⟨p, hp, rfl, hg⟩
  have HP := Lib.hid hp; clear hp
  go_wp2_with fail
  refine (clamp_any _ _).mono ?_
  rintro e w' ⟨rfl, rfl⟩
  go_wp2
  go_ret
  exact ⟨ret_int HP.out, hg⟩
set_option maxHeartbeats 400000 in
theorem add_any (a b : Int) (w : World) :
    Calls Try.prog 22 #[.int .i64 a, .int .i64 b] w fun e w' => e = .returned (.int .i64 (S.add a b)) ∧ Below w.heap.size w w' := by
  go_enter Try.func22, Try.ntmps22
  go_wp2_with fail
  refine (reckon_sum _ _ _ _ _ rfl (add_how a b)).mono ?_
  rintro e w' ⟨rfl, hg⟩
  go_wp2
  go_ret
  exact ⟨rfl, hg⟩
end Go.Proofs.Ytodlifbhpgphcaa
