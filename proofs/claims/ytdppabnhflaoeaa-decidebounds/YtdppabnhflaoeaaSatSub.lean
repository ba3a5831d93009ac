/- Layer 1, what later layers reach: the program's Sub. -/
import Derived.Test.YtdppabnhflaoeaaSatDiv
namespace Go.Proofs.Ytdppabnhflaoeaa
set_option linter.unusedVariables false
set_option linter.unusedSimpArgs false
open Go.ChangeShapes Go.WideShapes Go.ChangeAt Go.RowKit

set_option maxHeartbeats 400000 in
theorem diff_any (a b : Int) (w : World) (h0 : -1099511627776 ≤ a) (h1 : a ≤ 1099511627776) (h2 : -1099511627776 ≤ b) (h3 : b ≤ 1099511627776) :
    Calls Try.prog 40 #[.agg #[.int .i64 a, .int .i64 b]] w fun e w' => e = .returned (.int .i64 (a - b)) ∧ Below w.heap.size w w' := by
  go_enter Try.func40, Try.ntmps40
  go_wp2
  go_ret
  exact ⟨rfl, b_alloc _ _⟩
theorem sub_how (a b : Int) : Hid (∀ w, Calls Try.prog 40 #[.agg #[.int .i64 (S.clamp a), .int .i64 (S.clamp b)]] w (HowPost (S.sub a b) w)) := fun w =>
  (diff_any _ _ w (S.clamp_bd a).1 (S.clamp_bd a).2 (S.clamp_bd b).1 (S.clamp_bd b).2).mono fun _ _ ⟨he, hg⟩ => ⟨_, rfl, he, hg⟩
set_option maxHeartbeats 400000 in
theorem reckon_diff (f : Nat) (a b c : Int) (w : World)
  (h4 : f = 40)
  (hf : Hid (∀ w, Calls Try.prog f #[.agg #[.int .i64 (S.clamp a), .int .i64 (S.clamp b)]] w (HowPost c w))) :
  Calls Try.prog 31 #[.int .i64 a, .int .i64 b, .func (.func f) #[] #[]] w fun e w' => e = .returned (.int .i64 c) ∧ Below w.heap.size w w' := by
  subst h4
  go_enter Try.func31, Try.ntmps31
  go_wp2_with fail
  refine (clamp_any _ _).mono ?_
  rintro e w' ⟨rfl, rfl⟩
  go_wp2_with fail
  refine (clamp_any _ _).mono ?_
  rintro e w' ⟨rfl, rfl⟩
  go_wp2_with fail
  refine (hf.out _).mono ?_
  rintro e w' ⟨p, hp, rfl, hg⟩
  have HP := Lib.hid hp; clear hp
  go_wp2_with fail
  refine (clamp_any _ _).mono ?_
  rintro e w' ⟨rfl, rfl⟩
  go_wp2
  go_ret
  exact ⟨ret_int HP.out, hg⟩
set_option maxHeartbeats 400000 in
theorem sub_any (a b : Int) (w : World) :
    Calls Try.prog 37 #[.int .i64 a, .int .i64 b] w fun e w' => e = .returned (.int .i64 (S.sub a b)) ∧ Below w.heap.size w w' := by
  go_enter Try.func37, Try.ntmps37
  go_wp2_with fail
  refine (reckon_diff _ _ _ _ _ rfl (sub_how a b)).mono ?_
  rintro e w' ⟨rfl, hg⟩
  go_wp2
  go_ret
  exact ⟨rfl, hg⟩
end Go.Proofs.Ytdppabnhflaoeaa
