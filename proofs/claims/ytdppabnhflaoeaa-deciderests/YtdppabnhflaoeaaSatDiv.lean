/- Layer 1, what later layers reach: quotients rounded up (the program's, the document's own), within bounds. -/
import Derived.Test.YtdppabnhflaoeaaSatW
import Derived.Test.YtdppabnhflaoeaaMem
import Derived.Test.YtdppabnhflaoeaaSatDoc
import Derived.WalkKit
import Derived.ProofKit
import Derived.OpenShut
import Derived.Deep.QuietTactic
import Derived.BigQuiet
import Derived.Lib.Hide
namespace Go.Proofs.Ytdppabnhflaoeaa
set_option linter.unusedVariables false
set_option linter.unusedSimpArgs false
open Go.ChangeShapes Go.WideShapes Go.ChangeAt Go.RowKit

set_option maxHeartbeats 400000 in
theorem clamp_any (n : Int) (w : World) :
    Calls Try.prog 38 #[.int .i64 n] w fun e w' => e = .returned (.int .i64 (S.clamp n)) ∧ w = w' := by
  unfold S.clamp
  go_enter Try.func38, Try.ntmps38
  go_wp2_with fail
  refine (within_any _ _ _ _).mono ?_
  rintro e w' ⟨rfl, rfl⟩
  go_wp2
  go_ret
  exact ⟨rfl, rfl⟩

set_option maxHeartbeats 400000 in
theorem ceiling_any (a b : Int) (w : World) (h0 : -1099511627776 ≤ a) (h1 : a ≤ 1099511627776) (h2 : 0 < b) (h3 : b ≤ 1099511627776) :
    Calls Try.prog 32 #[.agg #[.int .i64 a, .int .i64 b]] w fun e w' => e = .returned (.int .i64 (S.up a b)) ∧ Below w.heap.size w w' := by
  have hu := S.up_bd h2 h0 h1
  by_cases hr : 0 < a.tmod b
  · have e := S.up_tdiv_pos h2 hr
    have e1 : -1099511627776 ≤ a.tdiv b + 1 := by omega
    have e2 : a.tdiv b + 1 ≤ 1099511627776 := by omega
    have E := Lib.hid e; clear e hu
    go_enter Try.func32, Try.ntmps32
    go_wp2
    go_ret
    exact ⟨ret_int E.out, b_alloc _ _⟩
  · have E := Lib.hid (S.up_tdiv_neg h2 hr); clear hu
    go_enter Try.func32, Try.ntmps32
    go_wp2
    go_ret
    exact ⟨ret_int E.out, b_alloc _ _⟩

/-- What 'reckon' is handed: a function that answers a number which, clamped, is c. -/
def HowPost (c : Int) (w : World) (e : Ending) (w' : World) : Prop := ∃ p : Int, S.clamp p = c ∧ e = .returned (.int .i64 p) ∧ Below w.heap.size w w'

set_option maxHeartbeats 400000 in
theorem reckon_any (f : Nat) (a b c : Int) (w : World)
  (h4 : f = 32)
  (hf : Hid (∀ w, Calls Try.prog f #[.agg #[.int .i64 (S.clamp a), .int .i64 (S.clamp b)]] w (HowPost c w))) :
  Calls Try.prog 31 #[.int .i64 a, .int .i64 b, .func (.func f) #[] #[]] w fun e w' => e = .returned (.int .i64 c) ∧ Below w.heap.size w w' := by
  subst h4
  go_enter Try.func31, Try.ntmps31
  go_wp2_with fail
  refine (clamp_any _ _).mono ?_
  rintro e w' ⟨rfl, rfl⟩
  go_wp2_with fail
  refine (clamp_any _ _).mono ?_
  rintro e w' ⟨rfl, rfl⟩
  go_wp2_with fail
  refine (hf.out _).mono ?_
  rintro e w' ⟨p, hp, rfl, hg⟩
  have HP := Lib.hid hp; clear hp
  go_wp2_with fail
  refine (clamp_any _ _).mono ?_
  rintro e w' ⟨rfl, rfl⟩
  go_wp2
  go_ret
  exact ⟨ret_int HP.out, hg⟩

theorem cdiv_how (a b : Int) (hb : 0 < b) : Hid (∀ w, Calls Try.prog 32 #[.agg #[.int .i64 (S.clamp a), .int .i64 (S.clamp b)]] w (HowPost (S.cdiv a b) w)) := fun w =>
  (ceiling_any _ _ w (S.clamp_bd a).1 (S.clamp_bd a).2 (S.clamp_pos hb) (S.clamp_bd b).2).mono fun _ _ ⟨he, hg⟩ => ⟨_, S.clamp_id (S.up_bd (S.clamp_pos hb) (S.clamp_bd a).1 (S.clamp_bd a).2).1 (S.up_bd (S.clamp_pos hb) (S.clamp_bd a).1 (S.clamp_bd a).2).2, he, hg⟩

set_option maxHeartbeats 400000 in
theorem cdiv_no (a b : Int) (w : World) (hb : b ≤ 0) :
    Calls Try.prog 25 #[.int .i64 a, .int .i64 b] w fun e w' => e = .returned (.tuple #[.int .i64 0, .int .i64 2]) ∧ w = w' := by
  go_enter Try.func25, Try.ntmps25
  go_wp2
  go_ret2
  exact ⟨rfl, rfl⟩

set_option maxHeartbeats 400000 in
theorem cdiv_yes (a b : Int) (w : World) (hb : 0 < b) :
    Calls Try.prog 25 #[.int .i64 a, .int .i64 b] w fun e w' => e = .returned (.tuple #[.int .i64 (S.cdiv a b), .int .i64 0]) ∧ Below w.heap.size w w' := by
  go_enter Try.func25, Try.ntmps25
  go_wp2_with fail
  refine (reckon_any _ _ _ _ _ rfl (cdiv_how a b hb)).mono ?_
  rintro e w' ⟨rfl, hg⟩
  go_wp2
  go_ret2
  exact ⟨rfl, hg⟩


end Go.Proofs.Ytdppabnhflaoeaa
