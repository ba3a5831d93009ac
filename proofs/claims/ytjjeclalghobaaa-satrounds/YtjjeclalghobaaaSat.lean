/- Contracts of layer 1 (sat): what each function of the package returns, for whatever numbers. -/
import Derived.Test.YtjjeclalghobaaaRows
import Derived.Test.YtjjeclalghobaaaSatMath
import Derived.WalkKit
import Derived.ProofKit
import Derived.OpenShut
import Derived.Deep.QuietTactic
import Derived.BigQuiet
import Derived.Lib.Hide
namespace Go.Proofs.Ytjjeclalghobaaa
open Go.ChangeShapes Go.WideShapes Go.ChangeAt Go.RowKit

theorem Gr.trans {a b c : World} (h : Grown a b) (k : Grown b c) : Grown a c :=
  ⟨World.keptBut_trans h.1 k.1, fun x => (k.2.1 x).trans (h.2.1 x), Nat.le_trans h.2.2 k.2.2⟩

theorem ret_int {k : IntKind} {a b : Int} (h : a = b) : Ending.returned (.int k a) = .returned (.int k b) := by rw [h]

set_option maxHeartbeats 400000 in
theorem within_any (n lo hi : Int) (w : World) :
    Calls Try.prog 19 #[.int .i64 n, .int .i64 lo, .int .i64 hi] w fun e w' => e = .returned (.int .i64 (S.within n lo hi)) ∧ w = w' := by
  unfold S.within
  by_cases h1 : hi < n
  · rw [if_pos h1]
    go_enter Try.func19, Try.ntmps19
    go_wp2
    go_ret
    exact ⟨rfl, rfl⟩
  · rw [if_neg h1]
    by_cases h2 : n < lo
    · rw [if_pos h2]
      go_enter Try.func19, Try.ntmps19
      go_wp2
      go_ret
      exact ⟨rfl, rfl⟩
    · rw [if_neg h2]
      go_enter Try.func19, Try.ntmps19
      go_wp2
      go_ret
      exact ⟨rfl, rfl⟩

set_option maxHeartbeats 400000 in
theorem clamp_any (n : Int) (w : World) :
    Calls Try.prog 11 #[.int .i64 n] w fun e w' => e = .returned (.int .i64 (S.clamp n)) ∧ w = w' := by
  unfold S.clamp
  go_enter Try.func11, Try.ntmps11
  go_wp2_with fail
  refine (within_any _ _ _ _).mono ?_
  rintro e w' ⟨rfl, rfl⟩
  go_wp2
  go_ret
  exact ⟨rfl, rfl⟩

set_option maxHeartbeats 400000 in
theorem size_any (n : Int) (w : World) (h0 : -1099511627776 ≤ n) (h1 : n ≤ 1099511627776) :
    Calls Try.prog 26 #[.int .i64 n] w fun e w' => e = .returned (.int .i64 (S.mag n)) ∧ w = w' := by
  unfold S.mag
  by_cases h : n < 0
  · rw [if_pos h]
    go_enter Try.func26, Try.ntmps26
    go_wp2
    go_ret
    exact ⟨rfl, rfl⟩
  · rw [if_neg h]
    go_enter Try.func26, Try.ntmps26
    go_wp2
    go_ret
    exact ⟨rfl, rfl⟩

set_option maxHeartbeats 400000 in
theorem sum_any (a b : Int) (w : World) (h0 : -1099511627776 ≤ a) (h1 : a ≤ 1099511627776) (h2 : -1099511627776 ≤ b) (h3 : b ≤ 1099511627776) :
    Calls Try.prog 23 #[.agg #[.int .i64 a, .int .i64 b]] w fun e w' => e = .returned (.int .i64 (a + b)) ∧ Grown w w' := by
  go_enter Try.func23, Try.ntmps23
  go_wp2
  go_ret
  exact ⟨rfl, (Grown.refl _).alloc _ _⟩

set_option maxHeartbeats 400000 in
theorem diff_any (a b : Int) (w : World) (h0 : -1099511627776 ≤ a) (h1 : a ≤ 1099511627776) (h2 : -1099511627776 ≤ b) (h3 : b ≤ 1099511627776) :
    Calls Try.prog 24 #[.agg #[.int .i64 a, .int .i64 b]] w fun e w' => e = .returned (.int .i64 (a - b)) ∧ Grown w w' := by
  go_enter Try.func24, Try.ntmps24
  go_wp2
  go_ret
  exact ⟨rfl, (Grown.refl _).alloc _ _⟩

set_option maxHeartbeats 400000 in
theorem ceiling_any (a b : Int) (w : World) (h0 : -1099511627776 ≤ a) (h1 : a ≤ 1099511627776) (h2 : 0 < b) (h3 : b ≤ 1099511627776) :
    Calls Try.prog 22 #[.agg #[.int .i64 a, .int .i64 b]] w fun e w' => e = .returned (.int .i64 (S.up a b)) ∧ Grown w w' := by
  have hu := S.up_bd h2 h0 h1
  by_cases hr : 0 < a.tmod b
  · have e := S.up_tdiv_pos h2 hr
    have e1 : -1099511627776 ≤ a.tdiv b + 1 := by omega
    have e2 : a.tdiv b + 1 ≤ 1099511627776 := by omega
    have E := Lib.hid e; clear e hu
    go_enter Try.func22, Try.ntmps22
    go_wp2
    go_ret
    exact ⟨ret_int E.out, (Grown.refl _).alloc _ _⟩
  · have E := Lib.hid (S.up_tdiv_neg h2 hr); clear hu
    go_enter Try.func22, Try.ntmps22
    go_wp2
    go_ret
    exact ⟨ret_int E.out, (Grown.refl _).alloc _ _⟩

theorem quiet_eq {P : Program} {f : FuncId} {args : Array Value} {w : World} {n : Nat} {v : Value}
    (h : Calls P f args (w.drewN n) fun e w' => e = .returned v ∧ w.drewN n = w') : Calls P f args (w.drewN n) fun e w'' => e = .returned v ∧ ∃ m, w'' = w.drewN m :=
  h.mono fun _ _ ⟨he, hm⟩ => ⟨he, n, hm.symm⟩

theorem Gr.drewN {W w' : World} (h : Grown W w') (n : Nat) : Grown W (w'.drewN n) := h

set_option maxHeartbeats 400000 in
theorem product_zero (a : Int) (w : World) :
    Calls Try.prog 25 #[.agg #[.int .i64 a, .int .i64 0]] w fun e w' => e = .returned (.int .i64 0) ∧ Grown w w' := by
  go_enter Try.func25, Try.ntmps25
  go_wp2
  go_quiet (fail)
  go_wp2
  go_ret
  exact ⟨rfl, Gr.drewN ((Grown.refl _).alloc _ _) _⟩

set_option maxHeartbeats 400000 in
theorem product_ok (a b : Int) (w : World) (h0 : -1099511627776 ≤ a) (h1 : a ≤ 1099511627776) (h2 : -1099511627776 ≤ b) (h3 : b ≤ 1099511627776) (hb : b ≠ 0) (h : S.prodOk a b = true) :
    Calls Try.prog 25 #[.agg #[.int .i64 a, .int .i64 b]] w fun e w' => e = .returned (.int .i64 (a * b)) ∧ Grown w w' := by
  have hb1 : ((b : Int) == 0) = false := by simpa using hb
  have hp := S.prod_bd (S.mag_mul_le hb h)
  have hm := S.mag_bd h0 h1
  have hn := S.mag_bd h2 h3
  have hn1 := S.mag_pos hb
  have hd : decide (S.mag a ≤ 1099511627776 / S.mag b) = true := h
  clear h
  go_enter Try.func25, Try.ntmps25
  go_wp2
  go_quiet ((go_at_call 26; exact quiet_eq (size_any _ _ (by omega) (by omega))))
  go_wp2
  go_ret
  exact ⟨rfl, Gr.drewN ((Grown.refl _).alloc _ _) _⟩

set_option maxHeartbeats 400000 in
theorem product_far (a b : Int) (w : World) (h0 : -1099511627776 ≤ a) (h1 : a ≤ 1099511627776) (h2 : -1099511627776 ≤ b) (h3 : b ≤ 1099511627776) (hb : b ≠ 0) (h : S.prodOk a b = false) :
    Calls Try.prog 25 #[.agg #[.int .i64 a, .int .i64 b]] w fun e w' => e = .returned (.int .i64 (S.prodFar a b)) ∧ Grown w w' := by
  have hb1 : ((b : Int) == 0) = false := by simpa using hb
  have hm := S.mag_bd h0 h1
  have hn := S.mag_bd h2 h3
  have hn1 := S.mag_pos hb
  have hd : decide (S.mag a ≤ 1099511627776 / S.mag b) = false := h
  clear h
  unfold S.prodFar
  cases hx : (decide (a < 0) == decide (b < 0))
  all_goals
    simp only [bne, hx, Bool.not_false, Bool.not_true, Bool.false_eq_true, if_true, if_false]
    go_enter Try.func25, Try.ntmps25
    go_wp2
    go_quiet ((go_at_call 26; exact quiet_eq (size_any _ _ (by omega) (by omega))))
    go_wp2
    go_ret
    exact ⟨rfl, Gr.drewN ((Grown.refl _).alloc _ _) _⟩

/-- What a product comes to, clamped, is the clamped product, whichever way it was reckoned. -/
def ProdPost (a b : Int) (w : World) (e : Ending) (w' : World) : Prop := ∃ p : Int, S.clamp p = S.clamp (a * b) ∧ e = .returned (.int .i64 p) ∧ Grown w w'

theorem product_any (a b : Int) (w : World) (h0 : -1099511627776 ≤ a) (h1 : a ≤ 1099511627776) (h2 : -1099511627776 ≤ b) (h3 : b ≤ 1099511627776) :
    Calls Try.prog 25 #[.agg #[.int .i64 a, .int .i64 b]] w (ProdPost a b w) := by
  by_cases hb : b = 0
  · subst hb
    exact (product_zero a w).mono fun e w' ⟨he, hg⟩ => ⟨0, by rw [Int.mul_zero], he, hg⟩
  · cases h : S.prodOk a b
    · exact (product_far a b w h0 h1 h2 h3 hb h).mono fun e w' ⟨he, hg⟩ => ⟨_, S.clamp_far (S.mag_mul_gt hb h), he, hg⟩
    · exact (product_ok a b w h0 h1 h2 h3 hb h).mono fun e w' ⟨he, hg⟩ => ⟨_, rfl, he, hg⟩

/-- What 'reckon' is handed: a function that answers a number which, clamped, is c. -/
def HowPost (c : Int) (w : World) (e : Ending) (w' : World) : Prop := ∃ p : Int, S.clamp p = c ∧ e = .returned (.int .i64 p) ∧ Grown w w'

set_option maxHeartbeats 400000 in
theorem reckon_any (f : Nat) (a b c : Int) (w : World)
    (h4 : f = 23 ∨ f = 24 ∨ f = 25 ∨ f = 22)
    (hf : Hid (∀ w, Calls Try.prog f #[.agg #[.int .i64 (S.clamp a), .int .i64 (S.clamp b)]] w (HowPost c w))) :
    Calls Try.prog 21 #[.int .i64 a, .int .i64 b, .func (.func f) #[] #[]] w fun e w' => e = .returned (.int .i64 c) ∧ Grown w w' := by
  rcases h4 with rfl | rfl | rfl | rfl
  all_goals
    go_enter Try.func21, Try.ntmps21
    go_wp2_with fail
    refine (clamp_any _ _).mono ?_
    rintro e w' ⟨rfl, rfl⟩
    go_wp2_with fail
    refine (clamp_any _ _).mono ?_
    rintro e w' ⟨rfl, rfl⟩
    go_wp2_with fail
    refine (hf.out _).mono ?_
    rintro e w' ⟨p, hp, rfl, hg⟩
    have HP := Lib.hid hp; clear hp
    go_wp2_with fail
    refine (clamp_any _ _).mono ?_
    rintro e w' ⟨rfl, rfl⟩
    go_wp2
    go_ret
    exact ⟨ret_int HP.out, hg⟩

theorem add_how (a b : Int) : Hid (∀ w, Calls Try.prog 23 #[.agg #[.int .i64 (S.clamp a), .int .i64 (S.clamp b)]] w (HowPost (S.add a b) w)) := fun w =>
  (sum_any _ _ w (S.clamp_bd a).1 (S.clamp_bd a).2 (S.clamp_bd b).1 (S.clamp_bd b).2).mono fun _ _ ⟨he, hg⟩ => ⟨_, rfl, he, hg⟩
theorem sub_how (a b : Int) : Hid (∀ w, Calls Try.prog 24 #[.agg #[.int .i64 (S.clamp a), .int .i64 (S.clamp b)]] w (HowPost (S.sub a b) w)) := fun w =>
  (diff_any _ _ w (S.clamp_bd a).1 (S.clamp_bd a).2 (S.clamp_bd b).1 (S.clamp_bd b).2).mono fun _ _ ⟨he, hg⟩ => ⟨_, rfl, he, hg⟩
theorem mul_how (a b : Int) : Hid (∀ w, Calls Try.prog 25 #[.agg #[.int .i64 (S.clamp a), .int .i64 (S.clamp b)]] w (HowPost (S.mul a b) w)) := fun w =>
  product_any _ _ w (S.clamp_bd a).1 (S.clamp_bd a).2 (S.clamp_bd b).1 (S.clamp_bd b).2
theorem cdiv_how (a b : Int) (hb : 0 < b) : Hid (∀ w, Calls Try.prog 22 #[.agg #[.int .i64 (S.clamp a), .int .i64 (S.clamp b)]] w (HowPost (S.cdiv a b) w)) := fun w =>
  (ceiling_any _ _ w (S.clamp_bd a).1 (S.clamp_bd a).2 (S.clamp_pos hb) (S.clamp_bd b).2).mono fun _ _ ⟨he, hg⟩ => ⟨_, S.clamp_id (S.up_bd (S.clamp_pos hb) (S.clamp_bd a).1 (S.clamp_bd a).2).1 (S.up_bd (S.clamp_pos hb) (S.clamp_bd a).1 (S.clamp_bd a).2).2, he, hg⟩

set_option maxHeartbeats 400000 in
theorem add_any (a b : Int) (w : World) :
    Calls Try.prog 13 #[.int .i64 a, .int .i64 b] w fun e w' => e = .returned (.int .i64 (S.add a b)) ∧ Grown w w' := by
  go_enter Try.func13, Try.ntmps13
  go_wp2_with fail
  refine (reckon_any _ _ _ _ _ (by simp) (add_how a b)).mono ?_
  rintro e w' ⟨rfl, hg⟩
  go_wp2
  go_ret
  exact ⟨rfl, hg⟩

set_option maxHeartbeats 400000 in
theorem sub_any (a b : Int) (w : World) :
    Calls Try.prog 15 #[.int .i64 a, .int .i64 b] w fun e w' => e = .returned (.int .i64 (S.sub a b)) ∧ Grown w w' := by
  go_enter Try.func15, Try.ntmps15
  go_wp2_with fail
  refine (reckon_any _ _ _ _ _ (by simp) (sub_how a b)).mono ?_
  rintro e w' ⟨rfl, hg⟩
  go_wp2
  go_ret
  exact ⟨rfl, hg⟩

set_option maxHeartbeats 400000 in
theorem mul_any (a b : Int) (w : World) :
    Calls Try.prog 17 #[.int .i64 a, .int .i64 b] w fun e w' => e = .returned (.int .i64 (S.mul a b)) ∧ Grown w w' := by
  go_enter Try.func17, Try.ntmps17
  go_wp2_with fail
  refine (reckon_any _ _ _ _ _ (by simp) (mul_how a b)).mono ?_
  rintro e w' ⟨rfl, hg⟩
  go_wp2
  go_ret
  exact ⟨rfl, hg⟩

set_option maxHeartbeats 400000 in
theorem cdiv_no (a b : Int) (w : World) (hb : b ≤ 0) :
    Calls Try.prog 9 #[.int .i64 a, .int .i64 b] w fun e w' => e = .returned (.tuple #[.int .i64 0, .int .i64 2]) ∧ w = w' := by
  go_enter Try.func9, Try.ntmps9
  go_wp2
  go_ret2
  exact ⟨rfl, rfl⟩

set_option maxHeartbeats 400000 in
theorem cdiv_yes (a b : Int) (w : World) (hb : 0 < b) :
    Calls Try.prog 9 #[.int .i64 a, .int .i64 b] w fun e w' => e = .returned (.tuple #[.int .i64 (S.cdiv a b), .int .i64 0]) ∧ Grown w w' := by
  go_enter Try.func9, Try.ntmps9
  go_wp2_with fail
  refine (reckon_any _ _ _ _ _ (by simp) (cdiv_how a b hb)).mono ?_
  rintro e w' ⟨rfl, hg⟩
  go_wp2
  go_ret2
  exact ⟨rfl, hg⟩
end Go.Proofs.Ytjjeclalghobaaa
