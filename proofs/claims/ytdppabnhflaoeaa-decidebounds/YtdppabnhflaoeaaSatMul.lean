/- Layer 1, what later layers reach: the program's Mul. -/
import Derived.Test.YtdppabnhflaoeaaSatDiv
namespace Go.Proofs.Ytdppabnhflaoeaa
set_option linter.unusedVariables false
set_option linter.unusedSimpArgs false
open Go.ChangeShapes Go.WideShapes Go.ChangeAt Go.RowKit

set_option maxHeartbeats 400000 in
theorem size_any (n : Int) (w : World) (h0 : -1099511627776 ≤ n) (h1 : n ≤ 1099511627776) :
    Calls Try.prog 41 #[.int .i64 n] w fun e w' => e = .returned (.int .i64 (S.mag n)) ∧ w = w' := by
  unfold S.mag
  by_cases h : n < 0
  · rw [if_pos h]
    go_enter Try.func41, Try.ntmps41
    go_wp2
    go_ret
    exact ⟨rfl, rfl⟩
  · rw [if_neg h]
    go_enter Try.func41, Try.ntmps41
    go_wp2
    go_ret
    exact ⟨rfl, rfl⟩

set_option maxHeartbeats 400000 in
theorem product_zero (a : Int) (w : World) :
    Calls Try.prog 39 #[.agg #[.int .i64 a, .int .i64 0]] w fun e w' => e = .returned (.int .i64 0) ∧ Below w.heap.size w w' := by
  go_enter Try.func39, Try.ntmps39
  go_wp2
  go_quiet (fail)
  go_wp2
  go_ret
  exact ⟨rfl, below_drewN (b_alloc _ _) _⟩

set_option maxHeartbeats 400000 in
theorem product_ok (a b : Int) (w : World) (h0 : -1099511627776 ≤ a) (h1 : a ≤ 1099511627776) (h2 : -1099511627776 ≤ b) (h3 : b ≤ 1099511627776) (hb : b ≠ 0) (h : S.prodOk a b = true) :
    Calls Try.prog 39 #[.agg #[.int .i64 a, .int .i64 b]] w fun e w' => e = .returned (.int .i64 (a * b)) ∧ Below w.heap.size w w' := by
  have hb1 : ((b : Int) == 0) = false := by simpa using hb
  have hp := S.prod_bd (S.mag_mul_le hb h)
  have hm := S.mag_bd h0 h1
  have hn := S.mag_bd h2 h3
  have hn1 := S.mag_pos hb
  have hd : decide (S.mag a ≤ 1099511627776 / S.mag b) = true := h
  clear h
  go_enter Try.func39, Try.ntmps39
  go_wp2
  go_quiet ((go_at_call 41; exact quiet_same (size_any _ _ (by omega) (by omega))))
  go_wp2
  go_ret
  exact ⟨rfl, below_drewN (b_alloc _ _) _⟩

set_option maxHeartbeats 400000 in
theorem product_far (a b : Int) (w : World) (h0 : -1099511627776 ≤ a) (h1 : a ≤ 1099511627776) (h2 : -1099511627776 ≤ b) (h3 : b ≤ 1099511627776) (hb : b ≠ 0) (h : S.prodOk a b = false) :
    Calls Try.prog 39 #[.agg #[.int .i64 a, .int .i64 b]] w fun e w' => e = .returned (.int .i64 (S.prodFar a b)) ∧ Below w.heap.size w w' := by
  have hb1 : ((b : Int) == 0) = false := by simpa using hb
  have hm := S.mag_bd h0 h1
  have hn := S.mag_bd h2 h3
  have hn1 := S.mag_pos hb
  have hd : decide (S.mag a ≤ 1099511627776 / S.mag b) = false := h
  clear h
  unfold S.prodFar
  cases hx : (decide (a < 0) == decide (b < 0))
  all_goals
    simp only [bne, hx, Bool.not_false, Bool.not_true, Bool.false_eq_true, if_true, if_false]
    go_enter Try.func39, Try.ntmps39
    go_wp2
    go_quiet ((go_at_call 41; exact quiet_same (size_any _ _ (by omega) (by omega))))
    go_wp2
    go_ret
    exact ⟨rfl, below_drewN (b_alloc _ _) _⟩

/-- What a product comes to, clamped, is the clamped product, whichever way it was reckoned. -/
def ProdPost (a b : Int) (w : World) (e : Ending) (w' : World) : Prop := ∃ p : Int, S.clamp p = S.clamp (a * b) ∧ e = .returned (.int .i64 p) ∧ Below w.heap.size w w'

theorem product_any (a b : Int) (w : World) (h0 : -1099511627776 ≤ a) (h1 : a ≤ 1099511627776) (h2 : -1099511627776 ≤ b) (h3 : b ≤ 1099511627776) :
    Calls Try.prog 39 #[.agg #[.int .i64 a, .int .i64 b]] w (ProdPost a b w) := by
  by_cases hb : b = 0
  · subst hb
    exact (product_zero a w).mono fun e w' ⟨he, hg⟩ => ⟨0, by rw [Int.mul_zero], he, hg⟩
  · cases h : S.prodOk a b
    · exact (product_far a b w h0 h1 h2 h3 hb h).mono fun e w' ⟨he, hg⟩ => ⟨_, S.clamp_far (S.mag_mul_gt hb h), he, hg⟩
    · exact (product_ok a b w h0 h1 h2 h3 hb h).mono fun e w' ⟨he, hg⟩ => ⟨_, rfl, he, hg⟩

theorem mul_how (a b : Int) : Hid (∀ w, Calls Try.prog 39 #[.agg #[.int .i64 (S.clamp a), .int .i64 (S.clamp b)]] w (HowPost (S.mul a b) w)) := fun w =>
  product_any _ _ w (S.clamp_bd a).1 (S.clamp_bd a).2 (S.clamp_bd b).1 (S.clamp_bd b).2
set_option maxHeartbeats 400000 in
theorem reckon_prod (f : Nat) (a b c : Int) (w : World)
  (h4 : f = 39)
  (hf : Hid (∀ w, Calls Try.prog f #[.agg #[.int .i64 (S.clamp a), .int .i64 (S.clamp b)]] w (HowPost c w))) :
  Calls Try.prog 31 #[.int .i64 a, .int .i64 b, .func (.func f) #[] #[]] w fun e w' => e = .returned (.int .i64 c) ∧ Below w.heap.size w w' := by
  subst h4
  go_enter Try.func31, Try.ntmps31
  go_wp2_with fail
  refine (clamp_any _ _).mono ?_
  rintro e w' ⟨rfl, rfl⟩
  go_wp2_with fail
  refine (clamp_any _ _).mono ?_
  rintro e w' ⟨rfl, rfl⟩
  go_wp2_with fail
  refine (hf.out _).mono ?_
  rintro e w' ⟨p, hp, rfl, hg⟩
  have HP := Lib.hid hp; clear hp
  go_wp2_with fail
  refine (clamp_any _ _).mono ?_
  rintro e w' ⟨rfl, rfl⟩
  go_wp2
  go_ret
  exact ⟨ret_int HP.out, hg⟩
set_option maxHeartbeats 400000 in
theorem mul_any (a b : Int) (w : World) :
    Calls Try.prog 36 #[.int .i64 a, .int .i64 b] w fun e w' => e = .returned (.int .i64 (S.mul a b)) ∧ Below w.heap.size w w' := by
  go_enter Try.func36, Try.ntmps36
  go_wp2_with fail
  refine (reckon_prod _ _ _ _ _ rfl (mul_how a b)).mono ?_
  rintro e w' ⟨rfl, hg⟩
  go_wp2
  go_ret
  exact ⟨rfl, hg⟩
end Go.Proofs.Ytdppabnhflaoeaa
