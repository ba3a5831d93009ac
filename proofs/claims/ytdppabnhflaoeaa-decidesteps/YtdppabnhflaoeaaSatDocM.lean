/- Layer 1, the document's own: Sub, Mul. -/
import Derived.Test.YtdppabnhflaoeaaSatDoc
namespace Go.Proofs.Ytdppabnhflaoeaa
set_option linter.unusedVariables false
set_option linter.unusedSimpArgs false
open Go.ChangeShapes Go.WideShapes Go.ChangeAt Go.RowKit

set_option maxHeartbeats 400000 in
theorem rsub_any (a b : Int) (w : World) :
    Calls Try.prog 22 #[.int .i64 a, .int .i64 b] w fun e w' => e = .returned (.int .i64 (S.sub a b)) ∧ w = w' := by
  have ha := S.clamp_bd a
  have hb := S.clamp_bd b
  unfold S.sub
  go_enter Try.func22, Try.ntmps22
  go_wp2_with fail
  refine (rclamp_any _ _).mono ?_
  rintro e w' ⟨rfl, rfl⟩
  go_wp2_with fail
  refine (rclamp_any _ _).mono ?_
  rintro e w' ⟨rfl, rfl⟩
  go_wp2_with fail
  refine (rclamp_any _ _).mono ?_
  rintro e w' ⟨rfl, rfl⟩
  go_wp2
  go_ret
  exact ⟨rfl, rfl⟩

set_option maxHeartbeats 400000 in
theorem rmul_zero (a b A B : Int) (w : World) (HA : Hid (S.clamp a = A)) (HB : Hid (S.clamp b = B)) (h : A = 0 ∨ B = 0) :
    Calls Try.prog 21 #[.int .i64 a, .int .i64 b] w fun e w' => e = .returned (.int .i64 0) ∧ w = w' := by
  by_cases hA : A = 0
  · subst hA
    go_enter Try.func21, Try.ntmps21
    go_wp2_with fail
    refine (rclamp_any _ _).mono ?_
    rintro e w' ⟨rfl, rfl⟩
    rw [HA.out]
    go_wp2_with fail
    refine (rclamp_any _ _).mono ?_
    rintro e w' ⟨rfl, rfl⟩
    rw [HB.out]
    go_wp2
    go_ret
    exact ⟨rfl, rfl⟩
  · obtain rfl : B = 0 := by omega
    have hA1 : ((A : Int) == 0) = false := by simpa using hA
    clear h hA
    go_enter Try.func21, Try.ntmps21
    go_wp2_with fail
    refine (rclamp_any _ _).mono ?_
    rintro e w' ⟨rfl, rfl⟩
    rw [HA.out]
    go_wp2_with fail
    refine (rclamp_any _ _).mono ?_
    rintro e w' ⟨rfl, rfl⟩
    rw [HB.out]
    go_wp2
    go_ret
    exact ⟨rfl, rfl⟩

set_option maxHeartbeats 400000 in
theorem rmul_pp (a b A B : Int) (w : World) (HA : Hid (S.clamp a = A)) (HB : Hid (S.clamp b = B)) (h0 : 0 < A) (h1 : A ≤ 1099511627776) (h2 : 0 < B) (h3 : B ≤ 1099511627776) :
    Calls Try.prog 21 #[.int .i64 a, .int .i64 b] w fun e w' => e = .returned (.int .i64 (S.mul a b)) ∧ w = w' := by
  have hA0 : (A == 0) = false := by simp; omega
  have hB0 : (B == 0) = false := by simp; omega
  have hA2 : (-A == 0) = false := by simp; omega
  have hB2 : (-B == 0) = false := by simp; omega
  have hA1 : decide (A < 0) = false := by simp; omega
  have hB1 : decide (B < 0) = false := by simp; omega
  have hx : (decide (A < 0) == decide (B < 0)) = true := by
    rw [decide_eq_false (by omega), decide_eq_false (by omega)]; rfl
  have HmA := Lib.hid (S.mag_id (n := A) (by omega))
  have HmB := Lib.hid (S.mag_id (n := B) (by omega))
  cases hk : S.prodOk A B
  · have hf := S.mul_far HA.out HB.out (S.mag_mul_gt (by omega) hk)
    have hd : decide (A ≤ 1099511627776 / B) = false := by have h := hk; unfold S.prodOk at h; rw [HmA.out, HmB.out] at h; exact h
    rw [hf, show S.prodFar A B = 1099511627776 from by unfold S.prodFar; simp only [bne, hx, Bool.not_true, Bool.false_eq_true, if_false]]
    clear hf hk
    go_enter Try.func21, Try.ntmps21
    go_wp2_with fail
    refine (rclamp_any _ _).mono ?_
    rintro e w' ⟨rfl, rfl⟩
    rw [HA.out]
    go_wp2_with fail
    refine (rclamp_any _ _).mono ?_
    rintro e w' ⟨rfl, rfl⟩
    rw [HB.out]
    go_wp2
    go_ret
    exact ⟨rfl, rfl⟩
  · have hl := S.mag_mul_le (by omega) hk
    have hf := S.mul_near HA.out HB.out hl
    have hd : decide (A ≤ 1099511627776 / B) = true := by have h := hk; unfold S.prodOk at h; rw [HmA.out, HmB.out] at h; exact h
    rw [HmA.out, HmB.out] at hl
    have hl0 : 0 ≤ A * B := Int.mul_nonneg (by omega) (by omega)
    have HF := Lib.hid hf
    clear hf hk
    go_enter Try.func21, Try.ntmps21
    go_wp2_with fail
    refine (rclamp_any _ _).mono ?_
    rintro e w' ⟨rfl, rfl⟩
    rw [HA.out]
    go_wp2_with fail
    refine (rclamp_any _ _).mono ?_
    rintro e w' ⟨rfl, rfl⟩
    rw [HB.out]
    go_wp2
    go_ret
    exact ⟨ret_int HF.out.symm, rfl⟩

set_option maxHeartbeats 400000 in
theorem rmul_pn (a b A B : Int) (w : World) (HA : Hid (S.clamp a = A)) (HB : Hid (S.clamp b = (-B))) (h0 : 0 < A) (h1 : A ≤ 1099511627776) (h2 : 0 < B) (h3 : B ≤ 1099511627776) :
    Calls Try.prog 21 #[.int .i64 a, .int .i64 b] w fun e w' => e = .returned (.int .i64 (S.mul a b)) ∧ w = w' := by
  have hA0 : (A == 0) = false := by simp; omega
  have hB0 : (B == 0) = false := by simp; omega
  have hA2 : (-A == 0) = false := by simp; omega
  have hB2 : (-B == 0) = false := by simp; omega
  have hA1 : decide (A < 0) = false := by simp; omega
  have hB1 : decide (B < 0) = false := by simp; omega
  have hx : (decide (A < 0) == decide ((-B) < 0)) = false := by
    rw [decide_eq_false (by omega), decide_eq_true (by omega)]; rfl
  have HmA := Lib.hid (S.mag_id (n := A) (by omega))
  have HmB : Hid (S.mag (-B) = B) := by have := S.mag_neg (n := -B) (by omega); rw [Int.neg_neg] at this; exact this
  cases hk : S.prodOk A (-B)
  · have hf := S.mul_far HA.out HB.out (S.mag_mul_gt (by omega) hk)
    have hd : decide (A ≤ 1099511627776 / B) = false := by have h := hk; unfold S.prodOk at h; rw [HmA.out, HmB.out] at h; exact h
    rw [hf, show S.prodFar A (-B) = -1099511627776 from by unfold S.prodFar; simp only [bne, hx, Bool.not_false, if_true]]
    clear hf hk
    go_enter Try.func21, Try.ntmps21
    go_wp2_with fail
    refine (rclamp_any _ _).mono ?_
    rintro e w' ⟨rfl, rfl⟩
    rw [HA.out]
    go_wp2_with fail
    refine (rclamp_any _ _).mono ?_
    rintro e w' ⟨rfl, rfl⟩
    rw [HB.out]
    go_wp2
    go_ret
    exact ⟨rfl, rfl⟩
  · have hl := S.mag_mul_le (by omega) hk
    have hf := S.mul_near HA.out HB.out hl
    have hd : decide (A ≤ 1099511627776 / B) = true := by have h := hk; unfold S.prodOk at h; rw [HmA.out, HmB.out] at h; exact h
    rw [HmA.out, HmB.out] at hl
    have hl0 : 0 ≤ A * B := Int.mul_nonneg (by omega) (by omega)
    have HF := Lib.hid hf
    clear hf hk
    go_enter Try.func21, Try.ntmps21
    go_wp2_with fail
    refine (rclamp_any _ _).mono ?_
    rintro e w' ⟨rfl, rfl⟩
    rw [HA.out]
    go_wp2_with fail
    refine (rclamp_any _ _).mono ?_
    rintro e w' ⟨rfl, rfl⟩
    rw [HB.out]
    go_wp2
    go_ret
    exact ⟨ret_int (by rw [HF.out, Int.mul_neg]), rfl⟩

set_option maxHeartbeats 400000 in
theorem rmul_np (a b A B : Int) (w : World) (HA : Hid (S.clamp a = (-A))) (HB : Hid (S.clamp b = B)) (h0 : 0 < A) (h1 : A ≤ 1099511627776) (h2 : 0 < B) (h3 : B ≤ 1099511627776) :
    Calls Try.prog 21 #[.int .i64 a, .int .i64 b] w fun e w' => e = .returned (.int .i64 (S.mul a b)) ∧ w = w' := by
  have hA0 : (A == 0) = false := by simp; omega
  have hB0 : (B == 0) = false := by simp; omega
  have hA2 : (-A == 0) = false := by simp; omega
  have hB2 : (-B == 0) = false := by simp; omega
  have hA1 : decide (A < 0) = false := by simp; omega
  have hB1 : decide (B < 0) = false := by simp; omega
  have hx : (decide ((-A) < 0) == decide (B < 0)) = false := by
    rw [decide_eq_true (by omega), decide_eq_false (by omega)]; rfl
  have HmA : Hid (S.mag (-A) = A) := by have := S.mag_neg (n := -A) (by omega); rw [Int.neg_neg] at this; exact this
  have HmB := Lib.hid (S.mag_id (n := B) (by omega))
  cases hk : S.prodOk (-A) B
  · have hf := S.mul_far HA.out HB.out (S.mag_mul_gt (by omega) hk)
    have hd : decide (A ≤ 1099511627776 / B) = false := by have h := hk; unfold S.prodOk at h; rw [HmA.out, HmB.out] at h; exact h
    rw [hf, show S.prodFar (-A) B = -1099511627776 from by unfold S.prodFar; simp only [bne, hx, Bool.not_false, if_true]]
    clear hf hk
    go_enter Try.func21, Try.ntmps21
    go_wp2_with fail
    refine (rclamp_any _ _).mono ?_
    rintro e w' ⟨rfl, rfl⟩
    rw [HA.out]
    go_wp2_with fail
    refine (rclamp_any _ _).mono ?_
    rintro e w' ⟨rfl, rfl⟩
    rw [HB.out]
    go_wp2
    go_ret
    exact ⟨rfl, rfl⟩
  · have hl := S.mag_mul_le (by omega) hk
    have hf := S.mul_near HA.out HB.out hl
    have hd : decide (A ≤ 1099511627776 / B) = true := by have h := hk; unfold S.prodOk at h; rw [HmA.out, HmB.out] at h; exact h
    rw [HmA.out, HmB.out] at hl
    have hl0 : 0 ≤ A * B := Int.mul_nonneg (by omega) (by omega)
    have HF := Lib.hid hf
    clear hf hk
    go_enter Try.func21, Try.ntmps21
    go_wp2_with fail
    refine (rclamp_any _ _).mono ?_
    rintro e w' ⟨rfl, rfl⟩
    rw [HA.out]
    go_wp2_with fail
    refine (rclamp_any _ _).mono ?_
    rintro e w' ⟨rfl, rfl⟩
    rw [HB.out]
    go_wp2
    go_ret
    exact ⟨ret_int (by rw [HF.out, Int.neg_mul]), rfl⟩

set_option maxHeartbeats 400000 in
theorem rmul_nn (a b A B : Int) (w : World) (HA : Hid (S.clamp a = (-A))) (HB : Hid (S.clamp b = (-B))) (h0 : 0 < A) (h1 : A ≤ 1099511627776) (h2 : 0 < B) (h3 : B ≤ 1099511627776) :
    Calls Try.prog 21 #[.int .i64 a, .int .i64 b] w fun e w' => e = .returned (.int .i64 (S.mul a b)) ∧ w = w' := by
  have hA0 : (A == 0) = false := by simp; omega
  have hB0 : (B == 0) = false := by simp; omega
  have hA2 : (-A == 0) = false := by simp; omega
  have hB2 : (-B == 0) = false := by simp; omega
  have hA1 : decide (A < 0) = false := by simp; omega
  have hB1 : decide (B < 0) = false := by simp; omega
  have hx : (decide ((-A) < 0) == decide ((-B) < 0)) = true := by
    rw [decide_eq_true (by omega), decide_eq_true (by omega)]; rfl
  have HmA : Hid (S.mag (-A) = A) := by have := S.mag_neg (n := -A) (by omega); rw [Int.neg_neg] at this; exact this
  have HmB : Hid (S.mag (-B) = B) := by have := S.mag_neg (n := -B) (by omega); rw [Int.neg_neg] at this; exact this
  cases hk : S.prodOk (-A) (-B)
  · have hf := S.mul_far HA.out HB.out (S.mag_mul_gt (by omega) hk)
    have hd : decide (A ≤ 1099511627776 / B) = false := by have h := hk; unfold S.prodOk at h; rw [HmA.out, HmB.out] at h; exact h
    rw [hf, show S.prodFar (-A) (-B) = 1099511627776 from by unfold S.prodFar; simp only [bne, hx, Bool.not_true, Bool.false_eq_true, if_false]]
    clear hf hk
    go_enter Try.func21, Try.ntmps21
    go_wp2_with fail
    refine (rclamp_any _ _).mono ?_
    rintro e w' ⟨rfl, rfl⟩
    rw [HA.out]
    go_wp2_with fail
    refine (rclamp_any _ _).mono ?_
    rintro e w' ⟨rfl, rfl⟩
    rw [HB.out]
    go_wp2
    go_ret
    exact ⟨rfl, rfl⟩
  · have hl := S.mag_mul_le (by omega) hk
    have hf := S.mul_near HA.out HB.out hl
    have hd : decide (A ≤ 1099511627776 / B) = true := by have h := hk; unfold S.prodOk at h; rw [HmA.out, HmB.out] at h; exact h
    rw [HmA.out, HmB.out] at hl
    have hl0 : 0 ≤ A * B := Int.mul_nonneg (by omega) (by omega)
    have HF := Lib.hid hf
    clear hf hk
    go_enter Try.func21, Try.ntmps21
    go_wp2_with fail
    refine (rclamp_any _ _).mono ?_
    rintro e w' ⟨rfl, rfl⟩
    rw [HA.out]
    go_wp2_with fail
    refine (rclamp_any _ _).mono ?_
    rintro e w' ⟨rfl, rfl⟩
    rw [HB.out]
    go_wp2
    go_ret
    exact ⟨ret_int (by rw [HF.out, Int.neg_mul_neg]), rfl⟩

theorem rmul_any (a b : Int) (w : World) :
    Calls Try.prog 21 #[.int .i64 a, .int .i64 b] w fun e w' => e = .returned (.int .i64 (S.mul a b)) ∧ w = w' := by
  have ha := S.clamp_bd a
  have hb := S.clamp_bd b
  by_cases h0 : S.clamp a = 0 ∨ S.clamp b = 0
  · have e : S.mul a b = 0 := by unfold S.mul; rcases h0 with h | h <;> rw [h] <;> simp <;> exact S.clamp_id (by omega) (by omega)
    rw [e]
    exact rmul_zero a b _ _ w rfl rfl h0
  · by_cases h1 : S.clamp a < 0 <;> by_cases h2 : S.clamp b < 0
    · exact rmul_nn a b (-S.clamp a) (-S.clamp b) w (by rw [Int.neg_neg]; exact rfl) (by rw [Int.neg_neg]; exact rfl) (by omega) (by omega) (by omega) (by omega)
    · exact rmul_np a b (-S.clamp a) (S.clamp b) w (by rw [Int.neg_neg]; exact rfl) rfl (by omega) (by omega) (by omega) (by omega)
    · exact rmul_pn a b (S.clamp a) (-S.clamp b) w rfl (by rw [Int.neg_neg]; exact rfl) (by omega) (by omega) (by omega) (by omega)
    · exact rmul_pp a b _ _ w rfl rfl (by omega) ha.2 (by omega) hb.2
end Go.Proofs.Ytdppabnhflaoeaa
