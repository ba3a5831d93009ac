/- What the document's own answers of layer 1 (murmurref01) return: the same plain mathematics. -/
import Derived.Test.YtjjeclalghobaaaSat
namespace Go.Proofs.Ytjjeclalghobaaa
open Go.ChangeShapes Go.WideShapes Go.ChangeAt Go.RowKit

set_option maxHeartbeats 400000 in
theorem rwithin_any (n lo hi : Int) (w : World) :
    Calls Try.prog 20 #[.int .i64 n, .int .i64 lo, .int .i64 hi] w fun e w' => e = .returned (.int .i64 (S.within n lo hi)) ∧ w = w' := by
  unfold S.within
  by_cases h1 : hi < n
  · rw [if_pos h1]
    go_enter Try.func20, Try.ntmps20
    go_wp2
    go_ret
    exact ⟨rfl, rfl⟩
  · rw [if_neg h1]
    by_cases h2 : n < lo
    · rw [if_pos h2]
      go_enter Try.func20, Try.ntmps20
      go_wp2
      go_ret
      exact ⟨rfl, rfl⟩
    · rw [if_neg h2]
      go_enter Try.func20, Try.ntmps20
      go_wp2
      go_ret
      exact ⟨rfl, rfl⟩

set_option maxHeartbeats 400000 in
theorem rclamp_any (n : Int) (w : World) :
    Calls Try.prog 12 #[.int .i64 n] w fun e w' => e = .returned (.int .i64 (S.clamp n)) ∧ w = w' := by
  by_cases h1 : n < -1099511627776
  · rw [S.clamp_lo (by omega)]
    go_enter Try.func12, Try.ntmps12
    go_wp2
    go_ret
    exact ⟨rfl, rfl⟩
  · by_cases h2 : 1099511627776 < n
    · rw [S.clamp_hi (by omega)]
      go_enter Try.func12, Try.ntmps12
      go_wp2
      go_ret
      exact ⟨rfl, rfl⟩
    · rw [S.clamp_id (by omega) (by omega)]
      go_enter Try.func12, Try.ntmps12
      go_wp2
      go_ret
      exact ⟨rfl, rfl⟩

set_option maxHeartbeats 400000 in
theorem radd_any (a b : Int) (w : World) :
    Calls Try.prog 14 #[.int .i64 a, .int .i64 b] w fun e w' => e = .returned (.int .i64 (S.add a b)) ∧ w = w' := by
  have ha := S.clamp_bd a
  have hb := S.clamp_bd b
  unfold S.add
  go_enter Try.func14, Try.ntmps14
  go_wp2_with fail
  refine (rclamp_any _ _).mono ?_
  rintro e w' ⟨rfl, rfl⟩
  go_wp2_with fail
  refine (rclamp_any _ _).mono ?_
  rintro e w' ⟨rfl, rfl⟩
  go_wp2_with fail
  refine (rclamp_any _ _).mono ?_
  rintro e w' ⟨rfl, rfl⟩
  go_wp2
  go_ret
  exact ⟨rfl, rfl⟩

set_option maxHeartbeats 400000 in
theorem rsub_any (a b : Int) (w : World) :
    Calls Try.prog 16 #[.int .i64 a, .int .i64 b] w fun e w' => e = .returned (.int .i64 (S.sub a b)) ∧ w = w' := by
  have ha := S.clamp_bd a
  have hb := S.clamp_bd b
  unfold S.sub
  go_enter Try.func16, Try.ntmps16
  go_wp2_with fail
  refine (rclamp_any _ _).mono ?_
  rintro e w' ⟨rfl, rfl⟩
  go_wp2_with fail
  refine (rclamp_any _ _).mono ?_
  rintro e w' ⟨rfl, rfl⟩
  go_wp2_with fail
  refine (rclamp_any _ _).mono ?_
  rintro e w' ⟨rfl, rfl⟩
  go_wp2
  go_ret
  exact ⟨rfl, rfl⟩

set_option maxHeartbeats 400000 in
theorem rcdiv_no (a b : Int) (w : World) (h : b ≤ 0) :
    Calls Try.prog 10 #[.int .i64 a, .int .i64 b] w fun e w' => e = .returned (.tuple #[.int .i64 0, .int .i64 2]) ∧ w = w' := by
  have hb := S.clamp_nonpos h
  go_enter Try.func10, Try.ntmps10
  go_wp2_with fail
  refine (rclamp_any _ _).mono ?_
  rintro e w' ⟨rfl, rfl⟩
  go_wp2_with fail
  refine (rclamp_any _ _).mono ?_
  rintro e w' ⟨rfl, rfl⟩
  go_wp2
  go_ret2
  exact ⟨rfl, rfl⟩

theorem ret_tup {k l : IntKind} {a b c : Int} (h : a = b) : Ending.returned (.tuple #[.int k a, .int l c]) = .returned (.tuple #[.int k b, .int l c]) := by rw [h]

set_option maxHeartbeats 400000 in
theorem rcdiv_yes (a b : Int) (w : World) (h : 0 < b) :
    Calls Try.prog 10 #[.int .i64 a, .int .i64 b] w fun e w' => e = .returned (.tuple #[.int .i64 (S.cdiv a b), .int .i64 0]) ∧ w = w' := by
  have ha := S.clamp_bd a
  have hb := S.clamp_bd b
  have hp := S.clamp_pos h
  unfold S.cdiv
  generalize hA : S.clamp a = A at *
  generalize hB : S.clamp b = B at *
  have HA := Lib.hid hA
  have HB := Lib.hid hB
  clear hA hB
  have ht := S.tdiv_mul_bd hp ha.1 ha.2 hb.2
  have hu := S.up_bd hp ha.1 ha.2
  by_cases hr : 0 < A.tmod B
  · have e := S.up_tdiv_pos hp hr
    have hlt := S.tdiv_lt_iff.2 hr
    have e1 : -1099511627776 ≤ A.tdiv B + 1 := by omega
    have e2 : A.tdiv B + 1 ≤ 1099511627776 := by omega
    have E := Lib.hid e; clear e hu hr
    go_enter Try.func10, Try.ntmps10
    go_wp2_with fail
    refine (rclamp_any _ _).mono ?_
    rintro e w' ⟨rfl, rfl⟩
    rw [HA.out]
    go_wp2_with fail
    refine (rclamp_any _ _).mono ?_
    rintro e w' ⟨rfl, rfl⟩
    rw [HB.out]
    go_wp2
    go_ret2
    exact ⟨ret_tup E.out, rfl⟩
  · have hlt : ¬ A.tdiv B * B < A := fun k => hr (S.tdiv_lt_iff.1 k)
    have E := Lib.hid (S.up_tdiv_neg hp hr); clear hu hr
    go_enter Try.func10, Try.ntmps10
    go_wp2_with fail
    refine (rclamp_any _ _).mono ?_
    rintro e w' ⟨rfl, rfl⟩
    rw [HA.out]
    go_wp2_with fail
    refine (rclamp_any _ _).mono ?_
    rintro e w' ⟨rfl, rfl⟩
    rw [HB.out]
    go_wp2
    go_ret2
    exact ⟨ret_tup E.out, rfl⟩

set_option maxHeartbeats 400000 in
theorem rmul_zero (a b A B : Int) (w : World) (HA : Hid (S.clamp a = A)) (HB : Hid (S.clamp b = B)) (h : A = 0 ∨ B = 0) :
    Calls Try.prog 18 #[.int .i64 a, .int .i64 b] w fun e w' => e = .returned (.int .i64 0) ∧ w = w' := by
  by_cases hA : A = 0
  · subst hA
    go_enter Try.func18, Try.ntmps18
    go_wp2_with fail
    refine (rclamp_any _ _).mono ?_
    rintro e w' ⟨rfl, rfl⟩
    rw [HA.out]
    go_wp2_with fail
    refine (rclamp_any _ _).mono ?_
    rintro e w' ⟨rfl, rfl⟩
    rw [HB.out]
    go_wp2
    go_ret
    exact ⟨rfl, rfl⟩
  · obtain rfl : B = 0 := by omega
    have hA1 : ((A : Int) == 0) = false := by simpa using hA
    clear h hA
    go_enter Try.func18, Try.ntmps18
    go_wp2_with fail
    refine (rclamp_any _ _).mono ?_
    rintro e w' ⟨rfl, rfl⟩
    rw [HA.out]
    go_wp2_with fail
    refine (rclamp_any _ _).mono ?_
    rintro e w' ⟨rfl, rfl⟩
    rw [HB.out]
    go_wp2
    go_ret
    exact ⟨rfl, rfl⟩

set_option maxHeartbeats 400000 in
theorem rmul_pp (a b A B : Int) (w : World) (HA : Hid (S.clamp a = A)) (HB : Hid (S.clamp b = B)) (h0 : 0 < A) (h1 : A ≤ 1099511627776) (h2 : 0 < B) (h3 : B ≤ 1099511627776) :
    Calls Try.prog 18 #[.int .i64 a, .int .i64 b] w fun e w' => e = .returned (.int .i64 (S.mul a b)) ∧ w = w' := by
  have hA0 : (A == 0) = false := by simp; omega
  have hB0 : (B == 0) = false := by simp; omega
  have hA2 : (-A == 0) = false := by simp; omega
  have hB2 : (-B == 0) = false := by simp; omega
  have hA1 : decide (A < 0) = false := by simp; omega
  have hB1 : decide (B < 0) = false := by simp; omega
  have hx : (decide (A < 0) == decide (B < 0)) = true := by
    rw [decide_eq_false (by omega), decide_eq_false (by omega)]; rfl
  have HmA := Lib.hid (S.mag_id (n := A) (by omega))
  have HmB := Lib.hid (S.mag_id (n := B) (by omega))
  cases hk : S.prodOk A B
  · have hf := S.mul_far HA.out HB.out (S.mag_mul_gt (by omega) hk)
    have hd : decide (A ≤ 1099511627776 / B) = false := by have h := hk; unfold S.prodOk at h; rw [HmA.out, HmB.out] at h; exact h
    rw [hf, show S.prodFar A B = 1099511627776 from by unfold S.prodFar; simp only [bne, hx, Bool.not_true, Bool.false_eq_true, if_false]]
    clear hf hk
    go_enter Try.func18, Try.ntmps18
    go_wp2_with fail
    refine (rclamp_any _ _).mono ?_
    rintro e w' ⟨rfl, rfl⟩
    rw [HA.out]
    go_wp2_with fail
    refine (rclamp_any _ _).mono ?_
    rintro e w' ⟨rfl, rfl⟩
    rw [HB.out]
    go_wp2
    go_ret
    exact ⟨rfl, rfl⟩
  · have hl := S.mag_mul_le (by omega) hk
    have hf := S.mul_near HA.out HB.out hl
    have hd : decide (A ≤ 1099511627776 / B) = true := by have h := hk; unfold S.prodOk at h; rw [HmA.out, HmB.out] at h; exact h
    rw [HmA.out, HmB.out] at hl
    have hl0 : 0 ≤ A * B := Int.mul_nonneg (by omega) (by omega)
    have HF := Lib.hid hf
    clear hf hk
    go_enter Try.func18, Try.ntmps18
    go_wp2_with fail
    refine (rclamp_any _ _).mono ?_
    rintro e w' ⟨rfl, rfl⟩
    rw [HA.out]
    go_wp2_with fail
    refine (rclamp_any _ _).mono ?_
    rintro e w' ⟨rfl, rfl⟩
    rw [HB.out]
    go_wp2
    go_ret
    exact ⟨ret_int HF.out.symm, rfl⟩

set_option maxHeartbeats 400000 in
theorem rmul_pn (a b A B : Int) (w : World) (HA : Hid (S.clamp a = A)) (HB : Hid (S.clamp b = (-B))) (h0 : 0 < A) (h1 : A ≤ 1099511627776) (h2 : 0 < B) (h3 : B ≤ 1099511627776) :
    Calls Try.prog 18 #[.int .i64 a, .int .i64 b] w fun e w' => e = .returned (.int .i64 (S.mul a b)) ∧ w = w' := by
  have hA0 : (A == 0) = false := by simp; omega
  have hB0 : (B == 0) = false := by simp; omega
  have hA2 : (-A == 0) = false := by simp; omega
  have hB2 : (-B == 0) = false := by simp; omega
  have hA1 : decide (A < 0) = false := by simp; omega
  have hB1 : decide (B < 0) = false := by simp; omega
  have hx : (decide (A < 0) == decide ((-B) < 0)) = false := by
    rw [decide_eq_false (by omega), decide_eq_true (by omega)]; rfl
  have HmA := Lib.hid (S.mag_id (n := A) (by omega))
  have HmB : Hid (S.mag (-B) = B) := by have := S.mag_neg (n := -B) (by omega); rw [Int.neg_neg] at this; exact this
  cases hk : S.prodOk A (-B)
  · have hf := S.mul_far HA.out HB.out (S.mag_mul_gt (by omega) hk)
    have hd : decide (A ≤ 1099511627776 / B) = false := by have h := hk; unfold S.prodOk at h; rw [HmA.out, HmB.out] at h; exact h
    rw [hf, show S.prodFar A (-B) = -1099511627776 from by unfold S.prodFar; simp only [bne, hx, Bool.not_false, if_true]]
    clear hf hk
    go_enter Try.func18, Try.ntmps18
    go_wp2_with fail
    refine (rclamp_any _ _).mono ?_
    rintro e w' ⟨rfl, rfl⟩
    rw [HA.out]
    go_wp2_with fail
    refine (rclamp_any _ _).mono ?_
    rintro e w' ⟨rfl, rfl⟩
    rw [HB.out]
    go_wp2
    go_ret
    exact ⟨rfl, rfl⟩
  · have hl := S.mag_mul_le (by omega) hk
    have hf := S.mul_near HA.out HB.out hl
    have hd : decide (A ≤ 1099511627776 / B) = true := by have h := hk; unfold S.prodOk at h; rw [HmA.out, HmB.out] at h; exact h
    rw [HmA.out, HmB.out] at hl
    have hl0 : 0 ≤ A * B := Int.mul_nonneg (by omega) (by omega)
    have HF := Lib.hid hf
    clear hf hk
    go_enter Try.func18, Try.ntmps18
    go_wp2_with fail
    refine (rclamp_any _ _).mono ?_
    rintro e w' ⟨rfl, rfl⟩
    rw [HA.out]
    go_wp2_with fail
    refine (rclamp_any _ _).mono ?_
    rintro e w' ⟨rfl, rfl⟩
    rw [HB.out]
    go_wp2
    go_ret
    exact ⟨ret_int (by rw [HF.out, Int.mul_neg]), rfl⟩

set_option maxHeartbeats 400000 in
theorem rmul_np (a b A B : Int) (w : World) (HA : Hid (S.clamp a = (-A))) (HB : Hid (S.clamp b = B)) (h0 : 0 < A) (h1 : A ≤ 1099511627776) (h2 : 0 < B) (h3 : B ≤ 1099511627776) :
    Calls Try.prog 18 #[.int .i64 a, .int .i64 b] w fun e w' => e = .returned (.int .i64 (S.mul a b)) ∧ w = w' := by
  have hA0 : (A == 0) = false := by simp; omega
  have hB0 : (B == 0) = false := by simp; omega
  have hA2 : (-A == 0) = false := by simp; omega
  have hB2 : (-B == 0) = false := by simp; omega
  have hA1 : decide (A < 0) = false := by simp; omega
  have hB1 : decide (B < 0) = false := by simp; omega
  have hx : (decide ((-A) < 0) == decide (B < 0)) = false := by
    rw [decide_eq_true (by omega), decide_eq_false (by omega)]; rfl
  have HmA : Hid (S.mag (-A) = A) := by have := S.mag_neg (n := -A) (by omega); rw [Int.neg_neg] at this; exact this
  have HmB := Lib.hid (S.mag_id (n := B) (by omega))
  cases hk : S.prodOk (-A) B
  · have hf := S.mul_far HA.out HB.out (S.mag_mul_gt (by omega) hk)
    have hd : decide (A ≤ 1099511627776 / B) = false := by have h := hk; unfold S.prodOk at h; rw [HmA.out, HmB.out] at h; exact h
    rw [hf, show S.prodFar (-A) B = -1099511627776 from by unfold S.prodFar; simp only [bne, hx, Bool.not_false, if_true]]
    clear hf hk
    go_enter Try.func18, Try.ntmps18
    go_wp2_with fail
    refine (rclamp_any _ _).mono ?_
    rintro e w' ⟨rfl, rfl⟩
    rw [HA.out]
    go_wp2_with fail
    refine (rclamp_any _ _).mono ?_
    rintro e w' ⟨rfl, rfl⟩
    rw [HB.out]
    go_wp2
    go_ret
    exact ⟨rfl, rfl⟩
  · have hl := S.mag_mul_le (by omega) hk
    have hf := S.mul_near HA.out HB.out hl
    have hd : decide (A ≤ 1099511627776 / B) = true := by have h := hk; unfold S.prodOk at h; rw [HmA.out, HmB.out] at h; exact h
    rw [HmA.out, HmB.out] at hl
    have hl0 : 0 ≤ A * B := Int.mul_nonneg (by omega) (by omega)
    have HF := Lib.hid hf
    clear hf hk
    go_enter Try.func18, Try.ntmps18
    go_wp2_with fail
    refine (rclamp_any _ _).mono ?_
    rintro e w' ⟨rfl, rfl⟩
    rw [HA.out]
    go_wp2_with fail
    refine (rclamp_any _ _).mono ?_
    rintro e w' ⟨rfl, rfl⟩
    rw [HB.out]
    go_wp2
    go_ret
    exact ⟨ret_int (by rw [HF.out, Int.neg_mul]), rfl⟩

set_option maxHeartbeats 400000 in
theorem rmul_nn (a b A B : Int) (w : World) (HA : Hid (S.clamp a = (-A))) (HB : Hid (S.clamp b = (-B))) (h0 : 0 < A) (h1 : A ≤ 1099511627776) (h2 : 0 < B) (h3 : B ≤ 1099511627776) :
    Calls Try.prog 18 #[.int .i64 a, .int .i64 b] w fun e w' => e = .returned (.int .i64 (S.mul a b)) ∧ w = w' := by
  have hA0 : (A == 0) = false := by simp; omega
  have hB0 : (B == 0) = false := by simp; omega
  have hA2 : (-A == 0) = false := by simp; omega
  have hB2 : (-B == 0) = false := by simp; omega
  have hA1 : decide (A < 0) = false := by simp; omega
  have hB1 : decide (B < 0) = false := by simp; omega
  have hx : (decide ((-A) < 0) == decide ((-B) < 0)) = true := by
    rw [decide_eq_true (by omega), decide_eq_true (by omega)]; rfl
  have HmA : Hid (S.mag (-A) = A) := by have := S.mag_neg (n := -A) (by omega); rw [Int.neg_neg] at this; exact this
  have HmB : Hid (S.mag (-B) = B) := by have := S.mag_neg (n := -B) (by omega); rw [Int.neg_neg] at this; exact this
  cases hk : S.prodOk (-A) (-B)
  · have hf := S.mul_far HA.out HB.out (S.mag_mul_gt (by omega) hk)
    have hd : decide (A ≤ 1099511627776 / B) = false := by have h := hk; unfold S.prodOk at h; rw [HmA.out, HmB.out] at h; exact h
    rw [hf, show S.prodFar (-A) (-B) = 1099511627776 from by unfold S.prodFar; simp only [bne, hx, Bool.not_true, Bool.false_eq_true, if_false]]
    clear hf hk
    go_enter Try.func18, Try.ntmps18
    go_wp2_with fail
    refine (rclamp_any _ _).mono ?_
    rintro e w' ⟨rfl, rfl⟩
    rw [HA.out]
    go_wp2_with fail
    refine (rclamp_any _ _).mono ?_
    rintro e w' ⟨rfl, rfl⟩
    rw [HB.out]
    go_wp2
    go_ret
    exact ⟨rfl, rfl⟩
  · have hl := S.mag_mul_le (by omega) hk
    have hf := S.mul_near HA.out HB.out hl
    have hd : decide (A ≤ 1099511627776 / B) = true := by have h := hk; unfold S.prodOk at h; rw [HmA.out, HmB.out] at h; exact h
    rw [HmA.out, HmB.out] at hl
    have hl0 : 0 ≤ A * B := Int.mul_nonneg (by omega) (by omega)
    have HF := Lib.hid hf
    clear hf hk
    go_enter Try.func18, Try.ntmps18
    go_wp2_with fail
    refine (rclamp_any _ _).mono ?_
    rintro e w' ⟨rfl, rfl⟩
    rw [HA.out]
    go_wp2_with fail
    refine (rclamp_any _ _).mono ?_
    rintro e w' ⟨rfl, rfl⟩
    rw [HB.out]
    go_wp2
    go_ret
    exact ⟨ret_int (by rw [HF.out, Int.neg_mul_neg]), rfl⟩

theorem rmul_any (a b : Int) (w : World) :
    Calls Try.prog 18 #[.int .i64 a, .int .i64 b] w fun e w' => e = .returned (.int .i64 (S.mul a b)) ∧ w = w' := by
  have ha := S.clamp_bd a
  have hb := S.clamp_bd b
  by_cases h0 : S.clamp a = 0 ∨ S.clamp b = 0
  · have e : S.mul a b = 0 := by unfold S.mul; rcases h0 with h | h <;> rw [h] <;> simp <;> exact S.clamp_id (by omega) (by omega)
    rw [e]
    exact rmul_zero a b _ _ w rfl rfl h0
  · by_cases h1 : S.clamp a < 0 <;> by_cases h2 : S.clamp b < 0
    · exact rmul_nn a b (-S.clamp a) (-S.clamp b) w (by rw [Int.neg_neg]; exact rfl) (by rw [Int.neg_neg]; exact rfl) (by omega) (by omega) (by omega) (by omega)
    · exact rmul_np a b (-S.clamp a) (S.clamp b) w (by rw [Int.neg_neg]; exact rfl) rfl (by omega) (by omega) (by omega) (by omega)
    · exact rmul_pn a b (S.clamp a) (-S.clamp b) w rfl (by rw [Int.neg_neg]; exact rfl) (by omega) (by omega) (by omega) (by omega)
    · exact rmul_pp a b _ _ w rfl rfl (by omega) ha.2 (by omega) hb.2
end Go.Proofs.Ytjjeclalghobaaa
