/- Layer 9: what PolicyAsked and PolicyMore come to. -/
import Derived.Test.YtgjepgnbkfbodaaPolAlive
namespace Go.Proofs.Ytgjepgnbkfbodaa
set_option linter.unusedVariables false
set_option linter.unusedSimpArgs false
open Go.ChangeShapes Go.WideShapes Go.ChangeAt Go.RowKit

theorem pol_box {w : World} {g : Nat} (F : Nat → Int) (h : Blo w g 31 (pcs F)) : w.cell? ⟨g, 0, none⟩ = some (.int .i64 (F 6)) ∧ w.cell? ⟨g, 1, none⟩ = some (.int .i64 (F 7)) ∧ w.cell? ⟨g, 2, none⟩ = some (.int .i64 (F 8)) ∧ w.cell? ⟨g, 3, none⟩ = some (.int .i64 (F 9)) ∧ w.cell? ⟨g, 4, none⟩ = some (.int .i64 (F 10)) ∧ w.cell? ⟨g, 5, none⟩ = some (.int .i64 (F 11)) ∧ w.cell? ⟨g, 6, none⟩ = some (.int .i64 (F 12)) :=
  ⟨by simpa using h.cell 0, by simpa using h.cell 1, by simpa using h.cell 2, by simpa using h.cell 3, by simpa using h.cell 4, by simpa using h.cell 5, by simpa using h.cell 6⟩

set_option maxRecDepth 100000 in
set_option maxHeartbeats 4000000 in
theorem polasked_main (F : Nat → Int) (x : Int) (w : World) : Calls Try.prog 4 #[pv F, .int .i64 x] w fun e w' => e = .returned (.bool true) ∧ Below w.heap.size w w' := by
  obtain ⟨w1, hw1⟩ : ∃ W, w.alloc (.cells (pcs F) 31) = W := ⟨_, rfl⟩
  have hb1 : Below w.heap.size w w1 := by rw [← hw1]; exact b_alloc _ _
  have hX1 : Blo w1 w.heap.size 31 (pcs F) := by rw [← hw1]; exact Blo.made _ _ _
  have HW1 := Lib.hid hw1
  clear hw1
  go_enter Try.func4, Try.ntmps4
  go_wp2_with fail
  refine (polalive_any _).mono ?_
  rintro e w2 ⟨rfl, hb2⟩
  rw [HW1.out] at hb2
  have hX2 := hX1.new hb2
  have hb02 := below_new hb1 hb2
  obtain ⟨k0, k1, k2, k3, k4, k5, k6⟩ := pol_box F hX2
  clear hb1 hb2 hX1
  go_wp2_with fail
  refine (asked_any F x _).mono ?_
  rintro e w3 ⟨rfl, hb3⟩
  clear k0 k1 k2 k3 k4 k5 k6
  have hX3 := hX2.new hb3
  have hb03 := below_new hb02 hb3
  obtain ⟨k0, k1, k2, k3, k4, k5, k6⟩ := pol_box F hX3
  clear hb02 hb3 hX2
  go_wp2_with fail
  refine (rasked_any F x _).mono ?_
  rintro e w4 ⟨rfl, hb4⟩
  have hb04 := below_new hb03 hb4
  clear k0 k1 k2 k3 k4 k5 k6
  go_wp2
  go_ret
  exact ⟨rfl, hb04⟩

/-! PolicyMore's numbers -/
theorem ask_lo {F : Nat → Int} (hr : E.rp F = true) (x : Int) : F 6 ≤ askN F x ∧ askN F x ≤ F 7 ∧ askE F = 0 := by
  have h := hr
  simp [E.rp] at h
  unfold askN askE
  rw [if_pos hr, if_pos hr]
  unfold S.within
  refine ⟨?_, ?_, rfl⟩ <;> repeat' split
  all_goals omega
theorem within_mono {a b lo hi : Int} (h : a ≤ b) (k : lo ≤ hi) : S.within a lo hi ≤ S.within b lo hi := by
  unfold S.within
  repeat' split
  all_goals omega
theorem ask_mono {F : Nat → Int} (hr : E.rp F = true) {x y : Int} (hxy : x ≤ y) : askN F x ≤ askN F y := by
  have h := hr
  simp [E.rp] at h
  unfold askN
  rw [if_pos hr, if_pos hr]
  refine within_mono ?_ (by omega)
  unfold S.cdiv
  exact S.up_mono (S.clamp_pos (by omega)) (S.clamp_mono (by split <;> split <;> omega))
theorem ask_enough {F : Nat → Int} (hr : E.rp F = true) {x z : Int} (hz : z = S.clamp (if x < 0 then 0 else x)) : (F 7 ≤ askN F x ∨ z ≤ askN F x * F 8) ∧ (askN F x ≤ F 6 ∨ (askN F x - 1) * F 8 < z) := by
  have h := hr
  simp [E.rp] at h
  unfold askN
  rw [if_pos hr]
  unfold S.cdiv
  rw [← hz]
  have hg : S.clamp (F 8) = F 8 := S.clamp_id (by omega) (by omega)
  rw [hg]
  obtain ⟨h1, h2⟩ := S.up_spec (a := z) (b := F 8) (by omega)
  generalize S.up z (F 8) = q at *
  unfold S.within
  split
  · refine ⟨.inl (by omega), .inr ?_⟩
    have : (F 7 - 1) * F 8 ≤ (q - 1) * F 8 := Int.mul_le_mul_of_nonneg_right (by omega) (by omega)
    rw [Int.sub_mul q] at this
    omega
  · split
    · refine ⟨.inr ?_, .inl (by omega)⟩
      have : q * F 8 ≤ F 6 * F 8 := Int.mul_le_mul_of_nonneg_right (by omega) (by omega)
      omega
    · refine ⟨.inr h1, .inr ?_⟩
      rw [Int.sub_mul]
      omega

set_option maxRecDepth 100000 in
set_option maxHeartbeats 8000000 in
theorem polmore_main (F : Nat → Int) (x y : Int) (w : World) : Calls Try.prog 6 #[pv F, .int .i64 x, .int .i64 y] w fun e w' => e = .returned (.bool true) ∧ Below w.heap.size w w' := by
  obtain ⟨w1, hw1⟩ : ∃ W, w.alloc (.cells (pcs F) 31) = W := ⟨_, rfl⟩
  have hb1 : Below w.heap.size w w1 := by rw [← hw1]; exact b_alloc _ _
  have hX1 : Blo w1 w.heap.size 31 (pcs F) := by rw [← hw1]; exact Blo.made _ _ _
  have HW1 := Lib.hid hw1
  have hx := fun W => asked_any F x W
  have hy := fun W => asked_any F y W
  have hr := fun W => rightpol_any F W
  cases hrp : E.rp F with
  | false =>
    have hae : askE F = 2 := by unfold askE; rw [hrp]; rfl
    rw [hae] at hx hy
    rw [hrp] at hr
    clear hw1 hae
    go_enter Try.func6, Try.ntmps6
    go_wp2_with fail
    refine (polalive_any _).mono ?_
    rintro e w2 ⟨rfl, hb2⟩
    rw [HW1.out] at hb2
    have hX2 := hX1.new hb2
    have hb02 := below_new hb1 hb2
    obtain ⟨k0, k1, k2, k3, k4, k5, k6⟩ := pol_box F hX2
    clear hb1 hb2 hX1
    go_wp2_with fail
    refine (hx _).mono ?_
    rintro e w3 ⟨rfl, hb3⟩
    clear k0 k1 k2 k3 k4 k5 k6
    have hX3 := hX2.new hb3
    have hb03 := below_new hb02 hb3
    obtain ⟨k0, k1, k2, k3, k4, k5, k6⟩ := pol_box F hX3
    clear hb02 hb3 hX2
    go_wp2_with fail
    refine (hy _).mono ?_
    rintro e w4 ⟨rfl, hb4⟩
    clear k0 k1 k2 k3 k4 k5 k6
    have hX4 := hX3.new hb4
    have hb04 := below_new hb03 hb4
    obtain ⟨k0, k1, k2, k3, k4, k5, k6⟩ := pol_box F hX4
    clear hb03 hb4 hX3
    go_wp2_with fail
    refine (hr _).mono ?_
    rintro e w5 ⟨rfl, hb5⟩
    have hb05 := below_new hb04 hb5
    clear k0 k1 k2 k3 k4 k5 k6
    go_wp2
    go_ret
    exact ⟨rfl, hb05⟩
  | true =>
    obtain ⟨h1, h2, hae⟩ := ask_lo hrp x
    rw [hae] at hx hy
    rw [hrp] at hr
    obtain ⟨z, hz⟩ : ∃ z, z = S.clamp (if x < 0 then 0 else x) := ⟨_, rfl⟩
    obtain ⟨h3, h4⟩ := ask_enough hrp hz
    have h5 : x ≤ y → askN F x ≤ askN F y := fun h => ask_mono hrp h
    have hG : 1 ≤ F 8 ∧ F 8 ≤ 1073741824 ∧ 0 ≤ F 6 ∧ F 7 ≤ 1000 := by
      have h := hrp
      simp [E.rp] at h
      omega
    obtain ⟨n, hn⟩ : ∃ n, n = askN F x := ⟨_, rfl⟩
    obtain ⟨m, hm⟩ : ∃ m, m = askN F y := ⟨_, rfl⟩
    rw [← hn] at h1 h2 h3 h4 h5 hx
    rw [← hm] at h5 hy
    obtain ⟨q, hq⟩ : ∃ q, q = n * F 8 := ⟨_, rfl⟩
    have hq2 : (n - 1) * F 8 = q - F 8 := by rw [Int.sub_mul, ← hq]; omega
    have hqb : 0 ≤ q ∧ q ≤ 1073741824000 := by
      rw [hq]
      refine ⟨Int.mul_nonneg (by omega) (by omega), ?_⟩
      have : n * F 8 ≤ 1000 * F 8 := Int.mul_le_mul_of_nonneg_right (by omega) (by omega)
      omega
    rw [hq2] at h4
    rw [← hq] at h3
    have w1' : IntKind.i64.wrap (n * F 8) = q := by rw [← hq]; exact IntWalk.i64_in _ (by omega)
    have w2' : IntKind.i64.wrap (n - 1) = n - 1 := IntWalk.i64_in _ (by omega)
    have w3' : IntKind.i64.wrap ((n - 1) * F 8) = q - F 8 := by rw [hq2]; exact IntWalk.i64_in _ (by omega)
    have g1 : ¬ n < F 6 := by omega
    have g2 : ¬ F 7 < n := by omega
    have HZ := Lib.hid hz
    have H3 := Lib.hid h3
    have H4 := Lib.hid h4
    have H5 := Lib.hid h5
    clear hw1 hae hrp h1 h2 h3 h4 h5 hz hn hm hq hq2 hqb hG
    go_enter Try.func6, Try.ntmps6
    go_wp2_with fail
    refine (polalive_any _).mono ?_
    rintro e w2 ⟨rfl, hb2⟩
    rw [HW1.out] at hb2
    have hX2 := hX1.new hb2
    have hb02 := below_new hb1 hb2
    obtain ⟨k0, k1, k2, k3, k4, k5, k6⟩ := pol_box F hX2
    clear hb1 hb2 hX1
    go_wp2_with fail
    refine (hx _).mono ?_
    rintro e w3 ⟨rfl, hb3⟩
    clear k0 k1 k2 k3 k4 k5 k6
    have hX3 := hX2.new hb3
    have hb03 := below_new hb02 hb3
    obtain ⟨k0, k1, k2, k3, k4, k5, k6⟩ := pol_box F hX3
    clear hb02 hb3 hX2
    go_wp2_with fail
    refine (hy _).mono ?_
    rintro e w4 ⟨rfl, hb4⟩
    clear k0 k1 k2 k3 k4 k5 k6
    have hX4 := hX3.new hb4
    have hb04 := below_new hb03 hb4
    obtain ⟨k0, k1, k2, k3, k4, k5, k6⟩ := pol_box F hX4
    clear hb03 hb4 hX3
    go_wp2_with fail
    refine (hr _).mono ?_
    rintro e w5 ⟨rfl, hb5⟩
    clear k0 k1 k2 k3 k4 k5 k6
    have hX5 := hX4.new hb5
    have hb05 := below_new hb04 hb5
    obtain ⟨k0, k1, k2, k3, k4, k5, k6⟩ := pol_box F hX5
    clear hb04 hb5 hX4 hx hy hr
    have H6 : Hid (z = if x < 0 then 0 else if 1099511627776 < x then 1099511627776 else x) := Lib.hid (by
      rw [HZ.out]
      split
      · exact S.clamp_id (by omega) (by omega)
      · split
        · exact S.clamp_hi (by omega)
        · exact S.clamp_id (by omega) (by omega))
    have h7 : (x < 0 ∧ z = 0) ∨ (0 ≤ x ∧ x ≤ 1099511627776 ∧ z = x) ∨ (1099511627776 < x ∧ z = 1099511627776) := by
      have := H6.out
      split at this
      · exact .inl ⟨by assumption, this⟩
      · split at this
        · exact .inr (.inr ⟨by assumption, this⟩)
        · exact .inr (.inl ⟨by omega, by omega, this⟩)
    clear HZ H6
    rcases h7 with ⟨hx0, hz0⟩ | ⟨hx0, hx1, hz0⟩ | ⟨hx1, hz0⟩
    · have HZ0 := Lib.hid hz0
      clear hz0
      go_wp2
      all_goals
        go_ret
        refine ⟨ret_bool ?_, hb05⟩
        have a3 := H3.out
        have a4 := H4.out
        have a5 := H5.out
        have a6 := HZ0.out
        first
          | rfl
          | (exfalso; omega)
          | (simp only [Bool.and_eq_true, Bool.or_eq_true, decide_eq_true_eq]; omega)
    · have HZ0 := Lib.hid hz0
      have hx2 : ¬ x < 0 := by omega
      have hx3 : ¬ 1099511627776 < x := by omega
      clear hz0
      go_wp2
      all_goals
        go_ret
        refine ⟨ret_bool ?_, hb05⟩
        have a3 := H3.out
        have a4 := H4.out
        have a5 := H5.out
        have a6 := HZ0.out
        first
          | rfl
          | (exfalso; omega)
          | (simp only [Bool.and_eq_true, Bool.or_eq_true, decide_eq_true_eq]; omega)
    · have HZ0 := Lib.hid hz0
      have hx2 : ¬ x < 0 := by omega
      have hx3 : 0 < x := by omega
      clear hz0
      go_wp2
      all_goals
        go_ret
        refine ⟨ret_bool ?_, hb05⟩
        have a3 := H3.out
        have a4 := H4.out
        have a5 := H5.out
        have a6 := HZ0.out
        first
          | rfl
          | (exfalso; omega)
          | (simp only [Bool.and_eq_true, Bool.or_eq_true, decide_eq_true_eq]; omega)
end Go.Proofs.Ytgjepgnbkfbodaa
