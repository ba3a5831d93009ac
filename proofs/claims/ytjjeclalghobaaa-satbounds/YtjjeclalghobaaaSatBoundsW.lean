/- The walk of the law SatBounds. -/
import Derived.Test.YtjjeclalghobaaaSatAlive
namespace Go.Proofs.Ytjjeclalghobaaa
open Go.ChangeShapes Go.WideShapes Go.ChangeAt Go.RowKit

theorem add_comm (a b : Int) : S.add b a = S.add a b := by unfold S.add; rw [Int.add_comm]
theorem mul_comm (a b : Int) : S.mul b a = S.mul a b := by unfold S.mul; rw [Int.mul_comm]
theorem sub_neg (a b : Int) : S.sub b a = -S.sub a b := by
  unfold S.sub; rw [← S.clamp_neg]; congr 1; omega
theorem add_mono (a b c : Int) (h : b ≤ c) : S.add a b ≤ S.add a c := by
  unfold S.add; have := S.clamp_mono h; exact S.clamp_mono (by omega)
theorem sub_anti (a b c : Int) (h : b ≤ c) : S.sub a c ≤ S.sub a b := by
  unfold S.sub; have := S.clamp_mono h; exact S.clamp_mono (by omega)
theorem mul_mono (a b c : Int) (ha : 0 ≤ a) (h : b ≤ c) : S.mul a b ≤ S.mul a c := by
  unfold S.mul; exact S.clamp_mono (Int.mul_le_mul_of_nonneg_left (S.clamp_mono h) (S.clamp_nonneg ha))

theorem Try.und4 : Try.prog.underlying 32 = some (.array 4 3) := by kernel_rfl

theorem index4 (x0 x1 x2 x3 : Value) (w : World) :
    (Instr.index 32 (.agg #[x0, x1, x2, x3]) (.int .i64 0)).run Try.prog w = .ok x0 w ∧
    (Instr.index 32 (.agg #[x0, x1, x2, x3]) (.int .i64 1)).run Try.prog w = .ok x1 w ∧
    (Instr.index 32 (.agg #[x0, x1, x2, x3]) (.int .i64 2)).run Try.prog w = .ok x2 w ∧
    (Instr.index 32 (.agg #[x0, x1, x2, x3]) (.int .i64 3)).run Try.prog w = .ok x3 w := by
  refine ⟨?_, ?_, ?_, ?_⟩ <;> simp [Instr.index, run_underlying Try.und4, asIntOf, go_sem]

set_option maxHeartbeats 1000000 in
theorem sb_core (a b c A S' M N : Int) (w : World)
    (HA : Hid (S.add a b = A)) (HS : Hid (S.sub a b = S')) (HM : Hid (S.mul a b = M)) (HN : Hid (S.clamp a = N))
    (a0 : -1099511627776 ≤ A) (a1 : A ≤ 1099511627776) (s0 : -1099511627776 ≤ S') (s1 : S' ≤ 1099511627776)
    (m0 : -1099511627776 ≤ M) (m1 : M ≤ 1099511627776) (n0 : -1099511627776 ≤ N) (n1 : N ≤ 1099511627776) :
    Calls Try.prog 4 #[.int .i64 a, .int .i64 b, .int .i64 c] w fun e w' => e = .returned (.bool true) ∧ Grown w w' := by
  go_enter Try.func4, Try.ntmps4
  go_wp2_with fail
  refine (alive01 _).mono ?_
  rintro e w1 ⟨rfl, hg⟩
  go_wp2_with fail
  refine (add_any _ _ _).mono ?_
  rintro e w2 ⟨rfl, hg1⟩
  rw [HA.out]
  go_wp2_with fail
  refine (sub_any _ _ _).mono ?_
  rintro e w3 ⟨rfl, hg2⟩
  rw [HS.out]
  go_wp2_with fail
  refine (mul_any _ _ _).mono ?_
  rintro e w4 ⟨rfl, hg3⟩
  rw [HM.out]
  go_wp2_with fail
  refine (clamp_any _ _).mono ?_
  rintro e w5 ⟨rfl, rfl⟩
  rw [HN.out]
  go_wp2_with fail
  go_loop [23] (fun i => ∃ k : Nat, k ≤ 4 ∧ i = .int .i64 k) (fun i => 4 - (intOf i).toNat)
  case atStart => exact ⟨0, by omega, rfl⟩
  case round =>
    obtain ⟨k, hk, rfl⟩ := hrel
    by_cases h4 : k = 4
    · subst h4
      by_cases hbc : b ≤ c
      · have e1 := add_mono a b c hbc
        have e2 := sub_anti a b c hbc
        rw [HA.out] at e1
        rw [HS.out] at e2
        by_cases ha : 0 ≤ a
        · have e3 := mul_mono a b c ha hbc
          rw [HM.out] at e3
          go_wp2_with fail
          refine (add_any _ _ _).mono ?_
          rintro e v1 ⟨rfl, hh1⟩
          rw [HA.out]
          go_wp2_with fail
          refine (add_any _ _ _).mono ?_
          rintro e v2 ⟨rfl, hh2⟩
          rw [add_comm a b, HA.out]
          go_wp2_with fail
          refine (mul_any _ _ _).mono ?_
          rintro e v3 ⟨rfl, hh3⟩
          rw [HM.out]
          go_wp2_with fail
          refine (mul_any _ _ _).mono ?_
          rintro e v4 ⟨rfl, hh4⟩
          rw [mul_comm a b, HM.out]
          go_wp2_with fail
          refine (sub_any _ _ _).mono ?_
          rintro e v5 ⟨rfl, hh5⟩
          rw [HS.out]
          go_wp2_with fail
          refine (sub_any _ _ _).mono ?_
          rintro e v6 ⟨rfl, hh6⟩
          rw [sub_neg a b, HS.out]
          go_wp2_with fail
          refine (add_any _ _ _).mono ?_
          rintro e v7 ⟨rfl, hh7⟩
          rw [HA.out]
          go_wp2_with fail
          refine (add_any _ _ _).mono ?_
          rintro e v8 ⟨rfl, hh8⟩
          go_wp2_with fail
          refine (sub_any _ _ _).mono ?_
          rintro e v9 ⟨rfl, hh9⟩
          rw [HS.out]
          go_wp2_with fail
          refine (sub_any _ _ _).mono ?_
          rintro e v10 ⟨rfl, hh10⟩
          go_wp2_with fail
          refine (mul_any _ _ _).mono ?_
          rintro e v11 ⟨rfl, hh11⟩
          rw [HM.out]
          go_wp2_with fail
          refine (mul_any _ _ _).mono ?_
          rintro e v12 ⟨rfl, hh12⟩
          go_wp2
          go_ret
          exact ⟨rfl, Gr.trans (Gr.trans (Gr.trans (Gr.trans (Gr.trans (Gr.trans (Gr.trans (Gr.trans (Gr.trans (Gr.trans (Gr.trans (Gr.trans (Gr.trans (Gr.trans (Gr.trans hg hg1) hg2) hg3) hh1) hh2) hh3) hh4) hh5) hh6) hh7) hh8) hh9) hh10) hh11) hh12⟩
        · go_wp2_with fail
          refine (add_any _ _ _).mono ?_
          rintro e v1 ⟨rfl, hh1⟩
          rw [HA.out]
          go_wp2_with fail
          refine (add_any _ _ _).mono ?_
          rintro e v2 ⟨rfl, hh2⟩
          rw [add_comm a b, HA.out]
          go_wp2_with fail
          refine (mul_any _ _ _).mono ?_
          rintro e v3 ⟨rfl, hh3⟩
          rw [HM.out]
          go_wp2_with fail
          refine (mul_any _ _ _).mono ?_
          rintro e v4 ⟨rfl, hh4⟩
          rw [mul_comm a b, HM.out]
          go_wp2_with fail
          refine (sub_any _ _ _).mono ?_
          rintro e v5 ⟨rfl, hh5⟩
          rw [HS.out]
          go_wp2_with fail
          refine (sub_any _ _ _).mono ?_
          rintro e v6 ⟨rfl, hh6⟩
          rw [sub_neg a b, HS.out]
          go_wp2_with fail
          refine (add_any _ _ _).mono ?_
          rintro e v7 ⟨rfl, hh7⟩
          rw [HA.out]
          go_wp2_with fail
          refine (add_any _ _ _).mono ?_
          rintro e v8 ⟨rfl, hh8⟩
          go_wp2_with fail
          refine (sub_any _ _ _).mono ?_
          rintro e v9 ⟨rfl, hh9⟩
          rw [HS.out]
          go_wp2_with fail
          refine (sub_any _ _ _).mono ?_
          rintro e v10 ⟨rfl, hh10⟩
          go_wp2
          go_ret
          exact ⟨rfl, Gr.trans (Gr.trans (Gr.trans (Gr.trans (Gr.trans (Gr.trans (Gr.trans (Gr.trans (Gr.trans (Gr.trans (Gr.trans (Gr.trans (Gr.trans hg hg1) hg2) hg3) hh1) hh2) hh3) hh4) hh5) hh6) hh7) hh8) hh9) hh10⟩
      · go_wp2_with fail
        refine (add_any _ _ _).mono ?_
        rintro e v1 ⟨rfl, hh1⟩
        rw [HA.out]
        go_wp2_with fail
        refine (add_any _ _ _).mono ?_
        rintro e v2 ⟨rfl, hh2⟩
        rw [add_comm a b, HA.out]
        go_wp2_with fail
        refine (mul_any _ _ _).mono ?_
        rintro e v3 ⟨rfl, hh3⟩
        rw [HM.out]
        go_wp2_with fail
        refine (mul_any _ _ _).mono ?_
        rintro e v4 ⟨rfl, hh4⟩
        rw [mul_comm a b, HM.out]
        go_wp2_with fail
        refine (sub_any _ _ _).mono ?_
        rintro e v5 ⟨rfl, hh5⟩
        rw [HS.out]
        go_wp2_with fail
        refine (sub_any _ _ _).mono ?_
        rintro e v6 ⟨rfl, hh6⟩
        rw [sub_neg a b, HS.out]
        go_wp2
        go_ret
        exact ⟨rfl, Gr.trans (Gr.trans (Gr.trans (Gr.trans (Gr.trans (Gr.trans (Gr.trans (Gr.trans (Gr.trans hg hg1) hg2) hg3) hh1) hh2) hh3) hh4) hh5) hh6⟩
    · rcases (show k = 0 ∨ k = 1 ∨ k = 2 ∨ k = 3 by omega) with rfl | rfl | rfl | rfl
      all_goals
        obtain ⟨i0, i1, i2, i3⟩ := index4 (.int .i64 A) (.int .i64 S') (.int .i64 M) (.int .i64 N) w4
        go_wp2
        go_round
        case rel => first | exact ⟨1, by decide, rfl⟩ | exact ⟨2, by decide, rfl⟩ | exact ⟨3, by decide, rfl⟩ | exact ⟨4, by decide, rfl⟩
        case measure => simp [intOf]

theorem satBounds_walk (a b c : Int) (_ : (Lit.int .i64 a).wf = true) (_ : (Lit.int .i64 b).wf = true) (_ : (Lit.int .i64 c).wf = true) (w : World) :
    Calls Try.prog 4 #[.int .i64 a, .int .i64 b, .int .i64 c] w fun e w' => e = .returned (.bool true) ∧ Grown w w' :=
  sb_core a b c _ _ _ _ w rfl rfl rfl rfl (S.clamp_bd _).1 (S.clamp_bd _).2 (S.clamp_bd _).1 (S.clamp_bd _).2 (S.clamp_bd _).1 (S.clamp_bd _).2 (S.clamp_bd _).1 (S.clamp_bd _).2
end Go.Proofs.Ytjjeclalghobaaa
