/- The walk of the law SatRounds. -/
import Derived.Test.YtjjeclalghobaaaSatAlive
namespace Go.Proofs.Ytjjeclalghobaaa
open Go.ChangeShapes Go.WideShapes Go.ChangeAt Go.RowKit

theorem within_bd (n : Int) : 1 ≤ S.within n 1 1048576 ∧ S.within n 1 1048576 ≤ 1048576 := by
  unfold S.within; split
  · omega
  · split <;> omega

theorem cdiv_more (a b c : Int) (hb : 0 < b) (hc : 0 ≤ c) : S.cdiv a b ≤ S.cdiv (S.add a c) b := by
  unfold S.cdiv
  refine S.up_mono (S.clamp_pos hb) ?_
  unfold S.add; rw [S.clamp_clamp]
  have h := S.clamp_nonneg hc
  have k := S.clamp_mono (a := S.clamp a) (b := S.clamp a + S.clamp c) (by omega)
  rw [S.clamp_clamp] at k; exact k

theorem cdiv_less (a b c : Int) (hb : 0 < b) (hc : b ≤ c) (ha : 0 ≤ a) : S.cdiv a c ≤ S.cdiv a b := by
  unfold S.cdiv
  exact S.up_anti (S.clamp_pos hb) (S.clamp_mono hc) (S.clamp_nonneg ha)

theorem cdiv_back (b c : Int) (hb : 1 ≤ b) (hb1 : b ≤ 1048576) (hc : 1 ≤ c) (hc1 : c ≤ 1048576) : S.cdiv (b * c) c = b := by
  have h1 : b * c ≤ 1048576 * 1048576 := Int.mul_le_mul hb1 hc1 (by omega) (by omega)
  have h2 : 0 ≤ b * c := Int.mul_nonneg (by omega) (by omega)
  unfold S.cdiv
  rw [S.clamp_id (n := b * c) (by omega) (by omega), S.clamp_id (n := c) (by omega) (by omega)]
  exact S.up_unique (by omega) (by omega) (by omega)

set_option maxHeartbeats 1000000 in
theorem sr_left (a b c B C : Int) (w : World) (HB : Hid (S.within b 1 1048576 = B)) (HC : Hid (S.within c 1 1048576 = C)) (hb : 1 ≤ B) (hb1 : B ≤ 1048576) (hc : 1 ≤ C) (hc1 : C ≤ 1048576)
    (h1 : S.cdiv a B ≤ S.cdiv (S.add a C) B) (hM : C ≤ B) (hm : 0 ≤ a → S.cdiv a B ≤ S.cdiv a B) :
    Calls Try.prog 7 #[.int .i64 a, .int .i64 b, .int .i64 c] w fun e w' => e = .returned (.bool true) ∧ Grown w w' := by
  have hbc : B * C ≤ 1099511627776 := by have := Int.mul_le_mul hb1 hc1 (by omega) (by omega); omega
  have hbc0 : 0 ≤ B * C := Int.mul_nonneg (by omega) (by omega)
  have HE := Lib.hid (cdiv_back B C hb hb1 hc hc1)
  by_cases ha : a < 0
  · go_enter Try.func7, Try.ntmps7
    go_wp2_with fail
    refine (alive01 _).mono ?_
    rintro e w1 ⟨rfl, hg⟩
    go_wp2_with fail
    refine (within_any _ _ _ _).mono ?_
    rintro e w2 ⟨rfl, rfl⟩
    rw [HB.out]
    go_wp2_with fail
    refine (within_any _ _ _ _).mono ?_
    rintro e w2 ⟨rfl, rfl⟩
    rw [HC.out]
    go_wp2_with fail
    refine (cdiv_yes _ _ _ (by omega)).mono ?_
    rintro e w2 ⟨rfl, hg1⟩
    go_wp2_with fail
    refine (add_any _ _ _).mono ?_
    rintro e w3 ⟨rfl, hg2⟩
    go_wp2_with fail
    refine (cdiv_yes _ _ _ (by omega)).mono ?_
    rintro e w4 ⟨rfl, hg3⟩
    go_wp2_with fail
    refine (cdiv_yes _ _ _ (by omega)).mono ?_
    rintro e w5 ⟨rfl, hg4⟩
    go_wp2_with fail
    refine (cdiv_yes _ _ _ (by omega)).mono ?_
    rintro e w6 ⟨rfl, hg5⟩
    rw [HE.out]
    go_wp2
    go_ret
    exact ⟨rfl, Gr.trans (Gr.trans (Gr.trans (Gr.trans (Gr.trans hg hg1) hg2) hg3) hg4) hg5⟩
  · have h2 := hm (by omega)
    go_enter Try.func7, Try.ntmps7
    go_wp2_with fail
    refine (alive01 _).mono ?_
    rintro e w1 ⟨rfl, hg⟩
    go_wp2_with fail
    refine (within_any _ _ _ _).mono ?_
    rintro e w2 ⟨rfl, rfl⟩
    rw [HB.out]
    go_wp2_with fail
    refine (within_any _ _ _ _).mono ?_
    rintro e w2 ⟨rfl, rfl⟩
    rw [HC.out]
    go_wp2_with fail
    refine (cdiv_yes _ _ _ (by omega)).mono ?_
    rintro e w2 ⟨rfl, hg1⟩
    go_wp2_with fail
    refine (add_any _ _ _).mono ?_
    rintro e w3 ⟨rfl, hg2⟩
    go_wp2_with fail
    refine (cdiv_yes _ _ _ (by omega)).mono ?_
    rintro e w4 ⟨rfl, hg3⟩
    go_wp2_with fail
    refine (cdiv_yes _ _ _ (by omega)).mono ?_
    rintro e w5 ⟨rfl, hg4⟩
    go_wp2_with fail
    refine (cdiv_yes _ _ _ (by omega)).mono ?_
    rintro e w6 ⟨rfl, hg5⟩
    rw [HE.out]
    go_wp2
    go_ret
    exact ⟨rfl, Gr.trans (Gr.trans (Gr.trans (Gr.trans (Gr.trans hg hg1) hg2) hg3) hg4) hg5⟩

set_option maxHeartbeats 1000000 in
theorem sr_right (a b c B C : Int) (w : World) (HB : Hid (S.within b 1 1048576 = B)) (HC : Hid (S.within c 1 1048576 = C)) (hb : 1 ≤ B) (hb1 : B ≤ 1048576) (hc : 1 ≤ C) (hc1 : C ≤ 1048576)
    (h1 : S.cdiv a B ≤ S.cdiv (S.add a C) B) (hM : B < C) (hm : 0 ≤ a → S.cdiv a C ≤ S.cdiv a B) :
    Calls Try.prog 7 #[.int .i64 a, .int .i64 b, .int .i64 c] w fun e w' => e = .returned (.bool true) ∧ Grown w w' := by
  have hbc : B * C ≤ 1099511627776 := by have := Int.mul_le_mul hb1 hc1 (by omega) (by omega); omega
  have hbc0 : 0 ≤ B * C := Int.mul_nonneg (by omega) (by omega)
  have HE := Lib.hid (cdiv_back B C hb hb1 hc hc1)
  by_cases ha : a < 0
  · go_enter Try.func7, Try.ntmps7
    go_wp2_with fail
    refine (alive01 _).mono ?_
    rintro e w1 ⟨rfl, hg⟩
    go_wp2_with fail
    refine (within_any _ _ _ _).mono ?_
    rintro e w2 ⟨rfl, rfl⟩
    rw [HB.out]
    go_wp2_with fail
    refine (within_any _ _ _ _).mono ?_
    rintro e w2 ⟨rfl, rfl⟩
    rw [HC.out]
    go_wp2_with fail
    refine (cdiv_yes _ _ _ (by omega)).mono ?_
    rintro e w2 ⟨rfl, hg1⟩
    go_wp2_with fail
    refine (add_any _ _ _).mono ?_
    rintro e w3 ⟨rfl, hg2⟩
    go_wp2_with fail
    refine (cdiv_yes _ _ _ (by omega)).mono ?_
    rintro e w4 ⟨rfl, hg3⟩
    go_wp2_with fail
    refine (cdiv_yes _ _ _ (by omega)).mono ?_
    rintro e w5 ⟨rfl, hg4⟩
    go_wp2_with fail
    refine (cdiv_yes _ _ _ (by omega)).mono ?_
    rintro e w6 ⟨rfl, hg5⟩
    rw [HE.out]
    go_wp2
    go_ret
    exact ⟨rfl, Gr.trans (Gr.trans (Gr.trans (Gr.trans (Gr.trans hg hg1) hg2) hg3) hg4) hg5⟩
  · have h2 := hm (by omega)
    go_enter Try.func7, Try.ntmps7
    go_wp2_with fail
    refine (alive01 _).mono ?_
    rintro e w1 ⟨rfl, hg⟩
    go_wp2_with fail
    refine (within_any _ _ _ _).mono ?_
    rintro e w2 ⟨rfl, rfl⟩
    rw [HB.out]
    go_wp2_with fail
    refine (within_any _ _ _ _).mono ?_
    rintro e w2 ⟨rfl, rfl⟩
    rw [HC.out]
    go_wp2_with fail
    refine (cdiv_yes _ _ _ (by omega)).mono ?_
    rintro e w2 ⟨rfl, hg1⟩
    go_wp2_with fail
    refine (add_any _ _ _).mono ?_
    rintro e w3 ⟨rfl, hg2⟩
    go_wp2_with fail
    refine (cdiv_yes _ _ _ (by omega)).mono ?_
    rintro e w4 ⟨rfl, hg3⟩
    go_wp2_with fail
    refine (cdiv_yes _ _ _ (by omega)).mono ?_
    rintro e w5 ⟨rfl, hg4⟩
    go_wp2_with fail
    refine (cdiv_yes _ _ _ (by omega)).mono ?_
    rintro e w6 ⟨rfl, hg5⟩
    rw [HE.out]
    go_wp2
    go_ret
    exact ⟨rfl, Gr.trans (Gr.trans (Gr.trans (Gr.trans (Gr.trans hg hg1) hg2) hg3) hg4) hg5⟩

theorem satRounds_walk (a b c : Int) (_ : (Lit.int .i64 a).wf = true) (_ : (Lit.int .i64 b).wf = true) (_ : (Lit.int .i64 c).wf = true) (w : World) :
    Calls Try.prog 7 #[.int .i64 a, .int .i64 b, .int .i64 c] w fun e w' => e = .returned (.bool true) ∧ Grown w w' := by
  have hb := within_bd b
  have hc := within_bd c
  by_cases h : S.within c 1 1048576 ≤ S.within b 1 1048576
  · exact sr_left a b c _ _ w rfl rfl hb.1 hb.2 hc.1 hc.2 (cdiv_more _ _ _ (by omega) (by omega)) h (fun _ => Int.le_refl _)
  · exact sr_right a b c _ _ w rfl rfl hb.1 hb.2 hc.1 hc.2 (cdiv_more _ _ _ (by omega) (by omega)) (by omega) (fun k => cdiv_less _ _ _ (by omega) (by omega) k)
end Go.Proofs.Ytjjeclalghobaaa
