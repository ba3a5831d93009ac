/- Layer 7, the program's reader: through, event. -/
import Derived.Test.YtlckappnpdkihaaEvR3
import Derived.Test.YtlckappnpdkihaaEvP5
namespace Go.Proofs.Ytlckappnpdkihaa
set_option linter.unusedVariables false
set_option linter.unusedSimpArgs false
open Go.ChangeShapes Go.WideShapes Go.ChangeAt Go.RowKit

/-- The first numbers of an event. -/
def headF (st : D.St) : Nat → Int := updE (updE (updE (updE (fun _ => 0) 0 (E.itV st 0)) 1 (E.itV st 1)) 2 (E.itV st 2)) 3 (E.itV st 3)
theorem headF_3 (st : D.St) : headF st 3 = E.itV st 3 := by simp [headF, updE]
theorem head_one {st : D.St} (k1 : E.itV st 3 = 1) : ∀ j, j < 13 → updE (updE (headF st) 4 (E.itV (E.s4 st) 0)) 5 (E.itV (E.s4 st) 1) j = E.rdF st j := fun j hj => by
  unfold E.rdF
  obtain rfl | rfl | rfl | rfl | rfl | rfl | rfl | rfl | rfl | rfl | rfl | rfl | rfl : j = 0 ∨ j = 1 ∨ j = 2 ∨ j = 3 ∨ j = 4 ∨ j = 5 ∨ j = 6 ∨ j = 7 ∨ j = 8 ∨ j = 9 ∨ j = 10 ∨ j = 11 ∨ j = 12 := by omega
  all_goals simp [headF, updE, k1]
theorem head_two {st : D.St} (k2 : E.itV st 3 = 2) : ∀ j, j < 13 → polF (updE (headF st) 4 (E.itV (E.s4 st) 0)) (E.itS (E.s4 st) 1) j = E.rdF st j := fun j hj => by
  have hv : ∀ m, E.itV (E.itS (E.s4 st) 1) m = E.itV (E.s4 st) (1 + m) := fun m => by unfold E.itV; rw [E.itS_add]
  unfold E.rdF polF
  obtain rfl | rfl | rfl | rfl | rfl | rfl | rfl | rfl | rfl | rfl | rfl | rfl | rfl : j = 0 ∨ j = 1 ∨ j = 2 ∨ j = 3 ∨ j = 4 ∨ j = 5 ∨ j = 6 ∨ j = 7 ∨ j = 8 ∨ j = 9 ∨ j = 10 ∨ j = 11 ∨ j = 12 := by omega
  all_goals simp [headF, updE, k2, hv]
theorem head_three {st : D.St} (k3 : E.itV st 3 = 3) : ∀ j, j < 13 → updE (headF st) 4 (E.itV (E.s4 st) 0) j = E.rdF st j := fun j hj => by
  unfold E.rdF
  obtain rfl | rfl | rfl | rfl | rfl | rfl | rfl | rfl | rfl | rfl | rfl | rfl | rfl : j = 0 ∨ j = 1 ∨ j = 2 ∨ j = 3 ∨ j = 4 ∨ j = 5 ∨ j = 6 ∨ j = 7 ∨ j = 8 ∨ j = 9 ∨ j = 10 ∨ j = 11 ∨ j = 12 := by omega
  all_goals simp [headF, updE, k3]
theorem RemQ.congr {ge B : Nat} {F G : Nat → Int} {M : List D.Dot} {w : World} (h : RemQ ge B F M w) (hFG : ∀ j, j < 13 → F j = G j) {B' : Nat} (hB : B' ≤ B) : RemQ ge B' G M w := by
  obtain ⟨A, c, h1, h2⟩ := h
  exact ⟨A, c, by rw [← ecs_congr hFG]; exact h1, h2.mono hB⟩

set_option maxRecDepth 100000 in
set_option maxHeartbeats 8000000 in
theorem rthrough_any {g h gr ge : Nat} {st : D.St} {w : World} (hst : st.2 = 0) (hR : Rde w g h gr st) (hE : Blo w ge 28 (ecs (fun _ => 0) none 0 0)) (hbg : ge ≠ g) (hbh : ge ≠ h) (hbr : ge ≠ gr) :
    Calls Try.prog 60 #[.pointer (some ⟨ge, 0, none⟩), rdo gr] w (Rpost g h gr ge (E.rdL st).2 (RemQ ge w.heap.size (E.rdF st) (E.rdL st).1) w) := by
  have hdot := rdot_any (k := 0) hst hR hE (by simp) hbg hbh hbr
  rw [ecs_set _ _ _ _ (by omega), ecs_set _ _ _ _ (by omega)] at hdot
  obtain ⟨R, hRR⟩ : ∃ R, R = E.rdL st := ⟨_, rfl⟩
  rw [← hRR]
  have HRR := Lib.hid hRR
  clear hRR
  go_enter Try.func60, Try.ntmps60
  go_wp2_with fail
  refine hdot.mono ?_
  rintro e w2 ⟨T2, hok⟩
  rcases hok with ⟨h2, rfl, R2, B2⟩ | ⟨h2, rfl⟩
  rotate_left
  · have HR : Hid (R = ([], E.itS st 2)) := Lib.hid (by rw [HRR.out]; exact rdL_err4 h2 (by omega))
    have H2 := Lib.hid h2
    clear h2 hdot hst
    go_wp2
    refine ⟨rfl, T2, .inr ?_⟩
    rw [HR.out]
    exact ⟨H2.out, rfl⟩
  clear hdot
  go_wp2_with fail
  refine (rnume_any (k := 2) h2 R2 B2 (by omega) hbg hbh hbr).mono ?_
  rintro e w3 ⟨T3', hok⟩
  have T3 := T2.trans T3'
  rcases hok with ⟨h3, rfl, R3, B3⟩ | ⟨h3, rfl⟩
  rotate_left
  · have HR : Hid (R = ([], E.itS st 3)) := Lib.hid (by rw [HRR.out]; exact rdL_err4 (k := 3) h3 (by omega))
    have H3 := Lib.hid h3
    clear h2 h3 hst
    go_wp2
    refine ⟨rfl, T3, .inr ?_⟩
    rw [HR.out]
    exact ⟨H3.out, rfl⟩
  clear T2 T3' R2 B2
  go_wp2_with fail
  refine (rnume_any (k := 3) h3 R3 B3 (by omega) hbg hbh hbr).mono ?_
  rintro e w4 ⟨T4', hok⟩
  have T4 := T3.trans T4'
  rcases hok with ⟨h4, rfl, R4, B4⟩ | ⟨h4, rfl⟩
  rotate_left
  · have HR : Hid (R = ([], E.itS st 4)) := Lib.hid (by rw [HRR.out]; exact rdL_err4 (k := 4) h4 (by omega))
    have H4 := Lib.hid h4
    clear h2 h3 h4 hst
    go_wp2
    refine ⟨rfl, T4, .inr ?_⟩
    rw [HR.out]
    exact ⟨H4.out, rfl⟩
  clear T3 T4' R3 B3
  have h4 : (E.itS st 4).2 = 0 := h4
  have R4 : Rde w4 g h gr (E.itS st 4) := R4
  have B4 : Blo w4 ge 28 (ecs (headF st) none 0 0) := B4
  obtain ⟨K, hK⟩ : ∃ K, K = E.itV st 3 := ⟨_, rfl⟩
  have z3 : w4.cell? ⟨ge, 3, none⟩ = some (.int .i64 K) := by have := B4.cell 3; simpa [headF_3, ← hK] using this
  have HK := Lib.hid hK
  clear h2 h3 hst
  have hs4 := T4.size
  by_cases hkk : ¬ (K = 1 ∨ K = 2 ∨ K = 3)
  · have e1 : (K == 1) = false := by simp; omega
    have e2 : (K == 2) = false := by simp; omega
    have e3 : (K == 3) = false := by simp; omega
    have HR : Hid (R.2.2 = 4) := Lib.hid (by rw [HRR.out]; exact s4_bad h4 (by rw [← hK]; exact hkk))
    clear hkk hK h4
    go_wp2_with fail
    refine (eneed_no _ _).mono ?_
    rintro e w5 ⟨rfl, rfl⟩
    go_wp2
    refine ⟨rfl, T4, .inr ?_⟩
    rw [HR.out]
    exact ⟨by decide, rfl⟩
  have hkk : K = 1 ∨ K = 2 ∨ K = 3 := Classical.not_not.1 hkk
  have e4 : E.s4 st = E.itS st 4 := s4_good h4 (by rw [← hK]; exact hkk)
  rw [← e4] at h4 R4
  clear e4
  have s0 : (E.itS (E.s4 st) 0).2 = 0 := h4
  have hnum := rnume_any (k := 4) h4 R4 B4 (by omega) hbg hbh hbr
  have HE1 : Hid (∀ k, (E.itS (E.s4 st) k).2 ≠ 0 → (k ≤ if K = 1 then 2 else 2 + E.nP K) → R = ([], E.itS (E.s4 st) k)) := Lib.hid (fun k hk hl => by rw [HRR.out]; rw [hK] at hl; exact rdL_errS hk hl)
  clear hK
  rcases hkk with k1 | k2 | k3
  · subst k1
    go_wp2_with fail
    refine (eneed_yes _ _).mono ?_
    rintro e w5 ⟨rfl, rfl⟩
    go_wp2_with fail
    refine hnum.mono ?_
    rintro e w5 ⟨T5', hok⟩
    have T5 := T4.trans T5'
    rcases hok with ⟨h5, rfl, R5, B5⟩ | ⟨h5, rfl⟩
    rotate_left
    · have HR : Hid (R = ([], E.itS (E.s4 st) 1)) := Lib.hid (HE1.out 1 h5 (by simp))
      have H5 := Lib.hid h5
      clear h4 h5 s0 hnum z3
      go_wp2
      refine ⟨rfl, T5, .inr ?_⟩
      rw [HR.out]
      exact ⟨H5.out, rfl⟩
    have z5 : w5.cell? ⟨ge, 3, none⟩ = some (.int .i64 1) := by have := B5.cell 3; simpa [updE, headF_3, ← HK.out] using this
    have hnum5 := rnume_any (k := 5) h5 R5 B5 (by omega) hbg hbh hbr
    clear z3 hnum
    go_wp2_with fail
    refine hnum5.mono ?_
    rintro e w6 ⟨T6', hok⟩
    have T6 := T5.trans T6'
    rcases hok with ⟨h6, rfl, R6, B6⟩ | ⟨h6, rfl⟩
    · have HR : Hid (R = ([], E.itS (E.s4 st) 2)) := Lib.hid (by rw [HRR.out]; unfold E.rdL; rw [if_pos HK.out.symm])
      have H6 := Lib.hid h6
      clear h4 h5 h6 s0 hnum5 z5
      go_wp2
      go_end0
      refine ⟨T6, .inl ⟨?_, rfl, ?_, ?_⟩⟩
      · rw [HR.out]; exact H6.out
      · rw [HR.out]; exact R6
      · rw [HR.out]
        refine ⟨none, 0, ?_, DRow.nil _ _⟩
        rw [← ecs_congr (head_one HK.out.symm)]
        exact B6
    · have HR : Hid (R = ([], E.itS (E.s4 st) 2)) := Lib.hid (HE1.out 2 h6 (by simp))
      have H6 := Lib.hid h6
      clear h4 h5 h6 s0 hnum5 z5
      go_wp2
      refine ⟨rfl, T6, .inr ?_⟩
      rw [HR.out]
      exact ⟨H6.out, rfl⟩
  · subst k2
    go_wp2_with fail
    refine (eneed_yes _ _).mono ?_
    rintro e w5 ⟨rfl, rfl⟩
    go_wp2_with fail
    refine hnum.mono ?_
    rintro e w5 ⟨T5', hok⟩
    have T5 := T4.trans T5'
    rcases hok with ⟨h5, rfl, R5, B5⟩ | ⟨h5, rfl⟩
    rotate_left
    · have HR : Hid (R = ([], E.itS (E.s4 st) 1)) := Lib.hid (HE1.out 1 h5 (by simp [E.nP]))
      have H5 := Lib.hid h5
      clear h4 h5 s0 hnum z3
      go_wp2
      refine ⟨rfl, T5, .inr ?_⟩
      rw [HR.out]
      exact ⟨H5.out, rfl⟩
    have z5 : w5.cell? ⟨ge, 3, none⟩ = some (.int .i64 2) := by have := B5.cell 3; simpa [updE, headF_3, ← HK.out] using this
    have h5' : (E.itS (E.s4 st) 1).2 = 0 := h5
    have R5' : Rde w5 g h gr (E.itS (E.s4 st) 1) := R5
    have hpol := rpolicy_any h5' R5' B5 hbg hbh hbr
    rw [E.itS_add] at hpol
    clear z3 hnum
    go_wp2_with fail
    refine hpol.mono ?_
    rintro e w6 ⟨T6', hok⟩
    have T6 := T5.trans T6'
    rcases hok with ⟨h6, rfl, R6, B6⟩ | ⟨h6, rfl⟩
    rotate_left
    · have HR : Hid (R = ([], E.itS (E.s4 st) 8)) := Lib.hid (HE1.out 8 h6 (by simp [E.nP]))
      have H6 := Lib.hid h6
      clear h4 h5 h5' h6 s0 hpol z5
      go_wp2
      refine ⟨rfl, T6, .inr ?_⟩
      rw [HR.out]
      exact ⟨H6.out, rfl⟩
    have hrem := rrem_any h6 R6 B6 hbg hbh hbr
    have HR : Hid (R = D.rdM (D.nxt (E.itS (E.s4 st) (1 + 7))).1.toNat (E.cutS (D.nxt (E.itS (E.s4 st) (1 + 7))).1 (D.nxt (E.itS (E.s4 st) (1 + 7))).2)) := Lib.hid (by
      rw [HRR.out]; unfold E.rdL E.rdN E.nP; rw [if_neg (by rw [← HK.out]; decide), if_pos HK.out.symm]; rfl)
    rw [← HR.out] at hrem
    have hs6 := T6.size
    clear z5 hpol h4 h5 h5' h6 s0
    go_wp2_with fail
    refine hrem.mono ?_
    rintro e w7 ⟨T7', hok⟩
    have T7 := T6.trans T7'
    rcases hok with ⟨h7, rfl, R7, Q7⟩ | ⟨h7, rfl⟩
    · have H7 := Lib.hid h7
      clear h7 hrem
      go_wp2
      go_end0
      exact ⟨T7, .inl ⟨H7.out, rfl, R7, Q7.congr (head_two HK.out.symm) hs6⟩⟩
    · have H7 := Lib.hid h7
      clear h7 hrem
      go_wp2
      exact ⟨rfl, T7, .inr ⟨H7.out, rfl⟩⟩
  · subst k3
    go_wp2_with fail
    refine (eneed_yes _ _).mono ?_
    rintro e w5 ⟨rfl, rfl⟩
    go_wp2_with fail
    refine hnum.mono ?_
    rintro e w5 ⟨T5', hok⟩
    have T5 := T4.trans T5'
    rcases hok with ⟨h5, rfl, R5, B5⟩ | ⟨h5, rfl⟩
    rotate_left
    · have HR : Hid (R = ([], E.itS (E.s4 st) 1)) := Lib.hid (HE1.out 1 h5 (by simp [E.nP]))
      have H5 := Lib.hid h5
      clear h4 h5 s0 hnum z3
      go_wp2
      refine ⟨rfl, T5, .inr ?_⟩
      rw [HR.out]
      exact ⟨H5.out, rfl⟩
    have z5 : w5.cell? ⟨ge, 3, none⟩ = some (.int .i64 3) := by have := B5.cell 3; simpa [updE, headF_3, ← HK.out] using this
    have h5' : (E.itS (E.s4 st) 1).2 = 0 := h5
    have R5' : Rde w5 g h gr (E.itS (E.s4 st) 1) := R5
    have hrem := rrem_any h5' R5' B5 hbg hbh hbr
    have HR : Hid (R = D.rdM (D.nxt (E.itS (E.s4 st) 1)).1.toNat (E.cutS (D.nxt (E.itS (E.s4 st) 1)).1 (D.nxt (E.itS (E.s4 st) 1)).2)) := Lib.hid (by
      rw [HRR.out]; unfold E.rdL E.rdN E.nP; rw [if_neg (by rw [← HK.out]; decide), if_neg (by rw [← HK.out]; decide)]; rfl)
    rw [← HR.out] at hrem
    have hs5 := T5.size
    clear z3 hnum h4 h5 h5' s0
    go_wp2_with fail
    refine hrem.mono ?_
    rintro e w7 ⟨T7', hok⟩
    have T7 := T5.trans T7'
    rcases hok with ⟨h7, rfl, R7, Q7⟩ | ⟨h7, rfl⟩
    · have H7 := Lib.hid h7
      clear h7 hrem z5
      go_wp2
      go_end0
      exact ⟨T7, .inl ⟨H7.out, rfl, R7, Q7.congr (head_three HK.out.symm) hs5⟩⟩
    · have H7 := Lib.hid h7
      clear h7 hrem z5
      go_wp2
      exact ⟨rfl, T7, .inr ⟨H7.out, rfl⟩⟩
end Go.Proofs.Ytlckappnpdkihaa
