/- Layer 11, the document's own: Step. -/
import Derived.Test.YtdppabnhflaoeaaDecMath
import Derived.Test.YtdppabnhflaoeaaPolBox
import Derived.Test.YtdppabnhflaoeaaSatDocM
import Derived.Test.YtdppabnhflaoeaaFam
namespace Go.Proofs.Ytdppabnhflaoeaa
set_option linter.unusedVariables false
set_option linter.unusedSimpArgs false
open Go.ChangeShapes Go.WideShapes Go.ChangeAt Go.RowKit

set_option maxRecDepth 100000 in
set_option maxHeartbeats 4000000 in
theorem rstep_any (F : Nat → Int) (x t : Int) (w : World) : Calls Try.prog 10 #[pv F, .int .i64 x, .int .i64 t] w fun e w' => e = .returned (.tuple #[.int .i64 (K.stp F x t), .int .i64 (K.err F t)]) ∧ Below w.heap.size w w' := by
  obtain ⟨w1, hw1⟩ : ∃ W, w.alloc (.cells (pcs F) 23) = W := ⟨_, rfl⟩
  have hb1 : Below w.heap.size w w1 := by rw [← hw1]; exact b_alloc _ _
  have hX1 : Blo w1 w.heap.size 23 (pcs F) := by rw [← hw1]; exact Blo.made _ _ _
  have HW1 := Lib.hid hw1
  have hrp := fun W => rpol_any F W
  clear hw1
  cases hr : E.rp F with
  | false =>
    have hok : K.ok F t = false := by unfold K.ok; rw [hr]; rfl
    have HA : Hid (K.stp F x t = 0 ∧ K.err F t = 2) := Lib.hid ⟨by unfold K.stp; rw [hok]; simp, by unfold K.err; rw [hok]; simp⟩
    rw [hr] at hrp
    clear hok hr
    go_enter Try.func10, Try.ntmps10
    go_wp2_with fail
    refine (hrp _).mono ?_
    rintro e w2 ⟨rfl, hb2⟩
    rw [HW1.out] at hb2
    go_wp2
    go_ret2
    rw [HA.out.1, HA.out.2]
    exact ⟨rfl, below_new hb1 hb2⟩
  | true =>
    rw [hr] at hrp
    by_cases h0 : 0 ≤ t ∧ t ≤ 1000
    · obtain ⟨h0, h1⟩ := h0
      have h0' : ¬ t < 0 := by omega
      have h1' : ¬ 1000 < t := by omega
      have hok : K.ok F t = true := by unfold K.ok; rw [hr]; simpa using ⟨h0, h1⟩
      have hp := K.rp_all hr
      have HE : Hid (K.err F t = 0) := Lib.hid (by unfold K.err; rw [hok]; simp)
      have HS : Hid (K.stp F x t = S.within (K.wnt F x t) (t - F 11) (t + F 10)) := Lib.hid (by unfold K.stp; rw [hok]; simp)
      obtain ⟨y, hy⟩ : ∃ y, y = K.ld x := ⟨_, rfl⟩
      obtain ⟨ca, hca⟩ : ∃ ca, ca = K.carr F t := ⟨_, rfl⟩
      obtain ⟨d, hd⟩ : ∃ d, d = S.sub y ca := ⟨_, rfl⟩
      obtain ⟨o, ho⟩ : ∃ o, o = K.off F x t := ⟨_, rfl⟩
      obtain ⟨a, ha⟩ : ∃ a, a = askN F y := ⟨_, rfl⟩
      obtain ⟨mf, hmf⟩ : ∃ f : Int → Int → Int, f = S.mul := ⟨_, rfl⟩
      have hdb : -1099511627776 ≤ d ∧ d ≤ 1099511627776 := by rw [hd]; unfold S.sub; exact S.clamp_bd _
      have HO : Hid (o = if d < 0 then -d else d) := Lib.hid (by rw [ho, hd, hy, hca]; rfl)
      have HWN : Hid (K.wnt F x t = if 0 < t ∧ mf 100 o ≤ mf (F 9) ca then S.within t (F 6) (F 7) else a) := Lib.hid (by
        unfold K.wnt K.slk
        rw [← ho, ← hca, ← hmf, ← hy, ← ha]
        simp)
      have c1 := fun W => rwithin_any x 0 1099511627776 W
      have e1 : S.within x 0 1099511627776 = y := hy.symm
      rw [e1] at c1
      have c2 := fun W => rmul_any t (F 8) W
      have e2 : S.mul t (F 8) = ca := hca.symm
      rw [e2] at c2
      have c3 := fun W => rsub_any y ca W
      rw [← hd] at c3
      have c4 := fun W => rasked_any F y W
      have e4 : askE F = 0 := by unfold askE; rw [hr]; simp
      rw [← ha, e4] at c4
      have cm := fun u v W => rmul_any u v W
      rw [← hmf] at cm
      have c7 := fun W => rwithin_any t (F 6) (F 7) W
      have C1 := Lib.hid c1
      have C2 := Lib.hid c2
      have C3 := Lib.hid c3
      have C4 := Lib.hid c4
      have CM := Lib.hid cm
      have C7 := Lib.hid c7
      have g1 : IntKind.i64.wrap (t - F 11) = t - F 11 := IntWalk.i64_in _ (by omega)
      have g2 : IntKind.i64.wrap (t + F 10) = t + F 10 := IntWalk.i64_in _ (by omega)
      have g3 : IntKind.i64.wrap (-d) = -d := IntWalk.i64_in _ (by omega)
      clear c1 c2 c3 c4 cm c7 e1 e2 e4 hy hca hd ho ha hmf hok hp hr
      go_enter Try.func10, Try.ntmps10
      go_wp2_with fail
      refine (hrp _).mono ?_
      rintro e w2 ⟨rfl, hb2⟩
      rw [HW1.out] at hb2
      have hX2 := hX1.new hb2
      have hb02 := below_new hb1 hb2
      obtain ⟨k0, k1, k2, k3, k4, k5, k6⟩ := pol_box F hX2
      clear hb1 hb2 hX1 hrp
      go_wp2_with fail
      refine (C1.out _).mono ?_
      rintro e w3 ⟨rfl, rfl⟩
      go_wp2_with fail
      refine (C2.out _).mono ?_
      rintro e w3 ⟨rfl, rfl⟩
      go_wp2_with fail
      refine (C3.out _).mono ?_
      rintro e w3 ⟨rfl, rfl⟩
      by_cases hdn : d < 0
      · have hod : o = -d := by rw [HO.out, if_pos hdn]
        subst hod
        go_wp2_with fail
        refine (C4.out _).mono ?_
        rintro e w3 ⟨rfl, hb3⟩
        clear k0 k1 k2 k3 k4 k5 k6
        have hX3 := hX2.new hb3
        have hb03 := below_new hb02 hb3
        obtain ⟨k0, k1, k2, k3, k4, k5, k6⟩ := pol_box F hX3
        clear hb02 hb3 hX2
        by_cases ht : 0 < t
        · by_cases hqz : mf 100 (-d) ≤ mf (F 9) ca
          · have HV : Hid (K.wnt F x t = S.within t (F 6) (F 7)) := Lib.hid (by rw [HWN.out, if_pos ⟨ht, hqz⟩])
            go_wp2_with fail
            go_quiet ((go_at_call 21; exact quiet_same (CM.out _ _ _)))
            obtain ⟨W, hd, hW⟩ : ∃ W, Drew w3 W ∧ w3.drewN nq = W := ⟨_, ⟨nq, rfl⟩, rfl⟩
            rw [hW]
            have hb04 := below_drewN hb03 nq
            rw [hW] at hb04
            clear k0 k1 k2 k3 k4 k5 k6
            obtain ⟨k0, k1, k2, k3, k4, k5, k6⟩ := pol_box F (hd.blo hX3)
            go_wp2_with fail
            refine (C7.out _).mono ?_
            rintro e w4 ⟨rfl, rfl⟩
            go_wp2_with fail
            refine (rwithin_any _ _ _ _).mono ?_
            rintro e w4 ⟨rfl, rfl⟩
            go_wp2
            go_ret2
            rw [HS.out, HV.out, HE.out]
            exact ⟨rfl, hb04⟩
          · have HV : Hid (K.wnt F x t = a) := Lib.hid (by rw [HWN.out, if_neg (fun h => hqz h.2)])
            go_wp2_with fail
            go_quiet ((go_at_call 21; exact quiet_same (CM.out _ _ _)))
            obtain ⟨W, hd, hW⟩ : ∃ W, Drew w3 W ∧ w3.drewN nq = W := ⟨_, ⟨nq, rfl⟩, rfl⟩
            rw [hW]
            have hb04 := below_drewN hb03 nq
            rw [hW] at hb04
            clear k0 k1 k2 k3 k4 k5 k6
            obtain ⟨k0, k1, k2, k3, k4, k5, k6⟩ := pol_box F (hd.blo hX3)
            go_wp2_with fail
            refine (rwithin_any _ _ _ _).mono ?_
            rintro e w4 ⟨rfl, rfl⟩
            go_wp2
            go_ret2
            rw [HS.out, HV.out, HE.out]
            exact ⟨rfl, hb04⟩
        · have HV : Hid (K.wnt F x t = a) := Lib.hid (by rw [HWN.out, if_neg (fun h => ht h.1)])
          go_wp2_with fail
          refine wp_fam (n := 11) (size := 69) (D := [42, 43, 44, 45, 46, 47, 48, 49, 50, 51, 52]) [(42, isV (.int .i64 t)), (43, isV (.bool false)), (44, isV (.bool false)), (45, isV undef), (46, isV undef), (47, isV undef), (48, isV undef), (49, isV undef), (50, isV undef), (51, isV undef), (52, isV (.bool false))] (by kernel_rfl) (by rfl) (by kernel_rfl) ?_ ?_
          · simp only [List.take_succ_cons, List.take_zero, famAll]
            repeat' apply And.intro
            · intro f V hg hl
              simp [Oper.looksAt, Op.operands, Call.operands, famAt, famOf, isV] at hl
              simp [famWants, boolIs_bool, boolIs_undef, execOp, rho, go_sem, hl, famUpon, famOf, isV, Grows.refl]
            · intro f V hg hl
              simp [Oper.looksAt, Op.operands, Call.operands, famAt, famOf, isV] at hl
              simp [famWants, boolIs_bool, boolIs_undef, execOp, rho, go_sem, hl, ht, famUpon, famOf, isV, Grows.refl]
            · intro f V hg hl
              simp [Oper.looksAt, Op.operands, Call.operands, famAt, famOf, isV] at hl
              simp [famWants, boolIs_bool, boolIs_undef, execOp, rho, go_sem, hl, famUpon, famOf, isV, Grows.refl]
            · intro f V hg hl
              simp [Oper.looksAt, Op.operands, Call.operands, famAt, famOf, isV] at hl
              simp [famWants, boolIs_bool, boolIs_undef, execOp, rho, go_sem, hl, famUpon, famOf, isV, Grows.refl]
            · intro f V hg hl
              simp [Oper.looksAt, Op.operands, Call.operands, famAt, famOf, isV] at hl
              simp [famWants, boolIs_bool, boolIs_undef, execOp, rho, go_sem, hl, famUpon, famOf, isV, Grows.refl]
            · intro f V hg hl
              simp [Oper.looksAt, Op.operands, Call.operands, famAt, famOf, isV] at hl
              simp [famWants, boolIs_bool, boolIs_undef, execOp, rho, go_sem, hl, famUpon, famOf, isV, Grows.refl]
            · intro f V hg hl
              simp [Oper.looksAt, Op.operands, Call.operands, famAt, famOf, isV] at hl
              simp [famWants, boolIs_bool, boolIs_undef, execOp, rho, go_sem, hl, famUpon, famOf, isV, Grows.refl]
            · intro f V hg hl
              simp [Oper.looksAt, Op.operands, Call.operands, famAt, famOf, isV] at hl
              simp [famWants, boolIs_bool, boolIs_undef, execOp, rho, go_sem, hl, famUpon, famOf, isV, Grows.refl]
            · intro f V hg hl
              simp [Oper.looksAt, Op.operands, Call.operands, famAt, famOf, isV] at hl
              simp [famWants, boolIs_bool, boolIs_undef, execOp, rho, go_sem, hl, famUpon, famOf, isV, Grows.refl]
            · intro f V hg hl
              simp [Oper.looksAt, Op.operands, Call.operands, famAt, famOf, isV] at hl
              simp [famWants, boolIs_bool, boolIs_undef, execOp, rho, go_sem, hl, famUpon, famOf, isV, Grows.refl]
            · intro f V hg hl
              simp [Oper.looksAt, Op.operands, Call.operands, famAt, famOf, isV] at hl
              simp [famWants, boolIs_bool, boolIs_undef, execOp, rho, go_sem, hl, famUpon, famOf, isV, Grows.refl]
            · trivial
          · intro u V hgV hu
            have e52 : u 52 = .bool false := hu 52 (by decide)
            simp only [List.drop_succ_cons, List.drop_zero, fill, Act.put, List.setIfInBounds_toArray, List.set_cons_zero, List.set_cons_succ, e52]
            refine wpList_nil ?_
            have hb04 := below_new hb03 hgV
            clear hu e52 k0 k1 k2 k3 k4 k5 k6
            obtain ⟨k0, k1, k2, k3, k4, k5, k6⟩ := pol_box F (hX3.new hgV)
            go_wp2_with fail
            refine (rwithin_any _ _ _ _).mono ?_
            rintro e w4 ⟨rfl, rfl⟩
            go_wp2
            go_ret2
            rw [HS.out, HV.out, HE.out]
            exact ⟨rfl, hb04⟩
      · have hod : o = d := by rw [HO.out, if_neg hdn]
        subst hod
        go_wp2_with fail
        refine (C4.out _).mono ?_
        rintro e w3 ⟨rfl, hb3⟩
        clear k0 k1 k2 k3 k4 k5 k6
        have hX3 := hX2.new hb3
        have hb03 := below_new hb02 hb3
        obtain ⟨k0, k1, k2, k3, k4, k5, k6⟩ := pol_box F hX3
        clear hb02 hb3 hX2
        by_cases ht : 0 < t
        · by_cases hqz : mf 100 o ≤ mf (F 9) ca
          · have HV : Hid (K.wnt F x t = S.within t (F 6) (F 7)) := Lib.hid (by rw [HWN.out, if_pos ⟨ht, hqz⟩])
            go_wp2_with fail
            go_quiet ((go_at_call 21; exact quiet_same (CM.out _ _ _)))
            obtain ⟨W, hd, hW⟩ : ∃ W, Drew w3 W ∧ w3.drewN nq = W := ⟨_, ⟨nq, rfl⟩, rfl⟩
            rw [hW]
            have hb04 := below_drewN hb03 nq
            rw [hW] at hb04
            clear k0 k1 k2 k3 k4 k5 k6
            obtain ⟨k0, k1, k2, k3, k4, k5, k6⟩ := pol_box F (hd.blo hX3)
            go_wp2_with fail
            refine (C7.out _).mono ?_
            rintro e w4 ⟨rfl, rfl⟩
            go_wp2_with fail
            refine (rwithin_any _ _ _ _).mono ?_
            rintro e w4 ⟨rfl, rfl⟩
            go_wp2
            go_ret2
            rw [HS.out, HV.out, HE.out]
            exact ⟨rfl, hb04⟩
          · have HV : Hid (K.wnt F x t = a) := Lib.hid (by rw [HWN.out, if_neg (fun h => hqz h.2)])
            go_wp2_with fail
            go_quiet ((go_at_call 21; exact quiet_same (CM.out _ _ _)))
            obtain ⟨W, hd, hW⟩ : ∃ W, Drew w3 W ∧ w3.drewN nq = W := ⟨_, ⟨nq, rfl⟩, rfl⟩
            rw [hW]
            have hb04 := below_drewN hb03 nq
            rw [hW] at hb04
            clear k0 k1 k2 k3 k4 k5 k6
            obtain ⟨k0, k1, k2, k3, k4, k5, k6⟩ := pol_box F (hd.blo hX3)
            go_wp2_with fail
            refine (rwithin_any _ _ _ _).mono ?_
            rintro e w4 ⟨rfl, rfl⟩
            go_wp2
            go_ret2
            rw [HS.out, HV.out, HE.out]
            exact ⟨rfl, hb04⟩
        · have HV : Hid (K.wnt F x t = a) := Lib.hid (by rw [HWN.out, if_neg (fun h => ht h.1)])
          go_wp2_with fail
          refine wp_fam (n := 11) (size := 69) (D := [42, 43, 44, 45, 46, 47, 48, 49, 50, 51, 52]) [(42, isV (.int .i64 t)), (43, isV (.bool false)), (44, isV (.bool false)), (45, isV undef), (46, isV undef), (47, isV undef), (48, isV undef), (49, isV undef), (50, isV undef), (51, isV undef), (52, isV (.bool false))] (by kernel_rfl) (by rfl) (by kernel_rfl) ?_ ?_
          · simp only [List.take_succ_cons, List.take_zero, famAll]
            repeat' apply And.intro
            · intro f V hg hl
              simp [Oper.looksAt, Op.operands, Call.operands, famAt, famOf, isV] at hl
              simp [famWants, boolIs_bool, boolIs_undef, execOp, rho, go_sem, hl, famUpon, famOf, isV, Grows.refl]
            · intro f V hg hl
              simp [Oper.looksAt, Op.operands, Call.operands, famAt, famOf, isV] at hl
              simp [famWants, boolIs_bool, boolIs_undef, execOp, rho, go_sem, hl, ht, famUpon, famOf, isV, Grows.refl]
            · intro f V hg hl
              simp [Oper.looksAt, Op.operands, Call.operands, famAt, famOf, isV] at hl
              simp [famWants, boolIs_bool, boolIs_undef, execOp, rho, go_sem, hl, famUpon, famOf, isV, Grows.refl]
            · intro f V hg hl
              simp [Oper.looksAt, Op.operands, Call.operands, famAt, famOf, isV] at hl
              simp [famWants, boolIs_bool, boolIs_undef, execOp, rho, go_sem, hl, famUpon, famOf, isV, Grows.refl]
            · intro f V hg hl
              simp [Oper.looksAt, Op.operands, Call.operands, famAt, famOf, isV] at hl
              simp [famWants, boolIs_bool, boolIs_undef, execOp, rho, go_sem, hl, famUpon, famOf, isV, Grows.refl]
            · intro f V hg hl
              simp [Oper.looksAt, Op.operands, Call.operands, famAt, famOf, isV] at hl
              simp [famWants, boolIs_bool, boolIs_undef, execOp, rho, go_sem, hl, famUpon, famOf, isV, Grows.refl]
            · intro f V hg hl
              simp [Oper.looksAt, Op.operands, Call.operands, famAt, famOf, isV] at hl
              simp [famWants, boolIs_bool, boolIs_undef, execOp, rho, go_sem, hl, famUpon, famOf, isV, Grows.refl]
            · intro f V hg hl
              simp [Oper.looksAt, Op.operands, Call.operands, famAt, famOf, isV] at hl
              simp [famWants, boolIs_bool, boolIs_undef, execOp, rho, go_sem, hl, famUpon, famOf, isV, Grows.refl]
            · intro f V hg hl
              simp [Oper.looksAt, Op.operands, Call.operands, famAt, famOf, isV] at hl
              simp [famWants, boolIs_bool, boolIs_undef, execOp, rho, go_sem, hl, famUpon, famOf, isV, Grows.refl]
            · intro f V hg hl
              simp [Oper.looksAt, Op.operands, Call.operands, famAt, famOf, isV] at hl
              simp [famWants, boolIs_bool, boolIs_undef, execOp, rho, go_sem, hl, famUpon, famOf, isV, Grows.refl]
            · intro f V hg hl
              simp [Oper.looksAt, Op.operands, Call.operands, famAt, famOf, isV] at hl
              simp [famWants, boolIs_bool, boolIs_undef, execOp, rho, go_sem, hl, famUpon, famOf, isV, Grows.refl]
            · trivial
          · intro u V hgV hu
            have e52 : u 52 = .bool false := hu 52 (by decide)
            simp only [List.drop_succ_cons, List.drop_zero, fill, Act.put, List.setIfInBounds_toArray, List.set_cons_zero, List.set_cons_succ, e52]
            refine wpList_nil ?_
            have hb04 := below_new hb03 hgV
            clear hu e52 k0 k1 k2 k3 k4 k5 k6
            obtain ⟨k0, k1, k2, k3, k4, k5, k6⟩ := pol_box F (hX3.new hgV)
            go_wp2_with fail
            refine (rwithin_any _ _ _ _).mono ?_
            rintro e w4 ⟨rfl, rfl⟩
            go_wp2
            go_ret2
            rw [HS.out, HV.out, HE.out]
            exact ⟨rfl, hb04⟩
    · have hok : K.ok F t = false := by unfold K.ok; rw [hr]; simpa using fun h => by omega
      have HA : Hid (K.stp F x t = 0 ∧ K.err F t = 2) := Lib.hid ⟨by unfold K.stp; rw [hok]; simp, by unfold K.err; rw [hok]; simp⟩
      clear hok hr
      rcases (show t < 0 ∨ 1000 < t by omega) with ht | ht
      · go_enter Try.func10, Try.ntmps10
        go_wp2_with fail
        refine (hrp _).mono ?_
        rintro e w2 ⟨rfl, hb2⟩
        rw [HW1.out] at hb2
        go_wp2
        go_ret2
        rw [HA.out.1, HA.out.2]
        exact ⟨rfl, below_new hb1 hb2⟩
      · have ht0 : ¬ t < 0 := by omega
        go_enter Try.func10, Try.ntmps10
        go_wp2_with fail
        refine (hrp _).mono ?_
        rintro e w2 ⟨rfl, hb2⟩
        rw [HW1.out] at hb2
        go_wp2
        go_ret2
        rw [HA.out.1, HA.out.2]
        exact ⟨rfl, below_new hb1 hb2⟩
end Go.Proofs.Ytdppabnhflaoeaa
