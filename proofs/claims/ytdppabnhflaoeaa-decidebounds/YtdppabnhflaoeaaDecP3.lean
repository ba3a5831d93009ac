/- Layer 11, the program's: what is wanted; Step. -/
import Derived.Test.YtdppabnhflaoeaaDecP2
namespace Go.Proofs.Ytdppabnhflaoeaa
set_option linter.unusedVariables false
set_option linter.unusedSimpArgs false
open Go.ChangeShapes Go.WideShapes Go.ChangeAt Go.RowKit

set_option maxRecDepth 100000 in
set_option maxHeartbeats 1000000 in
theorem wanted_any (F : Nat → Int) (x t : Int) (w : World) (ht : 0 ≤ t) : Calls Try.prog 18 #[sv F (K.ld x) t] w fun e w' => e = .returned (.int .i64 (K.wnt F x t)) ∧ Below w.heap.size w w' := by
  have HV : Hid (K.wnt F x t = if K.slk F x t = true then S.within t (F 6) (F 7) else askN F (K.ld x)) := Lib.hid rfl
  have HS := Lib.hid (fun W => slack_any F x t W ht)
  obtain ⟨y, hy⟩ : ∃ y, y = K.ld x := ⟨_, rfl⟩
  rw [← hy] at HS HV ⊢
  obtain ⟨a, ha⟩ : ∃ a, a = askN F y := ⟨_, rfl⟩
  have ca := fun W => asked_any F y W
  rw [← ha] at HV ca
  have CA := Lib.hid ca
  obtain ⟨w1, hw1⟩ : ∃ W, w.alloc (.cells (scs F y t) 46) = W := ⟨_, rfl⟩
  have hb1 : Below w.heap.size w w1 := by rw [← hw1]; exact b_alloc _ _
  have hX1 : Blo w1 w.heap.size 46 (scs F y t) := by rw [← hw1]; exact Blo.made _ _ _
  have HW1 := Lib.hid hw1
  obtain ⟨k0, k1, k2, k3, k4, k5, k6, k7, k8⟩ := st_box F y t hX1
  rw [← HW1.out] at k0 k1 k2 k3 k4 k5 k6 k7 k8
  clear hw1 hy ha ca ht
  cases hs : K.slk F x t with
  | true =>
    rw [hs] at HS
    have HV2 : Hid (K.wnt F x t = S.within t (F 6) (F 7)) := Lib.hid (by rw [HV.out, if_pos hs])
    clear HV hs
    go_enter Try.func18, Try.ntmps18
    go_wp2_with fail
    rw [HW1.out]
    refine (HS.out _).mono ?_
    rintro e w2 ⟨rfl, hb2⟩
    have hX2 := hX1.new hb2
    have hb02 := below_new hb1 hb2
    clear k0 k1 k2 k3 k4 k5 k6 k7 k8
    obtain ⟨k0, k1, k2, k3, k4, k5, k6, k7, k8⟩ := st_box F y t hX2
    clear hb1 hX1 hb2
    go_wp2_with fail
    refine (pol_clamp F y t t _).mono ?_
    rintro e w3 ⟨rfl, hb3⟩
    go_wp2
    go_ret
    rw [HV2.out]
    exact ⟨rfl, below_new hb02 hb3⟩
  | false =>
    rw [hs] at HS
    have HV2 : Hid (K.wnt F x t = a) := Lib.hid (by rw [HV.out, if_neg (by rw [hs]; decide)])
    clear HV hs
    go_enter Try.func18, Try.ntmps18
    go_wp2_with fail
    rw [HW1.out]
    refine (HS.out _).mono ?_
    rintro e w2 ⟨rfl, hb2⟩
    have hX2 := hX1.new hb2
    have hb02 := below_new hb1 hb2
    clear k0 k1 k2 k3 k4 k5 k6 k7 k8
    obtain ⟨k0, k1, k2, k3, k4, k5, k6, k7, k8⟩ := st_box F y t hX2
    clear hb1 hX1 hb2
    go_wp2_with fail
    refine (CA.out _).mono ?_
    rintro e w3 ⟨rfl, hb3⟩
    go_wp2
    go_ret
    rw [HV2.out]
    exact ⟨rfl, below_new hb02 hb3⟩

set_option maxRecDepth 100000 in
set_option maxHeartbeats 4000000 in
theorem pstep_any (F : Nat → Int) (x t : Int) (w : World) : Calls Try.prog 9 #[pv F, .int .i64 x, .int .i64 t] w fun e w' => e = .returned (.tuple #[.int .i64 (K.stp F x t), .int .i64 (K.err F t)]) ∧ Below w.heap.size w w' := by
  obtain ⟨w1, hw1⟩ : ∃ W, w.alloc (.cells (pcs F) 23) = W := ⟨_, rfl⟩
  have hb1 : Below w.heap.size w w1 := by rw [← hw1]; exact b_alloc _ _
  have hX1 : Blo w1 w.heap.size 23 (pcs F) := by rw [← hw1]; exact Blo.made _ _ _
  have HW1 := Lib.hid hw1
  have hrp := fun W => rightpol_any F W
  clear hw1
  cases hr : E.rp F with
  | false =>
    have hok : K.ok F t = false := by unfold K.ok; rw [hr]; rfl
    have HA : Hid (K.stp F x t = 0 ∧ K.err F t = 2) := Lib.hid ⟨by unfold K.stp; rw [hok]; simp, by unfold K.err; rw [hok]; simp⟩
    rw [hr] at hrp
    clear hok hr
    go_enter Try.func9, Try.ntmps9
    go_wp2_with fail
    refine (hrp _).mono ?_
    rintro e w2 ⟨rfl, hb2⟩
    rw [HW1.out] at hb2
    go_wp2
    go_ret2
    rw [HA.out.1, HA.out.2]
    exact ⟨rfl, below_new hb1 hb2⟩
  | true =>
    rw [hr] at hrp
    by_cases h0 : 0 ≤ t ∧ t ≤ 1000
    · obtain ⟨h0, h1⟩ := h0
      have h0' : ¬ t < 0 := by omega
      have h1' : ¬ 1000 < t := by omega
      have hok : K.ok F t = true := by unfold K.ok; rw [hr]; simpa using ⟨h0, h1⟩
      have hp := K.rp_all hr
      have HE : Hid (K.err F t = 0) := Lib.hid (by unfold K.err; rw [hok]; simp)
      have HS : Hid (K.stp F x t = S.within (K.wnt F x t) (t - F 11) (t + F 10)) := Lib.hid (by unfold K.stp; rw [hok]; simp)
      obtain ⟨v, hv⟩ : ∃ v, v = K.wnt F x t := ⟨_, rfl⟩
      have cw := fun W => wanted_any F x t W h0
      rw [← hv] at HS cw
      have hlx : S.within x 0 1099511627776 = K.ld x := rfl
      have cl := fun W => ld_clamp F x t x W
      rw [hlx] at cl
      obtain ⟨y, hy⟩ : ∃ y, y = K.ld x := ⟨_, rfl⟩
      rw [← hy] at cw cl
      have g1 : IntKind.i64.wrap (t - F 11) = t - F 11 := IntWalk.i64_in _ (by omega)
      have g2 : IntKind.i64.wrap (t + F 10) = t + F 10 := IntWalk.i64_in _ (by omega)
      obtain ⟨r, hr9⟩ : ∃ r, r = S.within v (t - F 11) (t + F 10) := ⟨_, rfl⟩
      have cp := fun W => pace_clamp F y t v W g1 g2
      rw [← hr9] at cp HS
      have CW := Lib.hid cw
      have CL := Lib.hid cl
      have CP := Lib.hid cp
      clear cw cl cp hlx hv hy hok hp hr g1 g2 hr9
      go_enter Try.func9, Try.ntmps9
      go_wp2_with fail
      refine (hrp _).mono ?_
      rintro e w2 ⟨rfl, hb2⟩
      rw [HW1.out] at hb2
      have hX2 := hX1.new hb2
      have hb02 := below_new hb1 hb2
      obtain ⟨k0, k1, k2, k3, k4, k5, k6⟩ := pol_box F hX2
      clear hb1 hb2 hX1 hrp
      obtain ⟨w3, hw3⟩ : ∃ W, w2.alloc (.cells (scs F x t) 46) = W := ⟨_, rfl⟩
      have hb3 : Below w2.heap.size w2 w3 := by rw [← hw3]; exact b_alloc _ _
      have hX3 : Blo w3 w2.heap.size 46 (scs F x t) := by rw [← hw3]; exact Blo.made _ _ _
      have HW3 := Lib.hid hw3
      clear hw3
      go_wp2_with fail
      rw [HW3.out]
      refine (CL.out _).mono ?_
      rintro e w4 ⟨rfl, hb4⟩
      have hX4 := hX3.new hb4
      have hb24 := below_new hb3 hb4
      have hb04 := below_new hb02 hb24
      have hge : w.heap.size ≤ w2.heap.size := hb02.size
      obtain ⟨w5, hw5⟩ : ∃ W, w4.setCell ⟨w2.heap.size, 7, none⟩ (.int .i64 y) = W := ⟨_, rfl⟩
      have hgx : w4.grownBy w5 (some w2.heap.size) := by rw [← hw5]; exact gb_set (World.grownBy.refl _ _) (.inl rfl) _
      have f7 := hX4.frozen 7
      have y7 : w4.cell? ⟨w2.heap.size, 7, none⟩ = some (.int .i64 x) := by simpa using hX4.cell 7
      have hX5 : Blo w5 w2.heap.size 46 (scs F y t) := by rw [← hw5]; exact hX4.put 7 (.int .i64 y)
      have hb05 := hb04.grown hgx hb04.size (fun k hk => by injection hk with hk; omega)
      clear hX2 hX3 hX4 hb3 hb4 hb24 hb04 hgx HW3 k0 k1 k2 k3 k4 k5 k6 hb02
      go_wp2_with fail
      clear f7 y7 hw5
      refine wp_fam (n := 6) (size := 32) (D := [28, 29, 30, 31, 6, 7]) [(28, isV (sv F y t)), (29, isV (sv F y t)), (30, isV (.int .i64 (v))), (31, isV (.int .i64 (r))), (6, isV (.int .i64 (r))), (7, isV (.int .i64 (0)))] (by kernel_rfl) (by rfl) (by kernel_rfl) ?_ ?_
      · simp only [List.take_succ_cons, List.take_zero, famAll]
        repeat' apply And.intro
        · intro f V hg hl
          obtain ⟨z0, z1, z2, z3, z4, z5, z6, z7, z8⟩ := st_box F y t (hX5.new hg)
          simp [Oper.looksAt, Op.operands, Call.operands, famAt, famOf, isV] at hl
          simp [famWants, boolIs_bool, boolIs_undef, execOp, rho, go_sem, hl, z0, z1, z2, z3, z4, z5, z6, z7, z8, famUpon, famOf, isV, Grows.refl]
        · intro f V hg hl
          obtain ⟨z0, z1, z2, z3, z4, z5, z6, z7, z8⟩ := st_box F y t (hX5.new hg)
          simp [Oper.looksAt, Op.operands, Call.operands, famAt, famOf, isV] at hl
          simp [famWants, boolIs_bool, boolIs_undef, execOp, rho, go_sem, hl, z0, z1, z2, z3, z4, z5, z6, z7, z8, famUpon, famOf, isV, Grows.refl]
        · intro f V hg hl
          simp [Oper.looksAt, Op.operands, Call.operands, famAt, famOf, isV] at hl
          simp [famWants, boolIs_bool, boolIs_undef, execOp, rho, go_sem, hl, famUpon, famOf, isV, Grows.refl]
          refine (CW.out _).mono ?_
          rintro e w' ⟨rfl, hb'⟩
          exact ⟨rfl, hb'⟩
        · intro f V hg hl
          simp [Oper.looksAt, Op.operands, Call.operands, famAt, famOf, isV] at hl
          simp [famWants, boolIs_bool, boolIs_undef, execOp, rho, go_sem, hl, famUpon, famOf, isV, Grows.refl]
          refine (CP.out _).mono ?_
          rintro e w' ⟨rfl, hb'⟩
          exact ⟨rfl, hb'⟩
        · intro f V hg hl
          simp [Oper.looksAt, Op.operands, Call.operands, famAt, famOf, isV] at hl
          simp [famWants, boolIs_bool, boolIs_undef, execOp, rho, go_sem, hl, famUpon, famOf, isV, Grows.refl]
        · intro f V hg hl
          simp [Oper.looksAt, Op.operands, Call.operands, famAt, famOf, isV] at hl
          simp [famWants, boolIs_bool, boolIs_undef, execOp, rho, go_sem, hl, famUpon, famOf, isV, Grows.refl]
        · trivial
      · intro u V hgV hu
        have e6 : u 6 = .int .i64 r := hu 6 (by decide)
        have e7 : u 7 = .int .i64 0 := hu 7 (by decide)
        simp only [List.drop_succ_cons, List.drop_zero, fill, Act.put, List.setIfInBounds_toArray, List.set_cons_zero, List.set_cons_succ, e6, e7]
        refine wpList_nil ?_
        clear hu e6 e7
        go_wp2
        go_ret2
        rw [HS.out, HE.out]
        exact ⟨rfl, below_new hb05 hgV⟩
    · have hok : K.ok F t = false := by unfold K.ok; rw [hr]; simpa using fun h => by omega
      have HA : Hid (K.stp F x t = 0 ∧ K.err F t = 2) := Lib.hid ⟨by unfold K.stp; rw [hok]; simp, by unfold K.err; rw [hok]; simp⟩
      clear hok hr
      rcases (show t < 0 ∨ 1000 < t by omega) with ht | ht
      · go_enter Try.func9, Try.ntmps9
        go_wp2_with fail
        refine (hrp _).mono ?_
        rintro e w2 ⟨rfl, hb2⟩
        rw [HW1.out] at hb2
        go_wp2
        go_ret2
        rw [HA.out.1, HA.out.2]
        exact ⟨rfl, below_new hb1 hb2⟩
      · have ht0 : ¬ t < 0 := by omega
        go_enter Try.func9, Try.ntmps9
        go_wp2_with fail
        refine (hrp _).mono ?_
        rintro e w2 ⟨rfl, hb2⟩
        rw [HW1.out] at hb2
        go_wp2
        go_ret2
        rw [HA.out.1, HA.out.2]
        exact ⟨rfl, below_new hb1 hb2⟩
end Go.Proofs.Ytdppabnhflaoeaa
