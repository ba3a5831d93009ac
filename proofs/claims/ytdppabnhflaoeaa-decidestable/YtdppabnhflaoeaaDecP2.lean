/- Layer 11, the program's: the slack. -/
import Derived.Test.YtdppabnhflaoeaaDecP1
import Derived.Lib.MinMax
namespace Go.Proofs.Ytdppabnhflaoeaa
set_option linter.unusedVariables false
set_option linter.unusedSimpArgs false
open Go.ChangeShapes Go.WideShapes Go.ChangeAt Go.RowKit

theorem S.sub_neg (a b : Int) : S.sub b a = -S.sub a b := by
  unfold S.sub
  rw [← S.clamp_neg]
  congr 1
  omega
/-- How far off, from either side. -/
theorem K.off_two (F : Nat → Int) (x t : Int) : K.off F x t = if S.sub (K.ld x) (K.carr F t) < S.sub (K.carr F t) (K.ld x) then S.sub (K.carr F t) (K.ld x) else S.sub (K.ld x) (K.carr F t) := by
  unfold K.off
  rw [S.sub_neg (K.ld x) (K.carr F t)]
  split <;> split <;> omega
theorem K.slk_ne (F : Nat → Int) (x t : Int) (ht : 0 ≤ t) : K.slk F x t = decide (t ≠ 0 ∧ S.mul 100 (K.off F x t) ≤ S.mul (F 9) (K.carr F t)) := by
  unfold K.slk
  have : (0 < t) ↔ t ≠ 0 := by omega
  simp [this]
set_option maxRecDepth 100000 in
set_option maxHeartbeats 1000000 in
theorem slack_any (F : Nat → Int) (x t : Int) (w : World) (ht : 0 ≤ t) : Calls Try.prog 28 #[sv F (K.ld x) t] w fun e w' => e = .returned (.bool (K.slk F x t)) ∧ Below w.heap.size w w' := by
  have HV := Lib.hid (K.slk_ne F x t ht)
  obtain ⟨o, ho⟩ : ∃ o, o = K.off F x t := ⟨_, rfl⟩
  have hoo := K.off_two F x t
  rw [← ho] at HV hoo
  obtain ⟨y, hy⟩ : ∃ y, y = K.ld x := ⟨_, rfl⟩
  rw [← hy] at hoo ⊢
  obtain ⟨ca, hca⟩ : ∃ ca, ca = K.carr F t := ⟨_, rfl⟩
  rw [← hca] at HV hoo
  obtain ⟨w1, hw1⟩ : ∃ W, w.alloc (.cells (scs F y t) 46) = W := ⟨_, rfl⟩
  have hb1 : Below w.heap.size w w1 := by rw [← hw1]; exact b_alloc _ _
  have hX1 : Blo w1 w.heap.size 46 (scs F y t) := by rw [← hw1]; exact Blo.made _ _ _
  have HW1 := Lib.hid hw1
  obtain ⟨k0, k1, k2, k3, k4, k5, k6, k7, k8⟩ := st_box F y t hX1
  rw [← HW1.out] at k0 k1 k2 k3 k4 k5 k6 k7 k8
  obtain ⟨mf, hmf⟩ : ∃ f : Int → Int → Int, f = S.mul := ⟨_, rfl⟩
  rw [← hmf] at HV
  have c0 := fun W => mul_any t (F 8) W
  have e0 : S.mul t (F 8) = ca := hca.symm
  rw [e0] at c0
  have cm := fun u v W => mul_any u v W
  rw [← hmf] at cm
  obtain ⟨d1, hd1⟩ : ∃ d, d = S.sub y ca := ⟨_, rfl⟩
  obtain ⟨d2, hd2⟩ : ∃ d, d = S.sub ca y := ⟨_, rfl⟩
  have c1 := fun W => sub_any y ca W
  have c2 := fun W => sub_any ca y W
  rw [← hd1] at c1 hoo
  rw [← hd2] at c2 hoo
  have C0 := Lib.hid c0
  have C1 := Lib.hid c1
  have C2 := Lib.hid c2
  have CM := Lib.hid cm
  have hmx : max d1 d2 = o := by rw [hoo, Int.max_def]; split <;> split <;> omega
  have HO := Lib.hid hmx
  clear hw1 hmf cm c0 c1 c2 e0 hd1 hd2 hy ho hca hoo hmx ht
  go_enter Try.func28, Try.ntmps28
  go_wp2_with fail
  rw [HW1.out]
  refine (C0.out _).mono ?_
  rintro e w2 ⟨rfl, hb2⟩
  have hX2 := hX1.new hb2
  have hb02 := below_new hb1 hb2
  clear hb1 hX1 hb2 k0 k1 k2 k3 k4 k5 k6 k7 k8
  go_wp2_with fail
  refine wp_fam (n := 10) (size := 33) (D := [11, 12, 13, 14, 15, 16, 17, 18, 19, 4]) [(11, isV (.pointer (some ⟨w.heap.size, 7, none⟩))), (12, isV (.int .i64 (y))), (13, isV (.int .i64 (ca))), (14, isV (.int .i64 (d1))), (15, isV (.int .i64 (ca))), (16, isV (.pointer (some ⟨w.heap.size, 7, none⟩))), (17, isV (.int .i64 (y))), (18, isV (.int .i64 (d2))), (19, isV (.int .i64 (o))), (4, isV (.int .i64 (o)))] (by kernel_rfl) (by rfl) (by kernel_rfl) ?_ ?_
  · simp only [List.take_succ_cons, List.take_zero, famAll]
    repeat' apply And.intro
    · intro f V hg hl
      simp [Oper.looksAt, Op.operands, Call.operands, famAt, famOf, isV] at hl
      simp [famWants, boolIs_bool, boolIs_undef, execOp, rho, go_sem, hl, famUpon, famOf, isV, Grows.refl]
    · intro f V hg hl
      obtain ⟨k0, k1, k2, k3, k4, k5, k6, k7, k8⟩ := st_box F y t (hX2.new hg)
      simp [Oper.looksAt, Op.operands, Call.operands, famAt, famOf, isV] at hl
      simp [famWants, boolIs_bool, boolIs_undef, execOp, rho, go_sem, hl, k7, famUpon, famOf, isV, Grows.refl]
    · intro f V hg hl
      simp [Oper.looksAt, Op.operands, Call.operands, famAt, famOf, isV] at hl
      simp [famWants, boolIs_bool, boolIs_undef, execOp, rho, go_sem, hl, famUpon, famOf, isV, Grows.refl]
    · intro f V hg hl
      simp [Oper.looksAt, Op.operands, Call.operands, famAt, famOf, isV] at hl
      simp [famWants, boolIs_bool, boolIs_undef, execOp, rho, go_sem, hl, famUpon, famOf, isV, Grows.refl]
      refine (C1.out _).mono ?_
      rintro e w' ⟨rfl, hb'⟩
      exact ⟨rfl, hb'⟩
    · intro f V hg hl
      simp [Oper.looksAt, Op.operands, Call.operands, famAt, famOf, isV] at hl
      simp [famWants, boolIs_bool, boolIs_undef, execOp, rho, go_sem, hl, famUpon, famOf, isV, Grows.refl]
    · intro f V hg hl
      simp [Oper.looksAt, Op.operands, Call.operands, famAt, famOf, isV] at hl
      simp [famWants, boolIs_bool, boolIs_undef, execOp, rho, go_sem, hl, famUpon, famOf, isV, Grows.refl]
    · intro f V hg hl
      obtain ⟨k0, k1, k2, k3, k4, k5, k6, k7, k8⟩ := st_box F y t (hX2.new hg)
      simp [Oper.looksAt, Op.operands, Call.operands, famAt, famOf, isV] at hl
      simp [famWants, boolIs_bool, boolIs_undef, execOp, rho, go_sem, hl, k7, famUpon, famOf, isV, Grows.refl]
    · intro f V hg hl
      simp [Oper.looksAt, Op.operands, Call.operands, famAt, famOf, isV] at hl
      simp [famWants, boolIs_bool, boolIs_undef, execOp, rho, go_sem, hl, famUpon, famOf, isV, Grows.refl]
      refine (C2.out _).mono ?_
      rintro e w' ⟨rfl, hb'⟩
      exact ⟨rfl, hb'⟩
    · intro f V hg hl
      simp [Oper.looksAt, Op.operands, Call.operands, famAt, famOf, isV] at hl
      simp [famWants, boolIs_bool, boolIs_undef, execOp, rho, go_sem, hl, HO.out, famUpon, famOf, isV, Grows.refl]
    · intro f V hg hl
      simp [Oper.looksAt, Op.operands, Call.operands, famAt, famOf, isV] at hl
      simp [famWants, boolIs_bool, boolIs_undef, execOp, rho, go_sem, hl, famUpon, famOf, isV, Grows.refl]
    · trivial
  · intro u V hgV hu
    have e4 : u 4 = .int .i64 o := hu 4 (by decide)
    simp only [List.drop_succ_cons, List.drop_zero, fill, Act.put, List.setIfInBounds_toArray, List.set_cons_zero, List.set_cons_succ, e4]
    refine wpList_nil ?_
    have hX3 := hX2.new hgV
    have hb03 := below_new hb02 hgV
    clear hu e4 hX2 hb02 hgV
    go_wp2_with fail
    have hslk : ∀ b, (t ≠ 0 ∧ mf 100 o ≤ mf (F 9) ca ↔ b = true) → K.slk F x t = b := fun b h => by rw [HV.out]; cases b <;> simp_all
    by_cases h0 : t = 0
    · have HS := Lib.hid (hslk false (by simp [h0]))
      clear hslk
      refine wp_fam (n := 14) (size := 33) (D := [20, 21, 22, 23, 24, 25, 26, 27, 28, 29, 30, 31, 32, 2]) [(20, isV (.pointer (some ⟨w.heap.size, 8, none⟩))), (21, isV (.int .i64 (t))), (22, isV (.bool false)), (23, isV (.bool false)), (24, isV undef), (25, isV undef), (26, isV undef), (27, isV undef), (28, isV undef), (29, isV undef), (30, isV undef), (31, isV undef), (32, isV (.bool false)), (2, isV (.bool false))] (by kernel_rfl) (by rfl) (by kernel_rfl) ?_ ?_
      · simp only [List.take_succ_cons, List.take_zero, famAll]
        repeat' apply And.intro
        · intro f V hg hl
          simp [Oper.looksAt, Op.operands, Call.operands, famAt, famOf, isV] at hl
          simp [famWants, boolIs_bool, boolIs_undef, execOp, rho, go_sem, hl, famUpon, famOf, isV, Grows.refl]
        · intro f V hg hl
          obtain ⟨k0, k1, k2, k3, k4, k5, k6, k7, k8⟩ := st_box F y t (hX3.new hg)
          simp [Oper.looksAt, Op.operands, Call.operands, famAt, famOf, isV] at hl
          simp [famWants, boolIs_bool, boolIs_undef, execOp, rho, go_sem, hl, k8, famUpon, famOf, isV, Grows.refl]
        · intro f V hg hl
          simp [Oper.looksAt, Op.operands, Call.operands, famAt, famOf, isV] at hl
          simp [famWants, boolIs_bool, boolIs_undef, execOp, rho, go_sem, hl, h0, famUpon, famOf, isV, Grows.refl]
        · intro f V hg hl
          simp [Oper.looksAt, Op.operands, Call.operands, famAt, famOf, isV] at hl
          simp [famWants, boolIs_bool, boolIs_undef, execOp, rho, go_sem, hl, famUpon, famOf, isV, Grows.refl]
        · intro f V hg hl
          simp [Oper.looksAt, Op.operands, Call.operands, famAt, famOf, isV] at hl
          simp [famWants, boolIs_bool, boolIs_undef, execOp, rho, go_sem, hl, famUpon, famOf, isV, Grows.refl]
        · intro f V hg hl
          simp [Oper.looksAt, Op.operands, Call.operands, famAt, famOf, isV] at hl
          simp [famWants, boolIs_bool, boolIs_undef, execOp, rho, go_sem, hl, famUpon, famOf, isV, Grows.refl]
        · intro f V hg hl
          simp [Oper.looksAt, Op.operands, Call.operands, famAt, famOf, isV] at hl
          simp [famWants, boolIs_bool, boolIs_undef, execOp, rho, go_sem, hl, famUpon, famOf, isV, Grows.refl]
        · intro f V hg hl
          simp [Oper.looksAt, Op.operands, Call.operands, famAt, famOf, isV] at hl
          simp [famWants, boolIs_bool, boolIs_undef, execOp, rho, go_sem, hl, famUpon, famOf, isV, Grows.refl]
        · intro f V hg hl
          simp [Oper.looksAt, Op.operands, Call.operands, famAt, famOf, isV] at hl
          simp [famWants, boolIs_bool, boolIs_undef, execOp, rho, go_sem, hl, famUpon, famOf, isV, Grows.refl]
        · intro f V hg hl
          simp [Oper.looksAt, Op.operands, Call.operands, famAt, famOf, isV] at hl
          simp [famWants, boolIs_bool, boolIs_undef, execOp, rho, go_sem, hl, famUpon, famOf, isV, Grows.refl]
        · intro f V hg hl
          simp [Oper.looksAt, Op.operands, Call.operands, famAt, famOf, isV] at hl
          simp [famWants, boolIs_bool, boolIs_undef, execOp, rho, go_sem, hl, famUpon, famOf, isV, Grows.refl]
        · intro f V hg hl
          simp [Oper.looksAt, Op.operands, Call.operands, famAt, famOf, isV] at hl
          simp [famWants, boolIs_bool, boolIs_undef, execOp, rho, go_sem, hl, famUpon, famOf, isV, Grows.refl]
        · intro f V hg hl
          simp [Oper.looksAt, Op.operands, Call.operands, famAt, famOf, isV] at hl
          simp [famWants, boolIs_bool, boolIs_undef, execOp, rho, go_sem, hl, famUpon, famOf, isV, Grows.refl]
        · intro f V hg hl
          simp [Oper.looksAt, Op.operands, Call.operands, famAt, famOf, isV] at hl
          simp [famWants, boolIs_bool, boolIs_undef, execOp, rho, go_sem, hl, famUpon, famOf, isV, Grows.refl]
        · trivial
      · intro u V hgV hu
        have e2 : u 2 = .bool false := hu 2 (by decide)
        simp only [List.drop_succ_cons, List.drop_zero, fill, Act.put, List.setIfInBounds_toArray, List.set_cons_zero, List.set_cons_succ, e2]
        refine wpList_nil ?_
        clear hu e2
        go_wp2
        go_ret
        rw [HS.out]
        exact ⟨rfl, below_new hb03 hgV⟩
    · have HS := Lib.hid (hslk (decide (mf 100 o ≤ mf (F 9) ca)) (by simp [h0]))
      clear hslk
      refine wp_fam (n := 14) (size := 33) (D := [20, 21, 22, 23, 24, 25, 26, 27, 28, 29, 30, 31, 32, 2]) [(20, isV (.pointer (some ⟨w.heap.size, 8, none⟩))), (21, isV (.int .i64 (t))), (22, isV (.bool true)), (23, isV (.bool true)), (24, isV (.int .i64 (o))), (25, isV (.int .i64 (mf 100 o))), (26, isV (.pointer (some ⟨w.heap.size, 0, none⟩))), (27, isV (.pointer (some ⟨w.heap.size, 3, none⟩))), (28, isV (.int .i64 (F 9))), (29, isV (.int .i64 (ca))), (30, isV (.int .i64 (mf (F 9) ca))), (31, isV (.bool (decide (mf 100 o ≤ mf (F 9) ca)))), (32, isV (.bool (decide (mf 100 o ≤ mf (F 9) ca)))), (2, isV (.bool (decide (mf 100 o ≤ mf (F 9) ca))))] (by kernel_rfl) (by rfl) (by kernel_rfl) ?_ ?_
      · simp only [List.take_succ_cons, List.take_zero, famAll]
        repeat' apply And.intro
        · intro f V hg hl
          simp [Oper.looksAt, Op.operands, Call.operands, famAt, famOf, isV] at hl
          simp [famWants, boolIs_bool, boolIs_undef, execOp, rho, go_sem, hl, famUpon, famOf, isV, Grows.refl]
        · intro f V hg hl
          obtain ⟨k0, k1, k2, k3, k4, k5, k6, k7, k8⟩ := st_box F y t (hX3.new hg)
          simp [Oper.looksAt, Op.operands, Call.operands, famAt, famOf, isV] at hl
          simp [famWants, boolIs_bool, boolIs_undef, execOp, rho, go_sem, hl, k8, famUpon, famOf, isV, Grows.refl]
        · intro f V hg hl
          simp [Oper.looksAt, Op.operands, Call.operands, famAt, famOf, isV] at hl
          simp [famWants, boolIs_bool, boolIs_undef, execOp, rho, go_sem, hl, h0, famUpon, famOf, isV, Grows.refl]
        · intro f V hg hl
          simp [Oper.looksAt, Op.operands, Call.operands, famAt, famOf, isV] at hl
          simp [famWants, boolIs_bool, boolIs_undef, execOp, rho, go_sem, hl, famUpon, famOf, isV, Grows.refl]
        · intro f V hg hl
          simp [Oper.looksAt, Op.operands, Call.operands, famAt, famOf, isV] at hl
          simp [famWants, boolIs_bool, boolIs_undef, execOp, rho, go_sem, hl, famUpon, famOf, isV, Grows.refl]
        · intro f V hg hl
          simp [Oper.looksAt, Op.operands, Call.operands, famAt, famOf, isV] at hl
          simp [famWants, boolIs_bool, boolIs_undef, execOp, rho, go_sem, hl, famUpon, famOf, isV, Grows.refl]
          refine (CM.out _ _ _).mono ?_
          rintro e w' ⟨rfl, hb'⟩
          exact ⟨rfl, hb'⟩
        · intro f V hg hl
          simp [Oper.looksAt, Op.operands, Call.operands, famAt, famOf, isV] at hl
          simp [famWants, boolIs_bool, boolIs_undef, execOp, rho, go_sem, hl, famUpon, famOf, isV, Grows.refl]
        · intro f V hg hl
          simp [Oper.looksAt, Op.operands, Call.operands, famAt, famOf, isV] at hl
          simp [famWants, boolIs_bool, boolIs_undef, execOp, rho, go_sem, hl, famUpon, famOf, isV, Grows.refl]
        · intro f V hg hl
          obtain ⟨k0, k1, k2, k3, k4, k5, k6, k7, k8⟩ := st_box F y t (hX3.new hg)
          simp [Oper.looksAt, Op.operands, Call.operands, famAt, famOf, isV] at hl
          simp [famWants, boolIs_bool, boolIs_undef, execOp, rho, go_sem, hl, k3, famUpon, famOf, isV, Grows.refl]
        · intro f V hg hl
          simp [Oper.looksAt, Op.operands, Call.operands, famAt, famOf, isV] at hl
          simp [famWants, boolIs_bool, boolIs_undef, execOp, rho, go_sem, hl, famUpon, famOf, isV, Grows.refl]
        · intro f V hg hl
          simp [Oper.looksAt, Op.operands, Call.operands, famAt, famOf, isV] at hl
          simp [famWants, boolIs_bool, boolIs_undef, execOp, rho, go_sem, hl, famUpon, famOf, isV, Grows.refl]
          refine (CM.out _ _ _).mono ?_
          rintro e w' ⟨rfl, hb'⟩
          exact ⟨rfl, hb'⟩
        · intro f V hg hl
          simp [Oper.looksAt, Op.operands, Call.operands, famAt, famOf, isV] at hl
          simp [famWants, boolIs_bool, boolIs_undef, execOp, rho, go_sem, hl, famUpon, famOf, isV, Grows.refl]
        · intro f V hg hl
          simp [Oper.looksAt, Op.operands, Call.operands, famAt, famOf, isV] at hl
          simp [famWants, boolIs_bool, boolIs_undef, execOp, rho, go_sem, hl, famUpon, famOf, isV, Grows.refl]
        · intro f V hg hl
          simp [Oper.looksAt, Op.operands, Call.operands, famAt, famOf, isV] at hl
          simp [famWants, boolIs_bool, boolIs_undef, execOp, rho, go_sem, hl, famUpon, famOf, isV, Grows.refl]
        · trivial
      · intro u V hgV hu
        have e2 : u 2 = .bool (decide (mf 100 o ≤ mf (F 9) ca)) := hu 2 (by decide)
        simp only [List.drop_succ_cons, List.drop_zero, fill, Act.put, List.setIfInBounds_toArray, List.set_cons_zero, List.set_cons_succ, e2]
        refine wpList_nil ?_
        clear hu e2
        go_wp2
        go_ret
        rw [HS.out]
        exact ⟨rfl, below_new hb03 hgV⟩
end Go.Proofs.Ytdppabnhflaoeaa
