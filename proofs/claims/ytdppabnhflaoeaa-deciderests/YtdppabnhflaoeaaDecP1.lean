/- Layer 11, the program's: clamp, by its three bounds. -/
import Derived.Test.YtdppabnhflaoeaaDecP0
namespace Go.Proofs.Ytdppabnhflaoeaa
set_option linter.unusedVariables false
set_option linter.unusedSimpArgs false
open Go.ChangeShapes Go.WideShapes Go.ChangeAt Go.RowKit

set_option maxHeartbeats 1000000 in
theorem ld_clamp (F : Nat → Int) (y t n : Int) (w : World) : Calls Try.prog 17 #[sv F y t, .int .i64 0, .int .i64 n] w fun e w' => e = .returned (.int .i64 (S.within n 0 1099511627776)) ∧ Below w.heap.size w w' := by
  obtain ⟨w1, hw1⟩ : ∃ W, w.alloc (.cells (scs F y t) 46) = W := ⟨_, rfl⟩
  have hb1 : Below w.heap.size w w1 := by rw [← hw1]; exact b_alloc _ _
  have hX1 : Blo w1 w.heap.size 46 (scs F y t) := by rw [← hw1]; exact Blo.made _ _ _
  have HW1 := Lib.hid hw1
  have HC := Lib.hid (fun W => counted_any F y t n W)
  have hix : ∀ W, (Instr.index 54 bvs (.int .i64 0)).run Try.prog W = .ok (.func (.func 33) #[] #[]) W := fun W => by kernel_rfl
  generalize S.within n 0 1099511627776 = v at *
  clear hw1
  go_enter Try.func17, Try.ntmps17
  go_wp2_with fail
  rw [HW1.out]
  refine wp_fam (n := 7) (size := 13) (D := [7, 8, 9, 10, 11, 12, 6]) [(7, isV bvs), (8, isV (.int .i64 0)), (9, isV (.func (.func 33) #[] #[])), (10, isV (sv F y t)), (11, isV (.int .i64 n)), (12, isV (.int .i64 v)), (6, isV (.int .i64 v))] (by kernel_rfl) (by rfl) (by kernel_rfl) ?_ ?_
  · simp only [List.take_succ_cons, List.take_zero, famAll]
    repeat' apply And.intro
    · intro f V hg hl
      simp [Oper.looksAt, Op.operands, Call.operands, famAt, famOf, isV] at hl
      simp [famWants, boolIs_bool, boolIs_undef, execOp, rho, go_sem, hl, famUpon, famOf, isV, Grows.refl]
      refine (bounds_any _).mono ?_
      rintro e w' ⟨rfl, hb'⟩
      exact ⟨rfl, hb'⟩
    · intro f V hg hl
      simp [Oper.looksAt, Op.operands, Call.operands, famAt, famOf, isV] at hl
      simp [famWants, boolIs_bool, boolIs_undef, execOp, rho, go_sem, hl, famUpon, famOf, isV, Grows.refl]
    · intro f V hg hl
      simp [Oper.looksAt, Op.operands, Call.operands, famAt, famOf, isV] at hl
      simp [famWants, boolIs_bool, boolIs_undef, execOp, rho, go_sem, hl, hix, famUpon, famOf, isV, Grows.refl]
    · intro f V hg hl
      obtain ⟨k0, k1, k2, k3, k4, k5, k6, k7, k8⟩ := st_box F y t (hX1.new hg)
      simp [Oper.looksAt, Op.operands, Call.operands, famAt, famOf, isV] at hl
      simp [famWants, boolIs_bool, boolIs_undef, execOp, rho, go_sem, hl, k0, k1, k2, k3, k4, k5, k6, k7, k8, famUpon, famOf, isV, Grows.refl]
    · intro f V hg hl
      simp [Oper.looksAt, Op.operands, Call.operands, famAt, famOf, isV] at hl
      simp [famWants, boolIs_bool, boolIs_undef, execOp, rho, go_sem, hl, famUpon, famOf, isV, Grows.refl]
    · intro f V hg hl
      simp [Oper.looksAt, Op.operands, Call.operands, famAt, famOf, isV] at hl
      simp [famWants, boolIs_bool, boolIs_undef, execOp, rho, go_sem, hl, famUpon, famOf, isV, Grows.refl]
      refine (HC.out _).mono ?_
      rintro e w' ⟨rfl, hb'⟩
      exact ⟨rfl, hb'⟩
    · intro f V hg hl
      simp [Oper.looksAt, Op.operands, Call.operands, famAt, famOf, isV] at hl
      simp [famWants, boolIs_bool, boolIs_undef, execOp, rho, go_sem, hl, famUpon, famOf, isV, Grows.refl]
    · trivial
  · intro u V hgV hu
    have e6 : u 6 = .int .i64 v := hu 6 (by decide)
    simp only [List.drop_succ_cons, List.drop_zero, fill, Act.put, List.setIfInBounds_toArray, List.set_cons_zero, List.set_cons_succ, e6]
    refine wpList_nil ?_
    go_wp2
    go_ret
    exact ⟨rfl, below_new hb1 hgV⟩
set_option maxHeartbeats 1000000 in
theorem pol_clamp (F : Nat → Int) (y t n : Int) (w : World) : Calls Try.prog 17 #[sv F y t, .int .i64 1, .int .i64 n] w fun e w' => e = .returned (.int .i64 (S.within n (F 6) (F 7))) ∧ Below w.heap.size w w' := by
  obtain ⟨w1, hw1⟩ : ∃ W, w.alloc (.cells (scs F y t) 46) = W := ⟨_, rfl⟩
  have hb1 : Below w.heap.size w w1 := by rw [← hw1]; exact b_alloc _ _
  have hX1 : Blo w1 w.heap.size 46 (scs F y t) := by rw [← hw1]; exact Blo.made _ _ _
  have HW1 := Lib.hid hw1
  have HC := Lib.hid (fun W => allowed_any F y t n W)
  have hix : ∀ W, (Instr.index 54 bvs (.int .i64 1)).run Try.prog W = .ok (.func (.func 34) #[] #[]) W := fun W => by kernel_rfl
  generalize S.within n (F 6) (F 7) = v at *
  clear hw1
  go_enter Try.func17, Try.ntmps17
  go_wp2_with fail
  rw [HW1.out]
  refine wp_fam (n := 7) (size := 13) (D := [7, 8, 9, 10, 11, 12, 6]) [(7, isV bvs), (8, isV (.int .i64 1)), (9, isV (.func (.func 34) #[] #[])), (10, isV (sv F y t)), (11, isV (.int .i64 n)), (12, isV (.int .i64 v)), (6, isV (.int .i64 v))] (by kernel_rfl) (by rfl) (by kernel_rfl) ?_ ?_
  · simp only [List.take_succ_cons, List.take_zero, famAll]
    repeat' apply And.intro
    · intro f V hg hl
      simp [Oper.looksAt, Op.operands, Call.operands, famAt, famOf, isV] at hl
      simp [famWants, boolIs_bool, boolIs_undef, execOp, rho, go_sem, hl, famUpon, famOf, isV, Grows.refl]
      refine (bounds_any _).mono ?_
      rintro e w' ⟨rfl, hb'⟩
      exact ⟨rfl, hb'⟩
    · intro f V hg hl
      simp [Oper.looksAt, Op.operands, Call.operands, famAt, famOf, isV] at hl
      simp [famWants, boolIs_bool, boolIs_undef, execOp, rho, go_sem, hl, famUpon, famOf, isV, Grows.refl]
    · intro f V hg hl
      simp [Oper.looksAt, Op.operands, Call.operands, famAt, famOf, isV] at hl
      simp [famWants, boolIs_bool, boolIs_undef, execOp, rho, go_sem, hl, hix, famUpon, famOf, isV, Grows.refl]
    · intro f V hg hl
      obtain ⟨k0, k1, k2, k3, k4, k5, k6, k7, k8⟩ := st_box F y t (hX1.new hg)
      simp [Oper.looksAt, Op.operands, Call.operands, famAt, famOf, isV] at hl
      simp [famWants, boolIs_bool, boolIs_undef, execOp, rho, go_sem, hl, k0, k1, k2, k3, k4, k5, k6, k7, k8, famUpon, famOf, isV, Grows.refl]
    · intro f V hg hl
      simp [Oper.looksAt, Op.operands, Call.operands, famAt, famOf, isV] at hl
      simp [famWants, boolIs_bool, boolIs_undef, execOp, rho, go_sem, hl, famUpon, famOf, isV, Grows.refl]
    · intro f V hg hl
      simp [Oper.looksAt, Op.operands, Call.operands, famAt, famOf, isV] at hl
      simp [famWants, boolIs_bool, boolIs_undef, execOp, rho, go_sem, hl, famUpon, famOf, isV, Grows.refl]
      refine (HC.out _).mono ?_
      rintro e w' ⟨rfl, hb'⟩
      exact ⟨rfl, hb'⟩
    · intro f V hg hl
      simp [Oper.looksAt, Op.operands, Call.operands, famAt, famOf, isV] at hl
      simp [famWants, boolIs_bool, boolIs_undef, execOp, rho, go_sem, hl, famUpon, famOf, isV, Grows.refl]
    · trivial
  · intro u V hgV hu
    have e6 : u 6 = .int .i64 v := hu 6 (by decide)
    simp only [List.drop_succ_cons, List.drop_zero, fill, Act.put, List.setIfInBounds_toArray, List.set_cons_zero, List.set_cons_succ, e6]
    refine wpList_nil ?_
    go_wp2
    go_ret
    exact ⟨rfl, below_new hb1 hgV⟩
set_option maxHeartbeats 1000000 in
theorem pace_clamp (F : Nat → Int) (y t n : Int) (w : World) (g1 : IntKind.i64.wrap (t - F 11) = t - F 11) (g2 : IntKind.i64.wrap (t + F 10) = t + F 10) : Calls Try.prog 17 #[sv F y t, .int .i64 2, .int .i64 n] w fun e w' => e = .returned (.int .i64 (S.within n (t - F 11) (t + F 10))) ∧ Below w.heap.size w w' := by
  obtain ⟨w1, hw1⟩ : ∃ W, w.alloc (.cells (scs F y t) 46) = W := ⟨_, rfl⟩
  have hb1 : Below w.heap.size w w1 := by rw [← hw1]; exact b_alloc _ _
  have hX1 : Blo w1 w.heap.size 46 (scs F y t) := by rw [← hw1]; exact Blo.made _ _ _
  have HW1 := Lib.hid hw1
  have HC := Lib.hid (fun W => reached_any F y t n W g1 g2)
  have hix : ∀ W, (Instr.index 54 bvs (.int .i64 2)).run Try.prog W = .ok (.func (.func 35) #[] #[]) W := fun W => by kernel_rfl
  generalize S.within n (t - F 11) (t + F 10) = v at *
  clear hw1
  go_enter Try.func17, Try.ntmps17
  go_wp2_with fail
  rw [HW1.out]
  refine wp_fam (n := 7) (size := 13) (D := [7, 8, 9, 10, 11, 12, 6]) [(7, isV bvs), (8, isV (.int .i64 2)), (9, isV (.func (.func 35) #[] #[])), (10, isV (sv F y t)), (11, isV (.int .i64 n)), (12, isV (.int .i64 v)), (6, isV (.int .i64 v))] (by kernel_rfl) (by rfl) (by kernel_rfl) ?_ ?_
  · simp only [List.take_succ_cons, List.take_zero, famAll]
    repeat' apply And.intro
    · intro f V hg hl
      simp [Oper.looksAt, Op.operands, Call.operands, famAt, famOf, isV] at hl
      simp [famWants, boolIs_bool, boolIs_undef, execOp, rho, go_sem, hl, famUpon, famOf, isV, Grows.refl]
      refine (bounds_any _).mono ?_
      rintro e w' ⟨rfl, hb'⟩
      exact ⟨rfl, hb'⟩
    · intro f V hg hl
      simp [Oper.looksAt, Op.operands, Call.operands, famAt, famOf, isV] at hl
      simp [famWants, boolIs_bool, boolIs_undef, execOp, rho, go_sem, hl, famUpon, famOf, isV, Grows.refl]
    · intro f V hg hl
      simp [Oper.looksAt, Op.operands, Call.operands, famAt, famOf, isV] at hl
      simp [famWants, boolIs_bool, boolIs_undef, execOp, rho, go_sem, hl, hix, famUpon, famOf, isV, Grows.refl]
    · intro f V hg hl
      obtain ⟨k0, k1, k2, k3, k4, k5, k6, k7, k8⟩ := st_box F y t (hX1.new hg)
      simp [Oper.looksAt, Op.operands, Call.operands, famAt, famOf, isV] at hl
      simp [famWants, boolIs_bool, boolIs_undef, execOp, rho, go_sem, hl, k0, k1, k2, k3, k4, k5, k6, k7, k8, famUpon, famOf, isV, Grows.refl]
    · intro f V hg hl
      simp [Oper.looksAt, Op.operands, Call.operands, famAt, famOf, isV] at hl
      simp [famWants, boolIs_bool, boolIs_undef, execOp, rho, go_sem, hl, famUpon, famOf, isV, Grows.refl]
    · intro f V hg hl
      simp [Oper.looksAt, Op.operands, Call.operands, famAt, famOf, isV] at hl
      simp [famWants, boolIs_bool, boolIs_undef, execOp, rho, go_sem, hl, famUpon, famOf, isV, Grows.refl]
      refine (HC.out _).mono ?_
      rintro e w' ⟨rfl, hb'⟩
      exact ⟨rfl, hb'⟩
    · intro f V hg hl
      simp [Oper.looksAt, Op.operands, Call.operands, famAt, famOf, isV] at hl
      simp [famWants, boolIs_bool, boolIs_undef, execOp, rho, go_sem, hl, famUpon, famOf, isV, Grows.refl]
    · trivial
  · intro u V hgV hu
    have e6 : u 6 = .int .i64 v := hu 6 (by decide)
    simp only [List.drop_succ_cons, List.drop_zero, fill, Act.put, List.setIfInBounds_toArray, List.set_cons_zero, List.set_cons_succ, e6]
    refine wpList_nil ?_
    go_wp2
    go_ret
    exact ⟨rfl, below_new hb1 hgV⟩
end Go.Proofs.Ytdppabnhflaoeaa
