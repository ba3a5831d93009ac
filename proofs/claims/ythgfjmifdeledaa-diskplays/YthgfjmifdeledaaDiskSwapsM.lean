/- Layer 13: what DiskSwaps comes to. -/
import Derived.Test.YthgfjmifdeledaaDkLaw
import Derived.Test.YthgfjmifdeledaaSameY
namespace Go.Proofs.Ythgfjmifdeledaa
set_option linter.unusedVariables false
set_option linter.unusedSimpArgs false
open Go.ChangeShapes Go.WideShapes Go.ChangeAt Go.RowKit Go.Deep

theorem Dk.swaps {was next more : List Int} (keep : Int) : Dk.aft was (([Dk.U.s next] ++ more.map Dk.U.b).take (Dk.cut keep ([Dk.U.s next] ++ more.map Dk.U.b).length)) = if keep < 1 then was else next ++ more.take (min (keep - 1) (more.length : Int)).toNat := by
  have hl : ([Dk.U.s next] ++ more.map Dk.U.b).length = more.length + 1 := by simp
  rw [hl]
  split
  · have e : Dk.cut keep (more.length + 1) = 0 := by unfold Dk.cut; omega
    rw [e]; rfl
  · have e : Dk.cut keep (more.length + 1) = (min (keep - 1) (more.length : Int)).toNat + 1 := by unfold Dk.cut; omega
    rw [e]
    show Dk.aft next ((more.map Dk.U.b).take _) = _
    rw [← List.map_take, Dk.aft_bytes]
/-- What is asked. -/
abbrev swv (A1 : Option Addr) (n1 c1 : Nat) (A2 : Option Addr) (n2 c2 : Nat) (A3 : Option Addr) (n3 c3 : Nat) (keep : Int) : Value := .agg #[.slice A1 n1 c1, .slice A2 n2 c2, .slice A3 n3 c3, .int .i64 keep]

set_option maxRecDepth 100000 in
set_option maxHeartbeats 4000000 in
theorem diskswaps_main (A1 : Option Addr) (c1 : Nat) (l1 : List Int) (A2 : Option Addr) (c2 : Nat) (l2 : List Int) (A3 : Option Addr) (c3 : Nat) (l3 : List Int) (keep : Int) (w : World)
    (h1 : Rds w (· < w.heap.size) A1 (u8s l1)) (h2 : Rds w (· < w.heap.size) A2 (u8s l2)) (h3 : Rds w (· < w.heap.size) A3 (u8s l3)) (hc3 : l3.length ≤ c3) (hk : keep < 9223372036854775808) :
    Calls Try.prog 5 #[swv A1 l1.length c1 A2 l2.length c2 A3 l3.length c3 keep] w fun e w' => e = .returned (.bool true) ∧ Below w.heap.size w w' := by
  obtain ⟨w1, hw1⟩ : ∃ W, w.alloc (.cells #[.slice A1 l1.length c1, .slice A2 l2.length c2, .slice A3 l3.length c3, .int .i64 keep] 53) = W := ⟨_, rfl⟩
  have hb1 : Below w.heap.size w w1 := by rw [← hw1]; exact b_alloc _ _
  have hB1 : Blo w1 w.heap.size 53 #[.slice A1 l1.length c1, .slice A2 l2.length c2, .slice A3 l3.length c3, .int .i64 keep] := by rw [← hw1]; exact Blo.made _ _ _
  have HW := Lib.hid hw1
  clear hw1
  go_enter Try.func5, Try.ntmps5
  go_wp2_with fail
  rw [HW.out]
  refine (dkalive_any w1).mono ?_
  rintro e w2 ⟨rfl, hb2⟩
  have hB2 := hB1.new hb2
  have hb02 := below_new hb1 hb2
  have d0 : w2.cell? ⟨w.heap.size, 0, none⟩ = some (.slice A1 l1.length c1) := by simpa using hB2.cell 0
  have d1 : w2.cell? ⟨w.heap.size, 1, none⟩ = some (.slice A2 l2.length c2) := by simpa using hB2.cell 1
  have d2 : w2.cell? ⟨w.heap.size, 2, none⟩ = some (.slice A3 l3.length c3) := by simpa using hB2.cell 2
  have d3 : w2.cell? ⟨w.heap.size, 3, none⟩ = some (.int .i64 keep) := by simpa using hB2.cell 3
  clear hB1 hB2 hb1 hb2
  go_wp2_with fail
  go_quiet (fail)
  obtain ⟨w3, hd, hw3⟩ : ∃ W, Drew w2 W ∧ w2.drewN nq = W := ⟨_, ⟨nq, rfl⟩, rfl⟩
  rw [hw3]
  have hb03 : Below w.heap.size w w3 := below_new hb02 (hd.below _)
  clear d0 d1 d2 d3 hw3 hb02
  by_cases g1 : (1000 : Int) < (l1.length : Int)
  · go_wp2
    go_ret
    exact ⟨rfl, hb03⟩
  by_cases g2 : (1000 : Int) < (l2.length : Int)
  · go_wp2
    go_ret
    exact ⟨rfl, hb03⟩
  by_cases g3 : (1000 : Int) < (l3.length : Int)
  · go_wp2
    go_ret
    exact ⟨rfl, hb03⟩
  go_wp2_with fail
  refine (pnew_any 5000 w3).mono ?_
  intro e w4 hP
  unfold PNewPost at hP
  rw [if_pos (by decide)] at hP
  obtain ⟨g, rfl, hP1, hP2⟩ := hP
  have hb04 := below_new hb03 hP2
  have hs3 := hb03.size
  have hD4 : DS w w4 g 5000 [] [] := ⟨Dk.Ok.new (by decide) (by decide), fun b => w3.heap.size ≤ b ∧ b < w4.heap.size, hP1.mono fun b hb hl => ⟨hb, hl⟩, fun b hb => ⟨by omega, hb.2⟩, hb04⟩
  clear hP1 hP2 hs3 hb03 hd
  have HA1 : Hid (Dk.apU 5000 [] [] l1 = l1.map .b) := Lib.hid (by unfold Dk.apU; rw [if_neg (by rw [Dk.aft_nil]; simp; omega)]; rfl)
  have HA2 : Hid (Dk.aft [] (l1.map .b) = l1) := Lib.hid (by rw [Dk.aft_bytes]; rfl)
  have HA3 : Hid (Dk.swU 5000 [] l2 = [.s l2]) := Lib.hid (by unfold Dk.swU; rw [if_neg (by omega)]; rfl)
  have HA4 : Hid (Dk.apU 5000 l1 [.s l2] l3 = [.s l2] ++ l3.map .b) := Lib.hid (by unfold Dk.apU; rw [if_neg (by show ¬ (5000 : Int) < (l2.length : Int) + l3.length; omega)])
  have HRds : Hid (∀ V, Below w.heap.size w V → Rds V (· < w.heap.size) A1 (u8s l1) ∧ Rds V (· < w.heap.size) A2 (u8s l2) ∧ Rds V (· < w.heap.size) A3 (u8s l3)) := Lib.hid (fun V hV => ⟨h1.new hV, h2.new hV, h3.new hV⟩)
  have n1 : l1.length ≤ 1000 := by omega
  have n2 : l2.length ≤ 1000 := by omega
  have n3 : l3.length ≤ 1000 := by omega
  clear h1 h2 h3 g1 g2 g3
  go_wp2_with fail
  refine (hD4.append (by simp) (Below.refl _ _) _ A1 _ c1 l1 rfl (HRds.out _ hb04).1 (fun b hb _ => .inl hb) (by omega)).mono ?_
  rintro e w5 ⟨rfl, hD5, _⟩
  rw [HA1.out] at hD5
  clear hD4 hb04
  go_wp2_with fail
  refine (hD5.sync (by simp; omega) (Below.refl _ _)).mono ?_
  rintro e w6 ⟨rfl, hD6, _⟩
  rw [HA2.out] at hD6
  clear hD5
  have hb06 : Below w.heap.size w w6 := by obtain ⟨_, _, _, _, h⟩ := hD6; exact h
  go_wp2_with fail
  refine (hD6.swap (by simp) (Below.refl _ _) _ A2 _ c2 l2 rfl (HRds.out _ hb06).2.1 (fun b hb _ => .inl hb) (by omega)).mono ?_
  rintro e w7 ⟨rfl, hD7, _⟩
  rw [HA3.out] at hD7
  clear hD6 hb06
  have hb07 : Below w.heap.size w w7 := by obtain ⟨_, _, _, _, h⟩ := hD7; exact h
  go_wp2_with fail
  refine (hD7.append (by simp) (Below.refl _ _) _ A3 _ c3 l3 rfl (HRds.out _ hb07).2.2 (fun b hb _ => .inl hb) (by omega)).mono ?_
  rintro e w8 ⟨rfl, hD8, _⟩
  rw [HA4.out] at hD8
  clear hD7 hb07
  obtain ⟨R, hR⟩ : ∃ R, R = if keep < 1 then l1 else l2 ++ l3.take (min (keep - 1) (l3.length : Int)).toNat := ⟨_, rfl⟩
  have HC := hD8.crash (by simp; omega) (Below.refl _ _) keep
  rw [Dk.swaps, ← hR] at HC
  have HC := Lib.hid HC
  have HR := Lib.hid hR
  clear hR hD8
  go_wp2_with fail
  refine HC.out.mono ?_
  rintro e w9 ⟨rfl, hD9, _⟩
  clear HC
  go_wp2_with fail
  refine (hD9.read (by simp) (Below.refl _ _)).mono ?_
  rintro e wa ⟨Ag, cg, rfl, hrg, hba⟩
  rw [Dk.aft_nil] at hrg ⊢
  have hDa := hD9.new hba
  have hb0a : Below w.heap.size w wa := by obtain ⟨_, _, _, _, h⟩ := hDa; exact h
  clear hD9 hDa hba
  have hsa := hb0a.size
  by_cases hk1 : keep < 1
  · have hRe : R = l1 := by rw [HR.out, if_pos hk1]
    subst hRe
    go_wp2_with fail
    refine (same_yes _ _ _ _ _ _ R _ hrg.rds (HRds.out _ hb0a).1 (by omega)).mono ?_
    rintro e wb ⟨rfl, hdr⟩
    have hb0b := below_new hb0a (hdr.below _)
    go_wp2
    go_ret
    exact ⟨rfl, hb0b⟩
  · obtain ⟨m, hm⟩ : ∃ m, m = (min (keep - 1) (l3.length : Int)).toNat := ⟨_, rfl⟩
    have hmin : min (keep - 1) (l3.length : Int) = (m : Int) := by omega
    have hml : m ≤ l3.length := by omega
    have HRe : Hid (R = l2 ++ l3.take m) := Lib.hid (by rw [HR.out, if_neg hk1, hm])
    have hwr : IntKind.i64.wrap (keep - 1) = keep - 1 := IntWalk.i64_in _ (by omega)
    have hsl := run_bto A3 l3.length c3 m (by omega)
    have HX2 : Hid (∀ V, Grows wa V → Rds V (· < w.heap.size) A2 (u8s l2)) := Lib.hid (fun V hV => (HRds.out V (below_new hb0a hV)).2.1)
    clear hm
    go_wp2_with fail
    refine wp_famF (n := 11) (size := 73) (D := [60, 61, 62, 63, 64, 65, 66, 67, 68, 69, 70]) [0] [(60, isV (.slice Ag R.length cg)), (61, emptyV wa.heap.size), (62, isV (.slice A2 l2.length c2)), (63, byV wa.heap.size l2), (64, isV (.slice A3 l3.length c3)), (65, isV (.int .i64 keep)), (66, isV (.int .i64 (keep - 1))), (67, isV (.slice A3 l3.length c3)), (68, isV (.int .i64 (l3.length : Int))), (69, isV (.int .i64 (m : Int))), (70, isV (.slice A3 m c3))] (by kernel_rfl) (by rfl) (by kernel_rfl) (fun _ _ d _ _ h => by cases d <;> exact h) ?_ ?_
    · simp only [List.take_succ_cons, List.take_zero, famAllF]
      repeat' apply And.intro
      · rw [if_pos (by decide)]
        intro f V hg hl
        simp [Oper.looksAt, Op.operands, Call.operands, famAt, famOf, isV] at hl
        refine ⟨by simp [famWants], .slice Ag R.length cg, fun w' => by simp [execOp, rho, go_sem, hl], fun d hd => by cases hd; rfl⟩
      · rw [if_neg (by decide)]
        intro f V hg hl
        simp [Oper.looksAt, Op.operands, Call.operands, famAt, famOf, isV] at hl
        simp [famWants, boolIs_bool, boolIs_undef, execOp, rho, go_sem, hl, Grows.alloc, famUpon, famOf, isV, isAlloc, Grows.refl]
        exact ⟨_, rfl, ByR.lit V (Below.size hg)⟩
      · rw [if_neg (by decide)]
        intro f V hg hl
        simp [Oper.looksAt, Op.operands, Call.operands, famAt, famOf, isV] at hl
        simp [famWants, boolIs_bool, boolIs_undef, execOp, rho, go_sem, hl, famUpon, famOf, isV, isAlloc, Grows.refl]
      · rw [if_neg (by decide)]
        intro f V hg hl
        simp [Oper.looksAt, Op.operands, Call.operands, famAt, famOf, isV] at hl
        obtain ⟨⟨p, e17, hB⟩, e18⟩ := hl
        obtain ⟨A', c', W', hrun, hcp, hb⟩ := run_cpb hB (Below.size hg) 32 _ A2 l2.length c2 l2 rfl (HX2.out V hg) (by omega)
        refine ⟨fun _ => ?_, fun h => by cases h⟩
        simp only [execOp, resolve, invoke, builtin, Sem.run_bind, Sem.run_pure, Result.andThen_ok, List.map_toArray, List.map_cons, List.map_nil, rho, e17, e18, hrun, famUpon]
        refine ⟨hb, fun d hd => ?_, fun h => by cases h⟩
        cases hd
        exact ⟨A', c', rfl, hcp⟩
      · rw [if_neg (by decide)]
        intro f V hg hl
        simp [Oper.looksAt, Op.operands, Call.operands, famAt, famOf, isV] at hl
        simp [famWants, boolIs_bool, boolIs_undef, execOp, rho, go_sem, hl, famUpon, famOf, isV, isAlloc, Grows.refl]
      · rw [if_neg (by decide)]
        intro f V hg hl
        simp [Oper.looksAt, Op.operands, Call.operands, famAt, famOf, isV] at hl
        simp [famWants, boolIs_bool, boolIs_undef, execOp, rho, go_sem, hl, famUpon, famOf, isV, isAlloc, Grows.refl]
      · rw [if_neg (by decide)]
        intro f V hg hl
        simp [Oper.looksAt, Op.operands, Call.operands, famAt, famOf, isV] at hl
        simp [famWants, boolIs_bool, boolIs_undef, execOp, rho, go_sem, hl, hwr, famUpon, famOf, isV, isAlloc, Grows.refl]
      · rw [if_neg (by decide)]
        intro f V hg hl
        simp [Oper.looksAt, Op.operands, Call.operands, famAt, famOf, isV] at hl
        simp [famWants, boolIs_bool, boolIs_undef, execOp, rho, go_sem, hl, famUpon, famOf, isV, isAlloc, Grows.refl]
      · rw [if_neg (by decide)]
        intro f V hg hl
        simp [Oper.looksAt, Op.operands, Call.operands, famAt, famOf, isV] at hl
        simp [famWants, boolIs_bool, boolIs_undef, execOp, rho, go_sem, hl, famUpon, famOf, isV, isAlloc, Grows.refl]
      · rw [if_neg (by decide)]
        intro f V hg hl
        simp [Oper.looksAt, Op.operands, Call.operands, famAt, famOf, isV] at hl
        simp [famWants, boolIs_bool, boolIs_undef, execOp, rho, go_sem, hl, hmin, famUpon, famOf, isV, isAlloc, Grows.refl]
      · rw [if_neg (by decide)]
        intro f V hg hl
        simp [Oper.looksAt, Op.operands, Call.operands, famAt, famOf, isV] at hl
        simp [famWants, boolIs_bool, boolIs_undef, execOp, rho, go_sem, hl, hsl, famUpon, famOf, isV, isAlloc, Grows.refl]
      · trivial
    · intro u V hg hu _
      have e60 : u 60 = .slice Ag R.length cg := hu 60 (by decide)
      have e70 : u 70 = .slice A3 m c3 := hu 70 (by decide)
      obtain ⟨A5, c5, e63, hB5⟩ : (byV wa.heap.size l2).1 (u 63) V := hu 63 (by decide)
      simp only [List.drop_succ_cons, List.drop_zero, fill, Act.put, List.setIfInBounds_toArray, List.set_cons_zero, List.set_cons_succ, e60, e63, e70]
      have hgb : Below wa.heap.size wa V := hg
      obtain ⟨i0, hi, hz0, hz1, hz2⟩ := info_parts Try.rowU8
      have h3V : Rds V (· < w.heap.size) A3 (u8s (l3.take m)) := by
        have := ((HRds.out V (below_new hb0a hgb)).2.2).take m
        rwa [← List.map_take] at this
      have e : l2.length + m = R.length := by rw [HRe.out]; simp; omega
      have HE := Lib.hid e
      have hgot := hrg.mono (fq := fun b => b < wa.heap.size) fun b _ hl => hl
      have hml2 : (u8s (l3.take m)).length = m := by simp; omega
      clear hu e60 e63 e70 e hrg hwr hmin hsl
      refine wpList_app _ rfl _ _ 32 rfl 0 5 i0 (.int .u8 0) 1 Try.underlying32 hi hz0 hz1 hz2 rfl _ _ _ rfl hB5.own _ A3 m c3 (u8s (l3.take m)) rfl hml2 h3V (one_ints _ _) (by unfold maxLen; omega) (by omega) (Nat.zero_le _) ?_
      intro v6 w6 hown6 hg6 _
      obtain ⟨A6, c6, rfl, _, _⟩ := own_form hown6
      have hb6 : Below wa.heap.size wa w6 := hgb.grown hg6 hgb.size fun k hk => hB5.inn k hk
      have hgot6 := hgot.keep (w' := w6) fun b hb _ => hb6.block b hb
      have hr6 := own_rds hown6
      rw [← List.map_append, ← HRe.out] at hr6
      have HS : Hid (Calls Try.prog 14 #[.slice Ag R.length cg, .slice A6 (l2.length + m) c6] w6 fun e w' => e = .returned (.bool true) ∧ Drew w6 w') := Lib.hid (by
        rw [HE.out]
        exact same_yes _ _ _ _ _ _ R _ hgot6.rds hr6 (by rw [← HE.out]; omega))
      have hb06 := below_new hb0a hb6
      clear hown6 hg6 hr6 hgot6 hgot hB5 h3V hml2 hgb
      go_wp2_with fail
      refine HS.out.mono ?_
      rintro e wz ⟨rfl, hdr⟩
      have hb0z := below_new hb06 (hdr.below _)
      go_wp2
      go_ret
      exact ⟨rfl, hb0z⟩
end Go.Proofs.Ythgfjmifdeledaa
