/- The walk of EventRight over two events. -/
import Derived.Test.YtlckappnpdkihaaEvAlive
import Derived.Test.YtlckappnpdkihaaEvArgs
import Derived.Test.YtlckappnpdkihaaEvGreat
import Derived.Test.YtlckappnpdkihaaFam
namespace Go.Proofs.Ytlckappnpdkihaa
set_option linter.unusedVariables false
set_option linter.unusedSimpArgs false
open Go.ChangeShapes Go.WideShapes Go.ChangeAt Go.RowKit

set_option maxRecDepth 100000 in
set_option maxHeartbeats 8000000 in
theorem evright_main (F G : Nat → Int) (A B : Option Addr) (n c m d : Nat) (M M' : List D.Dot) (w : World) (hA : EvIn w A n c M) (hB : EvIn w B m d M') :
    Calls Try.prog 3 #[ev F A n c, ev G B m d] w fun e w' => e = .returned (.bool true) ∧ Below w.heap.size w w' := by
  obtain ⟨hn, hnc, hcm, hr⟩ := hA
  obtain ⟨hn', hnc', hcm', hr'⟩ := hB
  have hnm : n ≤ maxLen := by omega
  obtain ⟨w1, hw1⟩ : ∃ W, (w.alloc (.cells (ecs F A n c) 28)).alloc (.cells (ecs G B m d) 28) = W := ⟨_, rfl⟩
  obtain ⟨g1, hg1⟩ : ∃ g, g = w.heap.size := ⟨_, rfl⟩
  obtain ⟨g2, hg2⟩ : ∃ g, g = w.heap.size + 1 := ⟨_, rfl⟩
  have hb1 : Below w.heap.size w w1 := by rw [← hw1]; exact b_alloc2 _ _ _
  have hX1 : Blo w1 g1 28 (ecs F A n c) := by rw [← hw1, hg1]; exact (Blo.made _ _ _).alloc _
  have hX2 : Blo w1 g2 28 (ecs G B m d) := by
    rw [← hw1, hg2]
    have := Blo.made (w.alloc (.cells (ecs F A n c) 28)) 28 (ecs G B m d)
    simpa using this
  have HW := Lib.hid hw1
  have HG1 := Lib.hid hg1
  have HG2 := Lib.hid hg2
  have HN := Lib.hid hn
  have HN' := Lib.hid hn'
  clear hw1 hg1 hg2 hn hn' hnc hcm hnc' hcm'
  go_enter Try.func3, Try.ntmps3
  go_wp2_with fail
  rw [HW.out, ← HG2.out, ← HG1.out]
  refine (evalive_any _).mono ?_
  rintro e w2 ⟨rfl, hb2⟩
  have hb02 := below_new hb1 hb2
  have hY1 := hX1.new hb2
  have hY2 := hX2.new hb2
  clear hX1 hX2 hb1 hb2
  obtain ⟨z0, z1, z2, z3, z4, z5, z6, z7, z8, z9, z10, z11, z12, z13⟩ := set14 hY1
  obtain ⟨y0, y1, y2, y3, y4, y5, y6, y7, y8, y9, y10, y11, y12, y13⟩ := set14 hY2
  obtain ⟨l, hl⟩ : ∃ l : List EvV, l = [⟨F, M, A, c⟩, ⟨G, M', B, d⟩] := ⟨_, rfl⟩
  have hcs : evs l = (ecs F A n c).toList ++ (ecs G B m d).toList := by rw [hl]; simp only [evs, EvV.cells, HN.out, HN'.out, List.append_nil]
  obtain ⟨w3, hw3⟩ : ∃ W, w2.alloc (.cells (evs l).toArray 28) = W := ⟨_, rfl⟩
  have hb3 : Below w2.heap.size w2 w3 := by rw [← hw3]; exact b_alloc _ _
  have hb03 := below_new hb02 hb3
  have hE : ERds w3 (fun _ => True) (some ⟨w2.heap.size, 0, none⟩) l := by
    refine ⟨fun j u hu => ⟨_, rfl, trivial, ?_⟩, fun e he => ?_⟩
    · rw [← hw3, Go.Proofs.Ytlckappnpdkihaa.M.addMk, (Blo.made w2 28 (evs l).toArray).cell, Nat.zero_add]
      simpa using hu
    · rw [hl] at he
      simp at he
      rcases he with rfl | rfl
      · exact (hr.new hb03).mono fun _ _ => trivial
      · exact (hr'.new hb03).mono fun _ _ => trivial
  have hgr := great_any (fun _ => True) (some ⟨w2.heap.size, 0, none⟩) 2 2 l w3 (by rw [hl]; rfl) hE (by unfold maxLen; omega)
  rw [hcs] at hw3
  have HW3 := Lib.hid hw3
  clear hw3 hl hcs hE
  go_wp2_with fail
  have e0 := HW3.out
  simp only [ecs, List.cons_append, List.nil_append] at e0
  rw [e0]
  clear e0
  refine hgr.mono ?_
  rintro e w4 ⟨b, rfl, hb4, _⟩
  clear hgr z0 z1 z2 z3 z4 z5 z6 z7 z8 z9 z10 z11 z12 z13 y0 y1 y2 y3 y4 y5 y6 y7 y8 y9 y10 y11 y12 y13
  cases b with
  | true =>
    go_wp2
    go_ret
    exact ⟨rfl, below_new hb03 hb4⟩
  | false =>
    have hU1 := (hY1.new hb3).new hb4
    have hU2 := (hY2.new hb3).new hb4
    have hb04 := below_new hb03 hb4
    have hr4 := hr.new hb04
    clear hY1 hY2 hb3 hb4 hb03 hb02
    have HL1 : Hid (∀ V, Grows w4 V → _) := Lib.hid (fun V hV => set14 (hU1.new hV))
    have HL2 : Hid (∀ V, Grows w4 V → _) := Lib.hid (fun V hV => set14 (hU2.new hV))
    obtain ⟨x, hx⟩ : ∃ x, x = E.right F M := ⟨_, rfl⟩
    obtain ⟨y, hy⟩ : ∃ y, y = E.rp F := ⟨_, rfl⟩
    obtain ⟨z, hz⟩ : ∃ z, z = E.later F G := ⟨_, rfl⟩
    have H1 : Hid (∀ V, Grows w4 V → Calls Try.prog 11 #[ev F A n c] V fun e w' => e = .returned (.bool x) ∧ Below V.heap.size V w') := Lib.hid (fun V hV => by rw [hx]; exact evright_any _ F A n c M V HN.out (hr4.new hV) hnm)
    have H2 : Hid (∀ V, Grows w4 V → Calls Try.prog 12 #[ev F A n c] V fun e w' => e = .returned (.bool x) ∧ Below V.heap.size V w') := Lib.hid (fun V hV => by rw [hx]; exact eright_any _ F A n c M V HN.out (hr4.new hV) hnm)
    have H3 : Hid (∀ V, Calls Try.prog 13 #[pv F] V fun e w' => e = .returned (.bool y) ∧ Below V.heap.size V w') := Lib.hid (fun V => by rw [hy]; exact rightpol_any F V)
    have H4 : Hid (∀ V, Calls Try.prog 14 #[pv F] V fun e w' => e = .returned (.bool y) ∧ Below V.heap.size V w') := Lib.hid (fun V => by rw [hy]; exact rpol_any F V)
    have H5 : Hid (∀ V, Calls Try.prog 15 #[ev F A n c, ev G B m d] V fun e w' => e = .returned (.bool z) ∧ Below V.heap.size V w') := Lib.hid (fun V => by rw [hz]; exact later_any F G A n c B m d V)
    have H6 : Hid (∀ V, Calls Try.prog 16 #[ev F A n c, ev G B m d] V fun e w' => e = .returned (.bool z) ∧ Below V.heap.size V w') := Lib.hid (fun V => by rw [hz]; exact rlater_any F G A n c B m d V)
    clear hx hy hz hr hr' hr4
    go_wp2_with fail
    refine wp_fam (n := 23) (size := 34) (D := [11, 12, 13, 14, 15, 16, 17, 18, 19, 20, 21, 22, 23, 24, 25, 26, 27, 28, 29, 30, 31, 32, 33]) [(11, isV (ev F A n c)), (12, isV (.bool x)), (13, isV (ev F A n c)), (14, isV (.bool x)), (15, isV (.bool true)), (16, isV (.bool true)), (17, isV (.pointer (some ⟨g1, 6, none⟩))), (18, isV (pv F)), (19, isV (.bool y)), (20, isV (.pointer (some ⟨g1, 6, none⟩))), (21, isV (pv F)), (22, isV (.bool y)), (23, isV (.bool true)), (24, isV (.bool true)), (25, isV (.bool true)), (26, isV (ev F A n c)), (27, isV (ev G B m d)), (28, isV (.bool z)), (29, isV (ev F A n c)), (30, isV (ev G B m d)), (31, isV (.bool z)), (32, isV (.bool true)), (33, isV (.bool true))] (by kernel_rfl) (by rfl) (by kernel_rfl) ?_ ?_
    · simp only [List.take_succ_cons, List.take_zero, famAll]
      repeat' apply And.intro
      · intro f V hg hl
        obtain ⟨z0, z1, z2, z3, z4, z5, z6, z7, z8, z9, z10, z11, z12, z13⟩ := HL1.out V hg
        simp [Oper.looksAt, Op.operands, Call.operands, famAt, famOf, isV] at hl
        simp [famWants, boolIs_bool, boolIs_undef, execOp, rho, go_sem, hl, z0, z1, z2, z3, z4, z5, z6, z7, z8, z9, z10, z11, z12, z13, famUpon, famOf, isV, Grows.refl]
      · intro f V hg hl
        simp [Oper.looksAt, Op.operands, Call.operands, famAt, famOf, isV] at hl
        simp [famWants, boolIs_bool, boolIs_undef, execOp, rho, go_sem, hl, famUpon, famOf, isV, Grows.refl]
        exact H1.out V hg
      · intro f V hg hl
        obtain ⟨z0, z1, z2, z3, z4, z5, z6, z7, z8, z9, z10, z11, z12, z13⟩ := HL1.out V hg
        simp [Oper.looksAt, Op.operands, Call.operands, famAt, famOf, isV] at hl
        simp [famWants, boolIs_bool, boolIs_undef, execOp, rho, go_sem, hl, z0, z1, z2, z3, z4, z5, z6, z7, z8, z9, z10, z11, z12, z13, famUpon, famOf, isV, Grows.refl]
      · intro f V hg hl
        simp [Oper.looksAt, Op.operands, Call.operands, famAt, famOf, isV] at hl
        simp [famWants, boolIs_bool, boolIs_undef, execOp, rho, go_sem, hl, famUpon, famOf, isV, Grows.refl]
        exact H2.out V hg
      · intro f V hg hl
        simp [Oper.looksAt, Op.operands, Call.operands, famAt, famOf, isV] at hl
        simp [famWants, boolIs_bool, boolIs_undef, execOp, rho, go_sem, hl, famUpon, famOf, isV, Grows.refl]
      · intro f V hg hl
        simp [Oper.looksAt, Op.operands, Call.operands, famAt, famOf, isV] at hl
        simp [famWants, boolIs_bool, boolIs_undef, execOp, rho, go_sem, hl, famUpon, famOf, isV, Grows.refl]
      · intro f V hg hl
        simp [Oper.looksAt, Op.operands, Call.operands, famAt, famOf, isV] at hl
        simp [famWants, boolIs_bool, boolIs_undef, execOp, rho, go_sem, hl, famUpon, famOf, isV, Grows.refl]
      · intro f V hg hl
        obtain ⟨z0, z1, z2, z3, z4, z5, z6, z7, z8, z9, z10, z11, z12, z13⟩ := HL1.out V hg
        simp [Oper.looksAt, Op.operands, Call.operands, famAt, famOf, isV] at hl
        simp [famWants, boolIs_bool, boolIs_undef, execOp, rho, go_sem, hl, z0, z1, z2, z3, z4, z5, z6, z7, z8, z9, z10, z11, z12, z13, famUpon, famOf, isV, Grows.refl]
      · intro f V hg hl
        simp [Oper.looksAt, Op.operands, Call.operands, famAt, famOf, isV] at hl
        simp [famWants, boolIs_bool, boolIs_undef, execOp, rho, go_sem, hl, famUpon, famOf, isV, Grows.refl]
        exact H3.out V
      · intro f V hg hl
        simp [Oper.looksAt, Op.operands, Call.operands, famAt, famOf, isV] at hl
        simp [famWants, boolIs_bool, boolIs_undef, execOp, rho, go_sem, hl, famUpon, famOf, isV, Grows.refl]
      · intro f V hg hl
        obtain ⟨z0, z1, z2, z3, z4, z5, z6, z7, z8, z9, z10, z11, z12, z13⟩ := HL1.out V hg
        simp [Oper.looksAt, Op.operands, Call.operands, famAt, famOf, isV] at hl
        simp [famWants, boolIs_bool, boolIs_undef, execOp, rho, go_sem, hl, z0, z1, z2, z3, z4, z5, z6, z7, z8, z9, z10, z11, z12, z13, famUpon, famOf, isV, Grows.refl]
      · intro f V hg hl
        simp [Oper.looksAt, Op.operands, Call.operands, famAt, famOf, isV] at hl
        simp [famWants, boolIs_bool, boolIs_undef, execOp, rho, go_sem, hl, famUpon, famOf, isV, Grows.refl]
        exact H4.out V
      · intro f V hg hl
        simp [Oper.looksAt, Op.operands, Call.operands, famAt, famOf, isV] at hl
        simp [famWants, boolIs_bool, boolIs_undef, execOp, rho, go_sem, hl, famUpon, famOf, isV, Grows.refl]
      · intro f V hg hl
        simp [Oper.looksAt, Op.operands, Call.operands, famAt, famOf, isV] at hl
        simp [famWants, boolIs_bool, boolIs_undef, execOp, rho, go_sem, hl, famUpon, famOf, isV, Grows.refl]
      · intro f V hg hl
        simp [Oper.looksAt, Op.operands, Call.operands, famAt, famOf, isV] at hl
        simp [famWants, boolIs_bool, boolIs_undef, execOp, rho, go_sem, hl, famUpon, famOf, isV, Grows.refl]
      · intro f V hg hl
        obtain ⟨z0, z1, z2, z3, z4, z5, z6, z7, z8, z9, z10, z11, z12, z13⟩ := HL1.out V hg
        simp [Oper.looksAt, Op.operands, Call.operands, famAt, famOf, isV] at hl
        simp [famWants, boolIs_bool, boolIs_undef, execOp, rho, go_sem, hl, z0, z1, z2, z3, z4, z5, z6, z7, z8, z9, z10, z11, z12, z13, famUpon, famOf, isV, Grows.refl]
      · intro f V hg hl
        obtain ⟨z0, z1, z2, z3, z4, z5, z6, z7, z8, z9, z10, z11, z12, z13⟩ := HL2.out V hg
        simp [Oper.looksAt, Op.operands, Call.operands, famAt, famOf, isV] at hl
        simp [famWants, boolIs_bool, boolIs_undef, execOp, rho, go_sem, hl, z0, z1, z2, z3, z4, z5, z6, z7, z8, z9, z10, z11, z12, z13, famUpon, famOf, isV, Grows.refl]
      · intro f V hg hl
        simp [Oper.looksAt, Op.operands, Call.operands, famAt, famOf, isV] at hl
        simp [famWants, boolIs_bool, boolIs_undef, execOp, rho, go_sem, hl, famUpon, famOf, isV, Grows.refl]
        exact H5.out V
      · intro f V hg hl
        obtain ⟨z0, z1, z2, z3, z4, z5, z6, z7, z8, z9, z10, z11, z12, z13⟩ := HL1.out V hg
        simp [Oper.looksAt, Op.operands, Call.operands, famAt, famOf, isV] at hl
        simp [famWants, boolIs_bool, boolIs_undef, execOp, rho, go_sem, hl, z0, z1, z2, z3, z4, z5, z6, z7, z8, z9, z10, z11, z12, z13, famUpon, famOf, isV, Grows.refl]
      · intro f V hg hl
        obtain ⟨z0, z1, z2, z3, z4, z5, z6, z7, z8, z9, z10, z11, z12, z13⟩ := HL2.out V hg
        simp [Oper.looksAt, Op.operands, Call.operands, famAt, famOf, isV] at hl
        simp [famWants, boolIs_bool, boolIs_undef, execOp, rho, go_sem, hl, z0, z1, z2, z3, z4, z5, z6, z7, z8, z9, z10, z11, z12, z13, famUpon, famOf, isV, Grows.refl]
      · intro f V hg hl
        simp [Oper.looksAt, Op.operands, Call.operands, famAt, famOf, isV] at hl
        simp [famWants, boolIs_bool, boolIs_undef, execOp, rho, go_sem, hl, famUpon, famOf, isV, Grows.refl]
        exact H6.out V
      · intro f V hg hl
        simp [Oper.looksAt, Op.operands, Call.operands, famAt, famOf, isV] at hl
        simp [famWants, boolIs_bool, boolIs_undef, execOp, rho, go_sem, hl, famUpon, famOf, isV, Grows.refl]
      · intro f V hg hl
        simp [Oper.looksAt, Op.operands, Call.operands, famAt, famOf, isV] at hl
        simp [famWants, boolIs_bool, boolIs_undef, execOp, rho, go_sem, hl, famUpon, famOf, isV, Grows.refl]
      · trivial
    · intro u V hg hu
      have h33 : u 33 = .bool true := hu 33 (by decide)
      simp only [List.drop_succ_cons, List.drop_zero, fill, Act.put, List.setIfInBounds_toArray, List.set_cons_zero, List.set_cons_succ, h33]
      clear hu h33 HL1 HL2
      go_wp2
      go_ret
      exact ⟨rfl, hb04.trans (Below.mono hg hb04.size)⟩
end Go.Proofs.Ytlckappnpdkihaa
