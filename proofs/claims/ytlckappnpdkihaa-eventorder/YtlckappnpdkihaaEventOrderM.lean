/- The walk of EventOrder over three events. -/
import Derived.Test.YtlckappnpdkihaaEvAlive
import Derived.Test.YtlckappnpdkihaaEvArgs
import Derived.Test.YtlckappnpdkihaaFam
namespace Go.Proofs.Ytlckappnpdkihaa
set_option linter.unusedVariables false
set_option linter.unusedSimpArgs false
open Go.ChangeShapes Go.WideShapes Go.ChangeAt Go.RowKit

theorem not_f {b : Bool} (h : false = !b) : b = true := by cases b <;> simp_all
theorem not_t {b : Bool} (h : true = !b) : b = false := by cases b <;> simp_all

set_option maxRecDepth 100000 in
set_option maxHeartbeats 8000000 in
theorem order_main (F G H : Nat → Int) (A B C : Option Addr) (n c m d k q : Nat) (w : World) :
    Calls Try.prog 7 #[ev F A n c, ev G B m d, ev H C k q] w fun e w' => e = .returned (.bool true) ∧ Below w.heap.size w w' := by
  obtain ⟨w1, hw1⟩ : ∃ W, ((w.alloc (.cells (ecs F A n c) 28)).alloc (.cells (ecs G B m d) 28)).alloc (.cells (ecs H C k q) 28) = W := ⟨_, rfl⟩
  obtain ⟨g1, hg1⟩ : ∃ g, g = w.heap.size := ⟨_, rfl⟩
  obtain ⟨g2, hg2⟩ : ∃ g, g = w.heap.size + 1 := ⟨_, rfl⟩
  obtain ⟨g3, hg3⟩ : ∃ g, g = w.heap.size + 2 := ⟨_, rfl⟩
  have hb1 : Below w.heap.size w w1 := by rw [← hw1]; exact below_new (b_alloc2 _ _ _) (b_alloc _ _)
  have hX1 : Blo w1 g1 28 (ecs F A n c) := by rw [← hw1, hg1]; exact ((Blo.made _ _ _).alloc _).alloc _
  have hX2 : Blo w1 g2 28 (ecs G B m d) := by
    rw [← hw1, hg2]
    have := (Blo.made (w.alloc (.cells (ecs F A n c) 28)) 28 (ecs G B m d)).alloc (.cells (ecs H C k q) 28)
    simpa using this
  have hX3 : Blo w1 g3 28 (ecs H C k q) := by
    rw [← hw1, hg3]
    have := Blo.made ((w.alloc (.cells (ecs F A n c) 28)).alloc (.cells (ecs G B m d) 28)) 28 (ecs H C k q)
    simpa using this
  have HW := Lib.hid hw1
  have HG1 := Lib.hid hg1
  have HG2 := Lib.hid hg2
  have HG3 := Lib.hid hg3
  clear hw1 hg1 hg2 hg3
  go_enter Try.func7, Try.ntmps7
  go_wp2_with fail
  rw [HW.out, ← HG3.out, ← HG2.out, ← HG1.out]
  refine (evalive_any _).mono ?_
  rintro e w2 ⟨rfl, hb2⟩
  have hb02 := below_new hb1 hb2
  have hY1 := hX1.new hb2
  have hY2 := hX2.new hb2
  have hY3 := hX3.new hb2
  clear hX1 hX2 hX3 hb1 hb2
  have HL1 : Hid (∀ V, Grows w2 V → _) := Lib.hid (fun V hV => set14 (hY1.new hV))
  have HL2 : Hid (∀ V, Grows w2 V → _) := Lib.hid (fun V hV => set14 (hY2.new hV))
  have HC := Lib.hid (fun V => later_any F G A n c B m d V)
  have HD := Lib.hid (fun V => later_any G F B m d A n c V)
  have HE := fun V => later_any G H B m d C k q V
  have HF := fun V => later_any F H A n c C k q V
  obtain ⟨ab, hab⟩ : ∃ b, b = E.later F G := ⟨_, rfl⟩
  obtain ⟨ba, hba⟩ : ∃ b, b = E.later G F := ⟨_, rfl⟩
  obtain ⟨bc, hbc⟩ : ∃ b, b = E.later G H := ⟨_, rfl⟩
  obtain ⟨ac, hac⟩ : ∃ b, b = E.later F H := ⟨_, rfl⟩
  rw [← hab] at HC
  rw [← hba] at HD
  simp only [← hbc] at HE
  simp only [← hac] at HF
  have Hab := Lib.hid hab
  have Hba := Lib.hid hba
  have Hbc := Lib.hid hbc
  have Hac := Lib.hid hac
  have HE := Lib.hid HE
  have HF := Lib.hid HF
  clear hab hba hbc hac
  go_wp2_with fail
  refine wp_fam (n := 6) (size := 52) (D := [11, 12, 13, 14, 15, 16]) [(11, isV (ev F A n c)), (12, isV (ev G B m d)), (13, isV (.bool ab)), (14, isV (ev G B m d)), (15, isV (ev F A n c)), (16, isV (.bool ba))] (by kernel_rfl) (by rfl) (by kernel_rfl) ?_ ?_
  · simp only [List.take_succ_cons, List.take_zero, famAll]
    repeat' apply And.intro
    · intro f V hg hl
      obtain ⟨z0, z1, z2, z3, z4, z5, z6, z7, z8, z9, z10, z11, z12, z13⟩ := HL1.out V hg
      simp [Oper.looksAt, Op.operands, Call.operands, famAt, famOf, isV] at hl
      simp [famWants, boolIs_bool, boolIs_undef, execOp, rho, go_sem, hl, z0, z1, z2, z3, z4, z5, z6, z7, z8, z9, z10, z11, z12, z13, famUpon, famOf, isV, Grows.refl]
    · intro f V hg hl
      obtain ⟨z0, z1, z2, z3, z4, z5, z6, z7, z8, z9, z10, z11, z12, z13⟩ := HL2.out V hg
      simp [Oper.looksAt, Op.operands, Call.operands, famAt, famOf, isV] at hl
      simp [famWants, boolIs_bool, boolIs_undef, execOp, rho, go_sem, hl, z0, z1, z2, z3, z4, z5, z6, z7, z8, z9, z10, z11, z12, z13, famUpon, famOf, isV, Grows.refl]
    · intro f V hg hl
      simp [Oper.looksAt, Op.operands, Call.operands, famAt, famOf, isV] at hl
      simp [famWants, boolIs_bool, boolIs_undef, execOp, rho, go_sem, hl, famUpon, famOf, isV, Grows.refl]
      exact HC.out V
    · intro f V hg hl
      obtain ⟨z0, z1, z2, z3, z4, z5, z6, z7, z8, z9, z10, z11, z12, z13⟩ := HL2.out V hg
      simp [Oper.looksAt, Op.operands, Call.operands, famAt, famOf, isV] at hl
      simp [famWants, boolIs_bool, boolIs_undef, execOp, rho, go_sem, hl, z0, z1, z2, z3, z4, z5, z6, z7, z8, z9, z10, z11, z12, z13, famUpon, famOf, isV, Grows.refl]
    · intro f V hg hl
      obtain ⟨z0, z1, z2, z3, z4, z5, z6, z7, z8, z9, z10, z11, z12, z13⟩ := HL1.out V hg
      simp [Oper.looksAt, Op.operands, Call.operands, famAt, famOf, isV] at hl
      simp [famWants, boolIs_bool, boolIs_undef, execOp, rho, go_sem, hl, z0, z1, z2, z3, z4, z5, z6, z7, z8, z9, z10, z11, z12, z13, famUpon, famOf, isV, Grows.refl]
    · intro f V hg hl
      simp [Oper.looksAt, Op.operands, Call.operands, famAt, famOf, isV] at hl
      simp [famWants, boolIs_bool, boolIs_undef, execOp, rho, go_sem, hl, famUpon, famOf, isV, Grows.refl]
      exact HD.out V
    · trivial
  · intro u V hg hu
    have h13 : u 13 = .bool ab := hu 13 (by decide)
    have h16 : u 16 = .bool ba := hu 16 (by decide)
    simp only [List.drop_succ_cons, List.drop_zero, fill, Act.put, List.setIfInBounds_toArray, List.set_cons_zero, List.set_cons_succ, h13, h16]
    clear hu h13 h16
    have hV : Below w.heap.size w V := hb02.trans (Below.mono hg hb02.size)
    have hZ1 := hY1.new hg
    have hZ2 := hY2.new hg
    have hZ3 := hY3.new hg
    clear hY1 hY2 hY3 HL1 HL2 HC HD hg
    obtain ⟨z0, z1, z2, z3, z4, z5, z6, z7, z8, z9, z10, z11, z12, z13⟩ := set14 hZ1
    obtain ⟨y0, y1, y2, y3, y4, y5, y6, y7, y8, y9, y10, y11, y12, y13⟩ := set14 hZ2
    have q1 := fun W => eql_dot (F 0) (F 1) (G 0) (G 1) W
    have q2 := Try.guardDot
    by_cases hs : F 2 = G 2 ∧ (F 0, F 1) = (G 0, G 1)
    · have e1 : ab = false := by rw [Hab.out]; exact E.later_same F G hs
      have e2 : ba = false := by rw [Hba.out]; exact E.later_same G F ⟨hs.1.symm, hs.2.symm⟩
      subst e1 e2
      have t2 : (F 2 == G 2) = true := by simpa using hs.1
      have td : (F 0 == G 0 && F 1 == G 1) = true := by have := hs.2; simp at this; simp [this.1, this.2]
      simp only [td] at q1
      clear hs td
      go_wp2
      go_ret
      exact ⟨rfl, hV⟩
    · have e1 : ab = !ba := by rw [Hab.out, Hba.out]; exact E.later_not F G hs
      have htr : ab = true → bc = true → ac = true := fun h1 h2 => by
        rw [Hac.out]
        exact E.later_trans F G H (by rw [← Hab.out]; exact h1) (by rw [← Hbc.out]; exact h2)
      have HTR := Lib.hid htr
      have HE1 := Lib.hid e1
      have fin : ∀ {P : Program} {fn : Func}, True := trivial
      clear htr e1 fin
      obtain ⟨x0, x1, x2, x3, x4, x5, x6, x7, x8, x9, x10, x11, x12, x13⟩ := set14 hZ3
      by_cases ht : F 2 = G 2
      · have t2 : (F 2 == G 2) = true := by simpa using ht
        have td : (F 0 == G 0 && F 1 == G 1) = false := by
          have : ¬ (F 0, F 1) = (G 0, G 1) := fun h => hs ⟨ht, h⟩
          simp at this
          simpa using this
        simp only [td] at q1
        clear hs ht td
        cases ab with
        | false =>
          have e2 : ba = true := not_f HE1.out
          subst e2
          go_wp2
          go_ret
          exact ⟨rfl, hV⟩
        | true =>
          have e2 : ba = false := not_t HE1.out
          subst e2
          go_wp2_with fail
          refine (HE.out V).mono ?_
          rintro e w3 ⟨rfl, hb3⟩
          have hV3 := below_new hV hb3
          have hU1 := hZ1.new hb3
          have hU3 := hZ3.new hb3
          clear z0 z1 z2 z3 z4 z5 z6 z7 z8 z9 z10 z11 z12 z13 x0 x1 x2 x3 x4 x5 x6 x7 x8 x9 x10 x11 x12 x13 y0 y1 y2 y3 y4 y5 y6 y7 y8 y9 y10 y11 y12 y13
          obtain ⟨z0, z1, z2, z3, z4, z5, z6, z7, z8, z9, z10, z11, z12, z13⟩ := set14 hU1
          obtain ⟨x0, x1, x2, x3, x4, x5, x6, x7, x8, x9, x10, x11, x12, x13⟩ := set14 hU3
          cases bc with
          | false =>
            go_wp2
            go_ret
            exact ⟨rfl, hV3⟩
          | true =>
            have e3 : ac = true := by simpa using HTR.out
            subst e3
            go_wp2_with fail
            refine (HF.out w3).mono ?_
            rintro e w4 ⟨rfl, hb4⟩
            clear z0 z1 z2 z3 z4 z5 z6 z7 z8 z9 z10 z11 z12 z13 x0 x1 x2 x3 x4 x5 x6 x7 x8 x9 x10 x11 x12 x13
            go_wp2
            go_ret
            exact ⟨rfl, below_new hV3 hb4⟩
      · have t2 : (F 2 == G 2) = false := by simpa using ht
        clear hs ht
        cases ab with
        | false =>
          have e2 : ba = true := not_f HE1.out
          subst e2
          go_wp2
          go_ret
          exact ⟨rfl, hV⟩
        | true =>
          have e2 : ba = false := not_t HE1.out
          subst e2
          go_wp2_with fail
          refine (HE.out V).mono ?_
          rintro e w3 ⟨rfl, hb3⟩
          have hV3 := below_new hV hb3
          have hU1 := hZ1.new hb3
          have hU3 := hZ3.new hb3
          clear z0 z1 z2 z3 z4 z5 z6 z7 z8 z9 z10 z11 z12 z13 x0 x1 x2 x3 x4 x5 x6 x7 x8 x9 x10 x11 x12 x13 y0 y1 y2 y3 y4 y5 y6 y7 y8 y9 y10 y11 y12 y13
          obtain ⟨z0, z1, z2, z3, z4, z5, z6, z7, z8, z9, z10, z11, z12, z13⟩ := set14 hU1
          obtain ⟨x0, x1, x2, x3, x4, x5, x6, x7, x8, x9, x10, x11, x12, x13⟩ := set14 hU3
          cases bc with
          | false =>
            go_wp2
            go_ret
            exact ⟨rfl, hV3⟩
          | true =>
            have e3 : ac = true := by simpa using HTR.out
            subst e3
            go_wp2_with fail
            refine (HF.out w3).mono ?_
            rintro e w4 ⟨rfl, hb4⟩
            clear z0 z1 z2 z3 z4 z5 z6 z7 z8 z9 z10 z11 z12 z13 x0 x1 x2 x3 x4 x5 x6 x7 x8 x9 x10 x11 x12 x13
            go_wp2
            go_ret
            exact ⟨rfl, below_new hV3 hb4⟩
end Go.Proofs.Ytlckappnpdkihaa
