/- Layer 7, the program's: rightOfKind, Right. -/
import Derived.Test.YtedcgfcmhaeldaaEvP4
namespace Go.Proofs.Ytedcgfcmhaeldaa
set_option linter.unusedVariables false
set_option linter.unusedSimpArgs false
open Go.ChangeShapes Go.WideShapes Go.ChangeAt Go.RowKit

def kindR (F : Nat → Int) (M : List D.Dot) : Bool :=
  if F 3 = 1 then inB (F 5) 0 1099511627776 && E.pz F && decide (M.length = 0)
  else if F 3 = 2 then decide (F 5 = 0) && E.rp F && remOk F M
  else if F 3 = 3 then decide (F 5 = 0) && E.pz F && remOk F M
  else false
theorem right_is (F : Nat → Int) (M : List D.Dot) : (D.may (F 0, F 1) && inB (F 2) 1 1099511627776 && inB (F 4) 0 7 && kindR F M) = E.right F M := by
  unfold E.right E.headOk E.kindOk kindR remOk inB
  rw [Bool.eq_iff_iff]
  split
  · by_cases hM : M.length = 0
    · have : M = [] := List.eq_nil_of_length_eq_zero hM
      subst this
      simp only [Bool.and_eq_true, decide_eq_true_eq]
      have hz : (([] : List D.Dot).length ≤ 96) := by simp
      have hy : E.rems F ([] : List D.Dot) = true := rfl
      constructor
      · rintro ⟨⟨⟨h1, h2⟩, h3⟩, h4⟩
        exact ⟨⟨⟨⟨h1, by omega⟩, hz⟩, hy⟩, h4⟩
      · rintro ⟨⟨⟨⟨h1, h2⟩, _⟩, _⟩, h4⟩
        exact ⟨⟨⟨h1, by omega⟩, by omega⟩, h4⟩
    · simp [hM]
  · split
    · simp only [Bool.and_eq_true, decide_eq_true_eq]
      constructor
      · rintro ⟨⟨⟨h1, h2⟩, h3⟩, ⟨h4, h5⟩, h6, h7⟩
        exact ⟨⟨⟨⟨h1, by omega⟩, h6⟩, h7⟩, h4, h5⟩
      · rintro ⟨⟨⟨⟨h1, h2⟩, h6⟩, h7⟩, h4, h5⟩
        exact ⟨⟨⟨h1, by omega⟩, by omega⟩, ⟨h4, h5⟩, h6, h7⟩
    · split
      · simp only [Bool.and_eq_true, decide_eq_true_eq]
        constructor
        · rintro ⟨⟨⟨h1, h2⟩, h3⟩, ⟨h4, h5⟩, h6, h7⟩
          exact ⟨⟨⟨⟨h1, by omega⟩, h6⟩, h7⟩, h4, h5⟩
        · rintro ⟨⟨⟨⟨h1, h2⟩, h6⟩, h7⟩, h4, h5⟩
          exact ⟨⟨⟨h1, by omega⟩, by omega⟩, ⟨h4, h5⟩, h6, h7⟩
      · simp

set_option maxRecDepth 100000 in
set_option maxHeartbeats 8000000 in
theorem ofkind_any (S : Nat → Prop) (F : Nat → Int) (A : Option Addr) (n c : Nat) (M : List D.Dot) (w : World) (hn : M.length = n) (hr : Rds w S A (dvs M)) (hl : n ≤ maxLen) :
    Calls Try.prog 56 #[ev F A n c] w fun e w' => e = .returned (.bool (kindR F M)) ∧ Below w.heap.size w w' := by
  have HN := Lib.hid hn
  obtain ⟨w1, hw1⟩ : ∃ W, (w.alloc (.cells (ecs F A n c) 43)).alloc (.cells #[.int .i64 0, .int .i64 0, .int .i64 0, .int .i64 0, .int .i64 0, .int .i64 0, .int .i64 0] 41) = W := ⟨_, rfl⟩
  obtain ⟨g1, hg1⟩ : ∃ g, g = w.heap.size := ⟨_, rfl⟩
  obtain ⟨g2, hg2⟩ : ∃ g, g = w.heap.size + 1 := ⟨_, rfl⟩
  have hb1 : Below w.heap.size w w1 := by rw [← hw1]; exact b_alloc2 _ _ _
  have hX1 : Blo w1 g1 43 (ecs F A n c) := by rw [← hw1, hg1]; exact (Blo.made _ _ _).alloc _
  have hP1 : Blo w1 g2 41 #[.int .i64 0, .int .i64 0, .int .i64 0, .int .i64 0, .int .i64 0, .int .i64 0, .int .i64 0] := by
    rw [← hw1, hg2]
    have := Blo.made (w.alloc (.cells (ecs F A n c) 43)) 41 #[.int .i64 0, .int .i64 0, .int .i64 0, .int .i64 0, .int .i64 0, .int .i64 0, .int .i64 0]
    simpa using this
  have hr1 := hr.new hb1
  have HW := Lib.hid hw1
  have HG := Lib.hid hg1
  have HG2 := Lib.hid hg2
  obtain ⟨z0, z1, z2, z3, z4, z5, z6, z7, z8, z9, z10, z11, z12, z13⟩ := set14 hX1
  have p0 : w1.cell? ⟨g2, 0, none⟩ = some (.int .i64 0) := by simpa using hP1.cell 0
  have p1 : w1.cell? ⟨g2, 1, none⟩ = some (.int .i64 0) := by simpa using hP1.cell 1
  have p2 : w1.cell? ⟨g2, 2, none⟩ = some (.int .i64 0) := by simpa using hP1.cell 2
  have p3 : w1.cell? ⟨g2, 3, none⟩ = some (.int .i64 0) := by simpa using hP1.cell 3
  have p4 : w1.cell? ⟨g2, 4, none⟩ = some (.int .i64 0) := by simpa using hP1.cell 4
  have p5 : w1.cell? ⟨g2, 5, none⟩ = some (.int .i64 0) := by simpa using hP1.cell 5
  have p6 : w1.cell? ⟨g2, 6, none⟩ = some (.int .i64 0) := by simpa using hP1.cell 6
  have q2 := Try.guardPol
  have q3 := fun W => eql_pol0 F W
  clear hw1 hg1 hg2 hr hn
  by_cases k1 : F 3 = 1
  · have HK : Hid (kindR F M = (inB (F 5) 0 1099511627776 && E.pz F && decide (M.length = 0))) := Lib.hid (by unfold kindR; rw [if_pos k1])
    have e1 : (F 3 == 1) = true := by simpa using k1
    clear k1
    go_enter Try.func56, Try.ntmps56
    go_wp2_with fail
    rw [HW.out, ← HG2.out, ← HG.out]
    go_wp2_with fail
    refine (evwithin_any _ _ _ _).mono ?_
    rintro e w2 ⟨rfl, rfl⟩
    cases hq : inB (F 5) 0 1099511627776 with
    | false =>
      have HF : Hid (kindR F M = false) := Lib.hid (by rw [HK.out, hq]; rfl)
      clear hq
      go_wp2
      go_ret
      exact ⟨ret_bool HF.out.symm, hb1⟩
    | true =>
      cases hz : E.pz F with
      | false =>
        have HF : Hid (kindR F M = false) := Lib.hid (by rw [HK.out, hq, hz]; rfl)
        simp only [hz] at q3
        clear hq hz
        go_wp2
        go_ret
        exact ⟨ret_bool HF.out.symm, hb1⟩
      | true =>
        have HF : Hid (kindR F M = ((n : Int) == 0)) := Lib.hid (by
          rw [HK.out, hq, hz, HN.out, Bool.eq_iff_iff]
          simp)
        simp only [hz] at q3
        clear hq hz
        go_wp2
        go_ret
        exact ⟨ret_bool HF.out.symm, hb1⟩
  · have e1 : (F 3 == 1) = false := by simpa using k1
    by_cases k2 : F 3 = 2
    · have HK : Hid (kindR F M = (decide (F 5 = 0) && E.rp F && remOk F M)) := Lib.hid (by unfold kindR; rw [if_neg k1, if_pos k2])
      have e2 : (F 3 == 2) = true := by simpa using k2
      have hp := rightpol_any F w1
      by_cases h5 : F 5 = 0
      · have e5 : (F 5 == 0) = true := by simpa using h5
        have HR5 : Hid (decide (F 5 = 0) = true) := Lib.hid (decide_eq_true h5)
        clear k1 k2 h5
        go_enter Try.func56, Try.ntmps56
        go_wp2_with fail
        rw [HW.out, ← HG2.out, ← HG.out]
        go_wp2_with fail
        refine hp.mono ?_
        rintro e w2 ⟨rfl, hb2⟩
        cases hz : E.rp F with
        | false =>
          have HF : Hid (kindR F M = false) := Lib.hid (by rw [HK.out, hz]; simp)
          clear hz
          go_wp2
          go_ret
          exact ⟨ret_bool HF.out.symm, below_new hb1 hb2⟩
        | true =>
          have HF : Hid (kindR F M = remOk F M) := Lib.hid (by rw [HK.out, hz, HR5.out]; rfl)
          have hX2 := hX1.new hb2
          have hrr := rightrem_any S F A n c M w2 HN.out (hr1.new hb2) hl
          clear hz hp z0 z1 z2 z3 z4 z5 z6 z7 z8 z9 z10 z11 z12 z13
          obtain ⟨z0, z1, z2, z3, z4, z5, z6, z7, z8, z9, z10, z11, z12, z13⟩ := set14 hX2
          go_wp2_with fail
          refine hrr.mono ?_
          rintro e w3 ⟨rfl, hb3⟩
          clear hrr z0 z1 z2 z3 z4 z5 z6 z7 z8 z9 z10 z11 z12 z13
          go_wp2
          go_ret
          exact ⟨ret_bool HF.out.symm, below_new (below_new hb1 hb2) hb3⟩
      · have HF : Hid (kindR F M = false) := Lib.hid (by rw [HK.out, decide_eq_false h5]; rfl)
        have e5 : (F 5 == 0) = false := by simpa using h5
        clear k1 k2 h5 hp
        go_enter Try.func56, Try.ntmps56
        go_wp2
        go_ret
        exact ⟨ret_bool HF.out.symm, b_alloc2 _ _ _⟩
    · have e2 : (F 3 == 2) = false := by simpa using k2
      by_cases k3 : F 3 = 3
      · have HK : Hid (kindR F M = (decide (F 5 = 0) && E.pz F && remOk F M)) := Lib.hid (by unfold kindR; rw [if_neg k1, if_neg k2, if_pos k3])
        have e3 : (F 3 == 3) = true := by simpa using k3
        by_cases h5 : F 5 = 0
        · have e5 : (F 5 == 0) = true := by simpa using h5
          have HR5 : Hid (decide (F 5 = 0) = true) := Lib.hid (decide_eq_true h5)
          cases hz : E.pz F with
          | false =>
            have HF : Hid (kindR F M = false) := Lib.hid (by rw [HK.out, hz]; simp)
            simp only [hz] at q3
            clear k1 k2 k3 h5 hz
            go_enter Try.func56, Try.ntmps56
            go_wp2
            go_ret
            exact ⟨ret_bool HF.out.symm, b_alloc2 _ _ _⟩
          | true =>
            have HF : Hid (kindR F M = remOk F M) := Lib.hid (by rw [HK.out, hz, HR5.out]; rfl)
            simp only [hz] at q3
            have hrr := rightrem_any S F A n c M w1 HN.out hr1 hl
            rw [← HW.out] at hrr
            clear k1 k2 k3 h5 hz
            go_enter Try.func56, Try.ntmps56
            go_wp2_with fail
            refine hrr.mono ?_
            rintro e w3 ⟨rfl, hb3⟩
            clear hrr z0 z1 z2 z3 z4 z5 z6 z7 z8 z9 z10 z11 z12 z13
            go_wp2
            go_ret
            exact ⟨ret_bool HF.out.symm, below_new (b_alloc2 _ _ _) hb3⟩
        · have HF : Hid (kindR F M = false) := Lib.hid (by rw [HK.out, decide_eq_false h5]; rfl)
          have e5 : (F 5 == 0) = false := by simpa using h5
          clear k1 k2 k3 h5
          go_enter Try.func56, Try.ntmps56
          go_wp2
          go_ret
          exact ⟨ret_bool HF.out.symm, b_alloc2 _ _ _⟩
      · have HF : Hid (kindR F M = false) := Lib.hid (by unfold kindR; rw [if_neg k1, if_neg k2, if_neg k3])
        have e3 : (F 3 == 3) = false := by simpa using k3
        clear k1 k2 k3
        go_enter Try.func56, Try.ntmps56
        go_wp2
        go_ret
        exact ⟨ret_bool HF.out.symm, b_alloc2 _ _ _⟩

set_option maxRecDepth 100000 in
set_option maxHeartbeats 8000000 in
theorem evright_any (S : Nat → Prop) (F : Nat → Int) (A : Option Addr) (n c : Nat) (M : List D.Dot) (w : World) (hn : M.length = n) (hr : Rds w S A (dvs M)) (hl : n ≤ maxLen) :
    Calls Try.prog 31 #[ev F A n c] w fun e w' => e = .returned (.bool (E.right F M)) ∧ Below w.heap.size w w' := by
  have HR := Lib.hid (right_is F M)
  obtain ⟨w1, hw1⟩ : ∃ W, w.alloc (.cells (ecs F A n c) 43) = W := ⟨_, rfl⟩
  obtain ⟨g1, hg1⟩ : ∃ g, g = w.heap.size := ⟨_, rfl⟩
  have hb1 : Below w.heap.size w w1 := by rw [← hw1]; exact b_alloc _ _
  have hX1 : Blo w1 g1 43 (ecs F A n c) := by rw [← hw1, hg1]; exact Blo.made _ _ _
  have hr1 := hr.new hb1
  have HW := Lib.hid hw1
  have HG := Lib.hid hg1
  have HN := Lib.hid hn
  have z0 : w1.cell? ⟨g1, 0, none⟩ = some (.int .i64 (F 0)) := by simpa using hX1.cell 0
  have z1 : w1.cell? ⟨g1, 1, none⟩ = some (.int .i64 (F 1)) := by simpa using hX1.cell 1
  clear hw1 hg1 hn hr
  go_enter Try.func31, Try.ntmps31
  go_wp2_with fail
  rw [HW.out, ← HG.out]
  go_wp2_with fail
  refine (evmay_any _ _ _).mono ?_
  rintro e w2 ⟨rfl, hb2⟩
  have hX2 := hX1.new hb2
  have hr2 := hr1.new hb2
  have hb02 := below_new hb1 hb2
  clear z0 z1 hX1 hr1 hb1 hb2
  obtain ⟨z0, z1, z2, z3, z4, z5, z6, z7, z8, z9, z10, z11, z12, z13⟩ := set14 hX2
  cases q1 : D.may (F 0, F 1) with
  | false =>
    have HF : Hid (E.right F M = false) := Lib.hid (by rw [← HR.out, q1]; rfl)
    clear q1
    go_wp2
    go_ret
    exact ⟨ret_bool HF.out.symm, hb02⟩
  | true =>
    go_wp2_with fail
    refine (evwithin_any _ _ _ _).mono ?_
    rintro e w3 ⟨rfl, rfl⟩
    cases q2 : inB (F 2) 1 1099511627776 with
    | false =>
      have HF : Hid (E.right F M = false) := Lib.hid (by rw [← HR.out, q1, q2]; rfl)
      clear q1 q2
      go_wp2
      go_ret
      exact ⟨ret_bool HF.out.symm, hb02⟩
    | true =>
      go_wp2_with fail
      refine (evwithin_any _ _ _ _).mono ?_
      rintro e w3 ⟨rfl, rfl⟩
      cases q3 : inB (F 4) 0 7 with
      | false =>
        have HF : Hid (E.right F M = false) := Lib.hid (by rw [← HR.out, q1, q2, q3]; rfl)
        clear q1 q2 q3
        go_wp2
        go_ret
        exact ⟨ret_bool HF.out.symm, hb02⟩
      | true =>
        have HF : Hid (E.right F M = kindR F M) := Lib.hid (by rw [← HR.out, q1, q2, q3]; rfl)
        clear q1 q2 q3
        have hk := ofkind_any S F A n c M w3 HN.out hr2 hl
        go_wp2_with fail
        refine hk.mono ?_
        rintro e w4 ⟨rfl, hb4⟩
        clear hk z0 z1 z2 z3 z4 z5 z6 z7 z8 z9 z10 z11 z12 z13
        go_wp2
        go_ret
        exact ⟨ret_bool HF.out.symm, below_new hb02 hb4⟩
end Go.Proofs.Ytedcgfcmhaeldaa
