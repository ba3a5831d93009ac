/- Layer 7, the program's: rightRemoves. -/
import Derived.Test.YtedcgfcmhaeldaaEvP3
import Derived.Test.YtedcgfcmhaeldaaEvRefRight
namespace Go.Proofs.Ytedcgfcmhaeldaa
set_option linter.unusedVariables false
set_option linter.unusedSimpArgs false
open Go.ChangeShapes Go.WideShapes Go.ChangeAt Go.RowKit

def remOk (F : Nat → Int) (M : List D.Dot) : Bool := decide (M.length ≤ 96) && E.rems F M
theorem remOk_bad {F : Nat → Int} {M : List D.Dot} {i : Nat} (hi : i < M.length) (h : E.rem1 F M i = false) : remOk F M = false := by
  have : E.rems F M = false := by
    cases e : E.rems F M with
    | false => rfl
    | true =>
      have := List.all_eq_true.1 e i (List.mem_range.2 hi)
      rw [h] at this; cases this
  unfold remOk
  rw [this]
  simp
theorem remOk_good {F : Nat → Int} {M : List D.Dot} (hl : M.length ≤ 96) (h : ∀ j, j < M.length → E.rem1 F M j = true) : remOk F M = true := by
  unfold remOk E.rems
  rw [Bool.and_eq_true]
  exact ⟨decide_eq_true hl, List.all_eq_true.2 fun j hj => h j (List.mem_range.1 hj)⟩

set_option maxRecDepth 100000 in
set_option maxHeartbeats 8000000 in
theorem rightrem_any (S : Nat → Prop) (F : Nat → Int) (A : Option Addr) (n c : Nat) (M : List D.Dot) (w : World) (hn : M.length = n) (hr : Rds w S A (dvs M)) (hl : n ≤ maxLen) :
    Calls Try.prog 73 #[ev F A n c] w fun e w' => e = .returned (.bool (remOk F M)) ∧ Below w.heap.size w w' := by
  have HN := Lib.hid hn
  obtain ⟨w1, hw1⟩ : ∃ W, w.alloc (.cells (ecs F A n c) 43) = W := ⟨_, rfl⟩
  obtain ⟨g1, hg1⟩ : ∃ g, g = w.heap.size := ⟨_, rfl⟩
  have hb1 : Below w.heap.size w w1 := by rw [← hw1]; exact b_alloc _ _
  have hX1 : Blo w1 g1 43 (ecs F A n c) := by rw [← hw1, hg1]; exact Blo.made _ _ _
  have hr1 := hr.new hb1
  have HW := Lib.hid hw1
  have HG := Lib.hid hg1
  have z13 : w1.cell? ⟨g1, 13, none⟩ = some (.slice A n c) := by simpa using hX1.cell 13
  clear hw1 hg1 hr
  by_cases h96 : 96 < n
  · have HF : Hid (remOk F M = false) := Lib.hid (by unfold remOk; rw [decide_eq_false (by omega)]; rfl)
    have h96' : (96 : Int) < (n : Int) := by omega
    clear hn
    go_enter Try.func73, Try.ntmps73
    go_wp2_with fail
    go_ret
    rw [HW.out]
    exact ⟨ret_bool HF.out.symm, hb1⟩
  · have h96' : ¬ (96 : Int) < (n : Int) := by omega
    have hs1 := hb1.size
    clear hn
    go_enter Try.func73, Try.ntmps73
    go_wp2_with fail
    rw [HW.out, ← HG.out]
    go_loopw [12] (fun iv wr => ∃ i : Nat, iv = .int .i64 i ∧ i ≤ n ∧ Hid (∀ j, j < i → E.rem1 F M j = true) ∧ Below w1.heap.size w1 wr) (fun iv _ => n - (intOf iv).toNat)
    case atStart => exact ⟨0, rfl, by omega, Lib.hid (fun j hj => by omega), Below.refl _ _⟩
    case round =>
      obtain ⟨i, rfl, hi, HO, hb⟩ := hrel
      have hbs := hb.size
      by_cases hlt : i < n
      · have hlt' : i < M.length := by rw [HN.out]; exact hlt
        obtain ⟨ad, rfl, _, d1, d2⟩ := (hr1.new hb).dot hlt'
        obtain ⟨x, hx⟩ : ∃ x, x = M[i] := ⟨_, rfl⟩
        rw [← hx] at d1 d2
        obtain ⟨x1, x2⟩ := x
        have HX := Lib.hid hx
        clear hx
        simp only at d1 d2
        obtain ⟨w3, hw3⟩ : ∃ W, wr.alloc (.cells #[.int .i64 x1, .int .i64 x2] 39) = W := ⟨_, rfl⟩
        obtain ⟨gx, hgx⟩ : ∃ g, g = wr.heap.size := ⟨_, rfl⟩
        have hb3 : Below wr.heap.size wr w3 := by rw [← hw3]; exact b_alloc _ _
        have hD : Blo w3 gx 39 #[.int .i64 x1, .int .i64 x2] := by rw [← hw3, hgx]; exact Blo.made _ _ _
        have hE3 := (hX1.new hb).new hb3
        have hr3 := (hr1.new hb).new hb3
        have hball : Below w.heap.size w w3 := hb1.trans ((hb.mono hs1).trans (hb3.mono (by omega)))
        have hball1 : Below w1.heap.size w1 w3 := hb.trans (hb3.mono hbs)
        have HW3 := Lib.hid hw3
        have HGX := Lib.hid hgx
        have k0 : w3.cell? ⟨gx, 0, none⟩ = some (.int .i64 x1) := by simpa using hD.cell 0
        have k1 : w3.cell? ⟨gx, 1, none⟩ = some (.int .i64 x2) := by simpa using hD.cell 1
        clear hw3 hgx hb3 hb
        go_wp2_with fail
        rw [HW3.out, ← HGX.out]
        go_wp2_with fail
        refine (evmay_any x1 x2 _).mono ?_
        rintro e w4 ⟨rfl, hb4⟩
        have hD4 := hD.new hb4
        have hE4 := hE3.new hb4
        have hr4 := hr3.new hb4
        have hb04 := below_new hball hb4
        have hb14 := hball1.trans (hb4.mono hball1.size)
        clear k0 k1 hD hE3 hr3 hball hball1
        cases hm : D.may (x1, x2) with
        | false =>
          have HF : Hid (remOk F M = false) := Lib.hid (remOk_bad hlt' (by rw [rem1_eq hlt', ← HX.out, hm]; simp))
          clear hm
          go_wp2
          go_ret
          exact ⟨ret_bool HF.out.symm, hb04⟩
        | true =>
          have k0 : w4.cell? ⟨gx, 0, none⟩ = some (.int .i64 x1) := by simpa using hD4.cell 0
          have k1 : w4.cell? ⟨gx, 1, none⟩ = some (.int .i64 x2) := by simpa using hD4.cell 1
          have z0 : w4.cell? ⟨g1, 0, none⟩ = some (.int .i64 (F 0)) := by simpa using hE4.cell 0
          have z1 : w4.cell? ⟨g1, 1, none⟩ = some (.int .i64 (F 1)) := by simpa using hE4.cell 1
          have q2 := Try.guardDot
          have Hm := Lib.hid hm
          clear hm
          by_cases hq : (x1 == F 0 && x2 == F 1) = true
          · have q1 : ∀ W, (binOp .eql 39 (.agg #[.int .i64 x1, .int .i64 x2]) (.agg #[.int .i64 (F 0), .int .i64 (F 1)])).run Try.prog W = .ok (.bool true) W := fun W => by rw [eql_dot, hq]
            have HF : Hid (remOk F M = false) := Lib.hid (remOk_bad hlt' (by
              rw [rem1_eq hlt', ← HX.out, decide_eq_true (p := (x1, x2) = (F 0, F 1)) (by simpa using hq)]
              simp))
            clear hq
            go_wp2
            go_ret
            exact ⟨ret_bool HF.out.symm, hb04⟩
          · have q1 : ∀ W, (binOp .eql 39 (.agg #[.int .i64 x1, .int .i64 x2]) (.agg #[.int .i64 (F 0), .int .i64 (F 1)])).run Try.prog W = .ok (.bool false) W := fun W => by rw [eql_dot, Bool.eq_false_iff.2 hq]
            have HQ : Hid (decide ((x1, x2) = (F 0, F 1)) = false) := Lib.hid (decide_eq_false (by simpa using hq))
            have HP : Hid (E.rem1 F M i = (decide (i = 0) || match M[i - 1]? with | none => false | some c => D.bef c (x1, x2))) := Lib.hid (by rw [rem1_eq hlt', ← HX.out, Hm.out, HQ.out]; rfl)
            clear hq
            go_wp2_with fail
            clear q1 q2 z0 z1 k0 k1
            have L0 : ∀ V, Grows w4 V → V.cell? ⟨gx, 0, none⟩ = some (.int .i64 x1) := fun V hV => by simpa using (hD4.new hV).cell 0
            have L1 : ∀ V, Grows w4 V → V.cell? ⟨gx, 1, none⟩ = some (.int .i64 x2) := fun V hV => by simpa using (hD4.new hV).cell 1
            have L13 : ∀ V, Grows w4 V → V.cell? ⟨g1, 13, none⟩ = some (.slice (some ad) n c) := fun V hV => by simpa using (hE4.new hV).cell 13
            by_cases hi0 : 0 < i
            · have hi1' : i - 1 < M.length := by omega
              obtain ⟨ad', e, _, p1, p2⟩ := hr4.dot hi1'
              injection e with e
              subst e
              obtain ⟨y, hy⟩ : ∃ y, y = M[i - 1] := ⟨_, rfl⟩
              rw [← hy] at p1 p2
              obtain ⟨y1, y2⟩ := y
              have HY : Hid (M[i - 1]? = some (y1, y2)) := Lib.hid (by rw [List.getElem?_eq_getElem hi1', ← hy])
              simp only at p1 p2
              have P1 : ∀ V, Grows w4 V → V.cell? (ad.add ((i - 1) * 2)) = some (.int .i64 y1) := fun V hV => cell_up p1 hV
              have P2 : ∀ V, Grows w4 V → V.cell? ⟨(ad.add ((i - 1) * 2)).block, (ad.add ((i - 1) * 2)).off + 1, none⟩ = some (.int .i64 y2) := fun V hV => cell_up p2 hV
              have hiI : (0 : Int) < (i : Int) := by omega
              have hw2 : IntKind.i64.wrap ((i : Int) - 1) = (i : Int) - 1 := IntWalk.i64_in _ (by omega)
              have hi3 : (i : Int) - 1 < (n : Int) := by omega
              have hi4 : (1 : Int) ≤ (i : Int) := by omega
              have hi5 : ((i : Int) - 1).toNat = i - 1 := by omega
              have HC2 := Lib.hid (fun V => behind_any x1 x2 y1 y2 V)
              obtain ⟨b, hb⟩ : ∃ b, b = D.bef (y1, y2) (x1, x2) := ⟨_, rfl⟩
              rw [← hb] at HC2
              have HBE := Lib.hid hb
              clear hb hy p1 p2
              refine wp_fam (n := 13) (size := 40) (D := [26, 27, 28, 29, 30, 31, 32, 33, 34, 35, 36, 37, 38]) [(26, isV (.int .i64 i)), (27, isV (.bool true)), (28, isV (.bool true)), (29, isV (.agg #[.int .i64 x1, .int .i64 x2])), (30, isV (.pointer (some ⟨g1, 13, none⟩))), (31, isV (.slice (some ad) n c)), (32, isV (.int .i64 i)), (33, isV (.int .i64 ((i : Int) - 1))), (34, isV (.pointer (some (ad.add ((i - 1) * 2))))), (35, isV (.agg #[.int .i64 y1, .int .i64 y2])), (36, isV (.bool b)), (37, isV (.bool (!b))), (38, isV (.bool (!b)))] (by kernel_rfl) (by rfl) (by kernel_rfl) ?_ ?_
              · simp only [List.take_succ_cons, List.take_zero, famAll]
                repeat' apply And.intro
                all_goals first
                  | trivial
                  | (intro f V hg hl
                     have k0 := L0 V hg
                     have k1 := L1 V hg
                     have k13 := L13 V hg
                     have p1 := P1 V hg
                     have p2 := P2 V hg
                     simp [Oper.looksAt, Op.operands, Call.operands, famAt, famOf, isV] at hl
                     simp [famWants, boolIs_bool, boolIs_undef, execOp, rho, go_sem, hl, k0, k1, k13, p1, p2, famUpon, famOf, isV, Grows.refl, hiI, hi0, hw2, hi3, hi4, hi5]
                     try exact HC2.out V)
              · intro u V hg hu
                have h38 : u 38 = .bool (!b) := hu 38 (by decide)
                simp only [List.drop_succ_cons, List.drop_zero, fill, Act.put, List.setIfInBounds_toArray, List.set_cons_zero, List.set_cons_succ, h38]
                refine wpList_nil ?_
                clear hu h38 P1 P2 L0 L1 L13
                cases b with
                | false =>
                  have HF : Hid (remOk F M = false) := Lib.hid (remOk_bad hlt' (by rw [HP.out, HY.out]; simp only; rw [← HBE.out]; simp; omega))
                  go_wp2
                  go_ret
                  exact ⟨ret_bool HF.out.symm, hb04.trans (Below.mono hg hb04.size)⟩
                | true =>
                  have HO' : Hid (∀ j, j < i + 1 → E.rem1 F M j = true) := Lib.hid (fun j hj => by
                    rcases Nat.lt_or_ge j i with h | h
                    · exact HO.out j h
                    · obtain rfl : j = i := by omega
                      rw [HP.out, HY.out]; simp only; rw [← HBE.out]; simp)
                  go_wp2
                  go_roundw
                  case rel => exact ⟨i + 1, by go_num, by omega, HO', hb14.trans (Below.mono hg hb14.size)⟩
                  case measure => simp [intOf]; omega
            · have HO' : Hid (∀ j, j < i + 1 → E.rem1 F M j = true) := Lib.hid (fun j hj => by
                rcases Nat.lt_or_ge j i with h | h
                · exact HO.out j h
                · obtain rfl : j = i := by omega
                  rw [HP.out]; simp; left; omega)
              refine wp_fam (n := 13) (size := 40) (D := [26, 27, 28, 29, 30, 31, 32, 33, 34, 35, 36, 37, 38]) [(26, isV (.int .i64 i)), (27, isV (.bool false)), (28, isV (.bool false)), (29, isV undef), (30, isV undef), (31, isV undef), (32, isV undef), (33, isV undef), (34, isV undef), (35, isV undef), (36, isV undef), (37, isV undef), (38, isV (.bool false))] (by kernel_rfl) (by rfl) (by kernel_rfl) ?_ ?_
              · simp only [List.take_succ_cons, List.take_zero, famAll]
                repeat' apply And.intro
                all_goals first
                  | trivial
                  | (intro f V hg hl
                     simp [Oper.looksAt, Op.operands, Call.operands, famAt, famOf, isV] at hl
                     simp [famWants, boolIs_bool, boolIs_undef, execOp, rho, go_sem, hl, famUpon, famOf, isV, Grows.refl, hi0])
              · intro u V hg hu
                have h38 : u 38 = .bool false := hu 38 (by decide)
                simp only [List.drop_succ_cons, List.drop_zero, fill, Act.put, List.setIfInBounds_toArray, List.set_cons_zero, List.set_cons_succ, h38]
                refine wpList_nil ?_
                clear hu h38 L0 L1 L13
                go_wp2
                go_roundw
                case rel => exact ⟨i + 1, by go_num, by omega, HO', hb14.trans (Below.mono hg hb14.size)⟩
                case measure => simp [intOf]; omega
      · have HT : Hid (remOk F M = true) := Lib.hid (remOk_good (by rw [HN.out]; omega) (fun j hj => HO.out j (by rw [HN.out] at hj; omega)))
        go_wp2
        go_ret
        exact ⟨ret_bool HT.out.symm, hb1.trans (Below.mono hb hs1)⟩
end Go.Proofs.Ytedcgfcmhaeldaa
