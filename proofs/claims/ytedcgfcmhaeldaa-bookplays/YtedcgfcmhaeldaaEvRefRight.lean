/- Layer 7, the document's own: Right. -/
import Derived.Test.YtedcgfcmhaeldaaEvRef1
import Derived.Test.YtedcgfcmhaeldaaFam
namespace Go.Proofs.Ytedcgfcmhaeldaa
set_option linter.unusedVariables false
set_option linter.unusedSimpArgs false
open Go.ChangeShapes Go.WideShapes Go.ChangeAt Go.RowKit

theorem Try.fieldsPol : (Try.prog.fieldsOf 41).toList.map (fun f => (f.type, f.offset)) = [(3, 0), (3, 1), (3, 2), (3, 3), (3, 4), (3, 5), (3, 6)] := by kernel_rfl
theorem Try.namesPol : (Try.prog.fieldsOf 41).toList.map (fun f => f.name) = ["Min", "Max", "Goal", "Slack", "Up", "Down", "Cool"] := by kernel_rfl
theorem Try.stoodPol : Try.prog.stoodInHeld 41 = false := by kernel_rfl
theorem Try.guardPol : Try.prog.eqGuardType Try.prog.depth 41 = false := by kernel_rfl
theorem Try.structPol : Try.prog.underlying 41 = some (.struct (Try.prog.fieldsOf 41)) := by kernel_rfl
theorem seven {α : Type} : ∀ {l : List α}, l.length = 7 → ∃ f0 f1 f2 f3 f4 f5 f6, l = [f0, f1, f2, f3, f4, f5, f6]
  | [f0, f1, f2, f3, f4, f5, f6], _ => ⟨f0, f1, f2, f3, f4, f5, f6, rfl⟩
  | [], h => by simp at h
  | [_], h => by simp at h
  | [_, _], h => by simp at h
  | [_, _, _], h => by simp at h
  | [_, _, _, _], h => by simp at h
  | [_, _, _, _, _], h => by simp at h
  | [_, _, _, _, _, _], h => by simp at h
  | _ :: _ :: _ :: _ :: _ :: _ :: _ :: _ :: _, h => by simp at h
theorem eqIn_pol (F G : Nat → Int) (W : World) : (Op.equalIn 10000 41 (pv F) (pv G)).run Try.prog W = .ok (F 6 == G 6 && F 7 == G 7 && F 8 == G 8 && F 9 == G 9 && F 10 == G 10 && F 11 == G 11 && F 12 == G 12) W := by
  rw [run_equalIn_agg W 9999 41 _ _ Try.structPol Try.stoodPol]
  have hn := Try.namesPol
  have hf := Try.fieldsPol
  obtain ⟨f0, f1, f2, f3, f4, f5, f6, e⟩ := seven (l := (Try.prog.fieldsOf 41).toList) (by have := congrArg List.length hf; simpa using this)
  rw [e] at hn hf ⊢
  simp only [List.map_cons, List.map_nil, List.cons.injEq, Prod.mk.injEq, and_true] at hn hf
  obtain ⟨n0, n1, n2, n3, n4, n5, n6⟩ := hn
  obtain ⟨⟨t0, o0⟩, ⟨t1, o1⟩, ⟨t2, o2⟩, ⟨t3, o3⟩, ⟨t4, o4⟩, ⟨t5, o5⟩, t6, o6⟩ := hf
  simp [Op.eqFields, n0, n1, n2, n3, n4, n5, n6, t0, t1, t2, t3, t4, t5, t6, o0, o1, o2, o3, o4, o5, o6, go_sem, part]
  by_cases e6 : F 6 = G 6 <;> simp [e6]
  by_cases e7 : F 7 = G 7 <;> simp [e7]
  by_cases e8 : F 8 = G 8 <;> simp [e8]
  by_cases e9 : F 9 = G 9 <;> simp [e9]
  by_cases e10 : F 10 = G 10 <;> simp [e10]
  by_cases e11 : F 11 = G 11 <;> simp [e11]
  by_cases e12 : F 12 = G 12 <;> simp [e12]
theorem eql_pol0 (F : Nat → Int) (W : World) : (binOp .eql 41 (pv F) (.agg #[.int .i64 0, .int .i64 0, .int .i64 0, .int .i64 0, .int .i64 0, .int .i64 0, .int .i64 0])).run Try.prog W = .ok (.bool (E.pz F)) W := by
  have h : (Op.equalIn 10000 41 (pv F) (.agg #[.int .i64 0, .int .i64 0, .int .i64 0, .int .i64 0, .int .i64 0, .int .i64 0, .int .i64 0])).run Try.prog W = .ok (F 6 == 0 && F 7 == 0 && F 8 == 0 && F 9 == 0 && F 10 == 0 && F 11 == 0 && F 12 == 0) W := eqIn_pol F (fun _ => 0) W
  rw [run_eql_struct, h]
  have : (F 6 == 0 && F 7 == 0 && F 8 == 0 && F 9 == 0 && F 10 == 0 && F 11 == 0 && F 12 == 0) = E.pz F := by
    rw [Bool.eq_iff_iff]
    simp [E.pz, and_assoc]
  rw [this]; rfl

theorem rem1_eq {F : Nat → Int} {M : List D.Dot} {i : Nat} (hi : i < M.length) : E.rem1 F M i = (D.may M[i] && !decide (M[i] = (F 0, F 1)) && (decide (i = 0) || match M[i - 1]? with | none => false | some c => D.bef c M[i])) := by
  unfold E.rem1; rw [List.getElem?_eq_getElem hi]; rfl
theorem rem1_next {F : Nat → Int} {M : List D.Dot} {k : Nat} (hi : k + 1 < M.length) : E.rem1 F M (k + 1) = (D.may M[k + 1] && !decide (M[k + 1] = (F 0, F 1)) && D.bef (M[k]'(by omega)) M[k + 1]) := by
  rw [rem1_eq hi]
  simp [List.getElem?_eq_getElem (show k < M.length by omega)]

set_option maxRecDepth 100000 in
set_option maxHeartbeats 8000000 in
theorem eright_any (S : Nat → Prop) (F : Nat → Int) (A : Option Addr) (n c : Nat) (M : List D.Dot) (w : World) (hn : M.length = n) (hr : Rds w S A (dvs M)) (hl : n ≤ maxLen) :
    Calls Try.prog 42 #[ev F A n c] w fun e w' => e = .returned (.bool (E.right F M)) ∧ Below w.heap.size w w' := by
  have HN := Lib.hid hn
  obtain ⟨w1, hw1⟩ : ∃ W, w.alloc (.cells (ecs F A n c) 43) = W := ⟨_, rfl⟩
  obtain ⟨g1, hg1⟩ : ∃ g, g = w.heap.size := ⟨_, rfl⟩
  have hb1 : Below w.heap.size w w1 := by rw [← hw1]; exact b_alloc _ _
  have hX1 : Blo w1 g1 43 (ecs F A n c) := by rw [← hw1, hg1]; exact Blo.made _ _ _
  have hM := rmay_any (F 0) (F 1) w1
  have HW := Lib.hid hw1
  have HG1 := Lib.hid hg1
  obtain ⟨z0, z1, z2, z3, z4, z5, z6, z7, z8, z9, z10, z11, z12, z13⟩ := set14 hX1
  rw [← hw1, hg1] at z0 z1 z2 z3 z4 z5 z6 z7 z8 z9 z10 z11 z12 z13
  have hr1 := hr.new hb1
  clear hw1 hg1 hn hr
  by_cases hok : D.may (F 0, F 1) = true ∧ 1 ≤ F 2 ∧ F 2 ≤ 1099511627776 ∧ 0 ≤ F 4 ∧ F 4 ≤ 7 ∧ n ≤ 96
  · obtain ⟨hm, k2, k2', k4, k4', kn⟩ := hok
    rw [hm] at hM
    have HH : Hid (E.headOk F M = true) := Lib.hid (by unfold E.headOk; rw [hm, HN.out]; simp [k2, k2', k4, k4', kn])
    have q1 : ¬ F 2 < 1 := by omega
    have q2 : ¬ 1099511627776 < F 2 := by omega
    have q3 : ¬ F 4 < 0 := by omega
    have q4 : ¬ 7 < F 4 := by omega
    have q5 : ¬ (96 : Int) < (n : Int) := by omega
    go_enter Try.func42, Try.ntmps42
    go_wp2_with fail
    rw [HW.out, ← HG1.out]
    refine hM.mono ?_
    rintro e w2 ⟨rfl, hb2⟩
    have hX2 := hX1.new hb2
    have hr2 := hr1.new hb2
    have hb02 := below_new hb1 hb2
    clear z0 z1 z2 z3 z4 z5 z6 z7 z8 z9 z10 z11 z12 z13 hM hX1 hr1 hb1 hb2 hm k2 k2' k4 k4' kn
    obtain ⟨z0, z1, z2, z3, z4, z5, z6, z7, z8, z9, z10, z11, z12, z13⟩ := set14 hX2
    go_wp2_with fail
    clear z0 z1 z2 z3 z4 z5 z6 z7 z8 z9 z10 z11 z12 z13 q1 q2 q3 q4 q5
    have hs02 := hb02.size
    go_loopw [38] (fun iv wr => ∃ i : Nat, iv = .int .i64 i ∧ i ≤ n ∧ Hid (∀ j, j < i → E.rem1 F M j = true) ∧ Below w2.heap.size w2 wr) (fun iv _ => n - (intOf iv).toNat)
    case atStart => exact ⟨0, rfl, by omega, Lib.hid (fun j hj => by omega), Below.refl _ _⟩
    case round =>
      obtain ⟨i, rfl, hi, HO, hb⟩ := hrel
      have hbs := hb.size
      by_cases hlt : i < n
      · have hlt' : i < M.length := by rw [HN.out]; exact hlt
        obtain ⟨ad, rfl, _, d1, d2⟩ := (hr2.new hb).dot hlt'
        obtain ⟨x, hx⟩ : ∃ x, x = M[i] := ⟨_, rfl⟩
        rw [← hx] at d1 d2
        obtain ⟨x1, x2⟩ := x
        have HX := Lib.hid hx
        clear hx
        simp only at d1 d2
        obtain ⟨w3, hw3⟩ : ∃ W, wr.alloc (.cells #[.int .i64 x1, .int .i64 x2] 39) = W := ⟨_, rfl⟩
        obtain ⟨gx, hgx⟩ : ∃ g, g = wr.heap.size := ⟨_, rfl⟩
        have hb3 : Below wr.heap.size wr w3 := by rw [← hw3]; exact b_alloc _ _
        have hD : Blo w3 gx 39 #[.int .i64 x1, .int .i64 x2] := by rw [← hw3, hgx]; exact Blo.made _ _ _
        have hE3 := (hX2.new hb).new hb3
        have hr3 := (hr2.new hb).new hb3
        have hball : Below w.heap.size w w3 := hb02.trans ((hb.mono hs02).trans (hb3.mono (by omega)))
        have hball2 : Below w2.heap.size w2 w3 := hb.trans (hb3.mono hbs)
        have HW3 := Lib.hid hw3
        have HGX := Lib.hid hgx
        have HCX : Hid (∀ V, Grows w3 V → V.cell? ⟨gx, 0, none⟩ = some (.int .i64 x1) ∧ V.cell? ⟨gx, 1, none⟩ = some (.int .i64 x2)) := Lib.hid (fun V hV => ⟨by simpa using (hD.new hV).cell 0, by simpa using (hD.new hV).cell 1⟩)
        have HCE : Hid (∀ V, Grows w3 V → _) := Lib.hid (fun V hV => set14 (hE3.new hV))
        clear hw3 hgx hb3 hb
        go_wp2_with fail
        rw [HW3.out, ← HGX.out]
        cases hm : D.may (x1, x2) with
        | false =>
          have HF : Hid (E.right F M = false) := Lib.hid (E.rems_bad hlt' (by rw [rem1_eq hlt', ← HX.out, hm]; simp))
          have HMay : Hid (∀ V, Calls Try.prog 68 #[.agg #[.int .i64 x1, .int .i64 x2]] V fun e w' => e = .returned (.bool false) ∧ Below V.heap.size V w') := Lib.hid (fun V => by have := rmay_any x1 x2 V; rw [hm] at this; exact this)
          clear hm
          refine wp_fam (n := 24) (size := 113) (D := [43, 44, 45, 46, 47, 48, 49, 50, 51, 52, 53, 54, 55, 56, 57, 58, 59, 60, 61, 62, 63, 64, 65, 66]) [(43, isV (.agg #[.int .i64 x1, .int .i64 x2])), (44, isV (.bool false)), (45, isV (.bool true)), (46, isV (.bool true)), (47, isV undef), (48, isV undef), (49, isV undef), (50, isV undef), (51, isV (.bool true)), (52, isV (.bool true)), (53, isV undef), (54, isV undef), (55, isV undef), (56, isV undef), (57, isV undef), (58, isV undef), (59, isV undef), (60, isV undef), (61, isV undef), (62, isV undef), (63, isV undef), (64, isV undef), (65, isV undef), (66, isV (.bool true))] (by kernel_rfl) (by rfl) (by kernel_rfl) ?_ ?_
          · simp only [List.take_succ_cons, List.take_zero, famAll]
            repeat' apply And.intro
            · intro f V hg hl
              obtain ⟨k0, k1⟩ := HCX.out V hg
              simp [Oper.looksAt, Op.operands, Call.operands, famAt, famOf, isV] at hl
              simp [famWants, boolIs_bool, boolIs_undef, execOp, rho, go_sem, hl, k0, k1, famUpon, famOf, isV, Grows.refl]
            · intro f V hg hl
              simp [Oper.looksAt, Op.operands, Call.operands, famAt, famOf, isV] at hl
              simp [famWants, boolIs_bool, boolIs_undef, execOp, rho, go_sem, hl, famUpon, famOf, isV, Grows.refl]
              exact HMay.out V
            · intro f V hg hl
              simp [Oper.looksAt, Op.operands, Call.operands, famAt, famOf, isV] at hl
              simp [famWants, boolIs_bool, boolIs_undef, execOp, rho, go_sem, hl, famUpon, famOf, isV, Grows.refl]
            · intro f V hg hl
              simp [Oper.looksAt, Op.operands, Call.operands, famAt, famOf, isV] at hl
              simp [famWants, boolIs_bool, boolIs_undef, execOp, rho, go_sem, hl, famUpon, famOf, isV, Grows.refl]
            · intro f V hg hl
              simp [Oper.looksAt, Op.operands, Call.operands, famAt, famOf, isV] at hl
              simp [famWants, boolIs_bool, boolIs_undef, execOp, rho, go_sem, hl, famUpon, famOf, isV, Grows.refl]
            · intro f V hg hl
              simp [Oper.looksAt, Op.operands, Call.operands, famAt, famOf, isV] at hl
              simp [famWants, boolIs_bool, boolIs_undef, execOp, rho, go_sem, hl, famUpon, famOf, isV, Grows.refl]
            · intro f V hg hl
              simp [Oper.looksAt, Op.operands, Call.operands, famAt, famOf, isV] at hl
              simp [famWants, boolIs_bool, boolIs_undef, execOp, rho, go_sem, hl, famUpon, famOf, isV, Grows.refl]
            · intro f V hg hl
              simp [Oper.looksAt, Op.operands, Call.operands, famAt, famOf, isV] at hl
              simp [famWants, boolIs_bool, boolIs_undef, execOp, rho, go_sem, hl, famUpon, famOf, isV, Grows.refl]
            · intro f V hg hl
              simp [Oper.looksAt, Op.operands, Call.operands, famAt, famOf, isV] at hl
              simp [famWants, boolIs_bool, boolIs_undef, execOp, rho, go_sem, hl, famUpon, famOf, isV, Grows.refl]
            · intro f V hg hl
              simp [Oper.looksAt, Op.operands, Call.operands, famAt, famOf, isV] at hl
              simp [famWants, boolIs_bool, boolIs_undef, execOp, rho, go_sem, hl, famUpon, famOf, isV, Grows.refl]
            · intro f V hg hl
              simp [Oper.looksAt, Op.operands, Call.operands, famAt, famOf, isV] at hl
              simp [famWants, boolIs_bool, boolIs_undef, execOp, rho, go_sem, hl, famUpon, famOf, isV, Grows.refl]
            · intro f V hg hl
              simp [Oper.looksAt, Op.operands, Call.operands, famAt, famOf, isV] at hl
              simp [famWants, boolIs_bool, boolIs_undef, execOp, rho, go_sem, hl, famUpon, famOf, isV, Grows.refl]
            · intro f V hg hl
              simp [Oper.looksAt, Op.operands, Call.operands, famAt, famOf, isV] at hl
              simp [famWants, boolIs_bool, boolIs_undef, execOp, rho, go_sem, hl, famUpon, famOf, isV, Grows.refl]
            · intro f V hg hl
              simp [Oper.looksAt, Op.operands, Call.operands, famAt, famOf, isV] at hl
              simp [famWants, boolIs_bool, boolIs_undef, execOp, rho, go_sem, hl, famUpon, famOf, isV, Grows.refl]
            · intro f V hg hl
              simp [Oper.looksAt, Op.operands, Call.operands, famAt, famOf, isV] at hl
              simp [famWants, boolIs_bool, boolIs_undef, execOp, rho, go_sem, hl, famUpon, famOf, isV, Grows.refl]
            · intro f V hg hl
              simp [Oper.looksAt, Op.operands, Call.operands, famAt, famOf, isV] at hl
              simp [famWants, boolIs_bool, boolIs_undef, execOp, rho, go_sem, hl, famUpon, famOf, isV, Grows.refl]
            · intro f V hg hl
              simp [Oper.looksAt, Op.operands, Call.operands, famAt, famOf, isV] at hl
              simp [famWants, boolIs_bool, boolIs_undef, execOp, rho, go_sem, hl, famUpon, famOf, isV, Grows.refl]
            · intro f V hg hl
              simp [Oper.looksAt, Op.operands, Call.operands, famAt, famOf, isV] at hl
              simp [famWants, boolIs_bool, boolIs_undef, execOp, rho, go_sem, hl, famUpon, famOf, isV, Grows.refl]
            · intro f V hg hl
              simp [Oper.looksAt, Op.operands, Call.operands, famAt, famOf, isV] at hl
              simp [famWants, boolIs_bool, boolIs_undef, execOp, rho, go_sem, hl, famUpon, famOf, isV, Grows.refl]
            · intro f V hg hl
              simp [Oper.looksAt, Op.operands, Call.operands, famAt, famOf, isV] at hl
              simp [famWants, boolIs_bool, boolIs_undef, execOp, rho, go_sem, hl, famUpon, famOf, isV, Grows.refl]
            · intro f V hg hl
              simp [Oper.looksAt, Op.operands, Call.operands, famAt, famOf, isV] at hl
              simp [famWants, boolIs_bool, boolIs_undef, execOp, rho, go_sem, hl, famUpon, famOf, isV, Grows.refl]
            · intro f V hg hl
              simp [Oper.looksAt, Op.operands, Call.operands, famAt, famOf, isV] at hl
              simp [famWants, boolIs_bool, boolIs_undef, execOp, rho, go_sem, hl, famUpon, famOf, isV, Grows.refl]
            · intro f V hg hl
              simp [Oper.looksAt, Op.operands, Call.operands, famAt, famOf, isV] at hl
              simp [famWants, boolIs_bool, boolIs_undef, execOp, rho, go_sem, hl, famUpon, famOf, isV, Grows.refl]
            · intro f V hg hl
              simp [Oper.looksAt, Op.operands, Call.operands, famAt, famOf, isV] at hl
              simp [famWants, boolIs_bool, boolIs_undef, execOp, rho, go_sem, hl, famUpon, famOf, isV, Grows.refl]
            · trivial
          · intro u W hg hu
            have h66 : u 66 = .bool true := hu 66 (by decide)
            simp only [List.drop_succ_cons, List.drop_zero, fill, Act.put, List.setIfInBounds_toArray, List.set_cons_zero, List.set_cons_succ, h66]
            refine wpList_nil ?_
            have hbW := hball.trans (Below.mono hg hball.size)
            have hb2W := hball2.trans (Below.mono hg hball2.size)
            clear hu h66 HCX HCE
            go_wp2
            go_ret
            exact ⟨ret_bool HF.out.symm, hbW⟩
        | true =>
          have HMay : Hid (∀ V, Calls Try.prog 68 #[.agg #[.int .i64 x1, .int .i64 x2]] V fun e w' => e = .returned (.bool true) ∧ Below V.heap.size V w') := Lib.hid (fun V => by have := rmay_any x1 x2 V; rw [hm] at this; exact this)
          have qd := Try.guardDot
          by_cases how : x1 = F 0 ∧ x2 = F 1
          · have HF : Hid (E.right F M = false) := Lib.hid (E.rems_bad hlt' (by rw [rem1_eq hlt', ← HX.out, how.1, how.2]; simp))
            have HEq : Hid (∀ W, (binOp .eql 39 (.agg #[.int .i64 x1, .int .i64 x2]) (.agg #[.int .i64 (F 0), .int .i64 (F 1)])).run Try.prog W = .ok (.bool true) W) := Lib.hid (fun W => by rw [eql_dot]; simp [how])
            clear hm how
            refine wp_fam (n := 24) (size := 113) (D := [43, 44, 45, 46, 47, 48, 49, 50, 51, 52, 53, 54, 55, 56, 57, 58, 59, 60, 61, 62, 63, 64, 65, 66]) [(43, isV (.agg #[.int .i64 x1, .int .i64 x2])), (44, isV (.bool true)), (45, isV (.bool false)), (46, isV (.bool false)), (47, isV (.agg #[.int .i64 x1, .int .i64 x2])), (48, isV (.pointer (some ⟨g1, 0, none⟩))), (49, isV (.agg #[.int .i64 (F 0), .int .i64 (F 1)])), (50, isV (.bool true)), (51, isV (.bool true)), (52, isV (.bool true)), (53, isV undef), (54, isV undef), (55, isV undef), (56, isV undef), (57, isV undef), (58, isV undef), (59, isV undef), (60, isV undef), (61, isV undef), (62, isV undef), (63, isV undef), (64, isV undef), (65, isV undef), (66, isV (.bool true))] (by kernel_rfl) (by rfl) (by kernel_rfl) ?_ ?_
            · simp only [List.take_succ_cons, List.take_zero, famAll]
              repeat' apply And.intro
              · intro f V hg hl
                obtain ⟨k0, k1⟩ := HCX.out V hg
                simp [Oper.looksAt, Op.operands, Call.operands, famAt, famOf, isV] at hl
                simp [famWants, boolIs_bool, boolIs_undef, execOp, rho, go_sem, hl, k0, k1, famUpon, famOf, isV, Grows.refl]
              · intro f V hg hl
                simp [Oper.looksAt, Op.operands, Call.operands, famAt, famOf, isV] at hl
                simp [famWants, boolIs_bool, boolIs_undef, execOp, rho, go_sem, hl, famUpon, famOf, isV, Grows.refl]
                exact HMay.out V
              · intro f V hg hl
                simp [Oper.looksAt, Op.operands, Call.operands, famAt, famOf, isV] at hl
                simp [famWants, boolIs_bool, boolIs_undef, execOp, rho, go_sem, hl, famUpon, famOf, isV, Grows.refl]
              · intro f V hg hl
                simp [Oper.looksAt, Op.operands, Call.operands, famAt, famOf, isV] at hl
                simp [famWants, boolIs_bool, boolIs_undef, execOp, rho, go_sem, hl, famUpon, famOf, isV, Grows.refl]
              · intro f V hg hl
                obtain ⟨k0, k1⟩ := HCX.out V hg
                simp [Oper.looksAt, Op.operands, Call.operands, famAt, famOf, isV] at hl
                simp [famWants, boolIs_bool, boolIs_undef, execOp, rho, go_sem, hl, k0, k1, famUpon, famOf, isV, Grows.refl]
              · intro f V hg hl
                simp [Oper.looksAt, Op.operands, Call.operands, famAt, famOf, isV] at hl
                simp [famWants, boolIs_bool, boolIs_undef, execOp, rho, go_sem, hl, famUpon, famOf, isV, Grows.refl]
              · intro f V hg hl
                obtain ⟨z0, z1, z2, z3, z4, z5, z6, z7, z8, z9, z10, z11, z12, z13⟩ := HCE.out V hg
                simp [Oper.looksAt, Op.operands, Call.operands, famAt, famOf, isV] at hl
                simp [famWants, boolIs_bool, boolIs_undef, execOp, rho, go_sem, hl, z0, z1, famUpon, famOf, isV, Grows.refl]
              · intro f V hg hl
                simp [Oper.looksAt, Op.operands, Call.operands, famAt, famOf, isV] at hl
                simp [famWants, boolIs_bool, boolIs_undef, execOp, rho, go_sem, hl, HEq.out, famUpon, famOf, isV, Grows.refl]
              · intro f V hg hl
                simp [Oper.looksAt, Op.operands, Call.operands, famAt, famOf, isV] at hl
                simp [famWants, boolIs_bool, boolIs_undef, execOp, rho, go_sem, hl, famUpon, famOf, isV, Grows.refl]
              · intro f V hg hl
                simp [Oper.looksAt, Op.operands, Call.operands, famAt, famOf, isV] at hl
                simp [famWants, boolIs_bool, boolIs_undef, execOp, rho, go_sem, hl, famUpon, famOf, isV, Grows.refl]
              · intro f V hg hl
                simp [Oper.looksAt, Op.operands, Call.operands, famAt, famOf, isV] at hl
                simp [famWants, boolIs_bool, boolIs_undef, execOp, rho, go_sem, hl, famUpon, famOf, isV, Grows.refl]
              · intro f V hg hl
                simp [Oper.looksAt, Op.operands, Call.operands, famAt, famOf, isV] at hl
                simp [famWants, boolIs_bool, boolIs_undef, execOp, rho, go_sem, hl, famUpon, famOf, isV, Grows.refl]
              · intro f V hg hl
                simp [Oper.looksAt, Op.operands, Call.operands, famAt, famOf, isV] at hl
                simp [famWants, boolIs_bool, boolIs_undef, execOp, rho, go_sem, hl, famUpon, famOf, isV, Grows.refl]
              · intro f V hg hl
                simp [Oper.looksAt, Op.operands, Call.operands, famAt, famOf, isV] at hl
                simp [famWants, boolIs_bool, boolIs_undef, execOp, rho, go_sem, hl, famUpon, famOf, isV, Grows.refl]
              · intro f V hg hl
                simp [Oper.looksAt, Op.operands, Call.operands, famAt, famOf, isV] at hl
                simp [famWants, boolIs_bool, boolIs_undef, execOp, rho, go_sem, hl, famUpon, famOf, isV, Grows.refl]
              · intro f V hg hl
                simp [Oper.looksAt, Op.operands, Call.operands, famAt, famOf, isV] at hl
                simp [famWants, boolIs_bool, boolIs_undef, execOp, rho, go_sem, hl, famUpon, famOf, isV, Grows.refl]
              · intro f V hg hl
                simp [Oper.looksAt, Op.operands, Call.operands, famAt, famOf, isV] at hl
                simp [famWants, boolIs_bool, boolIs_undef, execOp, rho, go_sem, hl, famUpon, famOf, isV, Grows.refl]
              · intro f V hg hl
                simp [Oper.looksAt, Op.operands, Call.operands, famAt, famOf, isV] at hl
                simp [famWants, boolIs_bool, boolIs_undef, execOp, rho, go_sem, hl, famUpon, famOf, isV, Grows.refl]
              · intro f V hg hl
                simp [Oper.looksAt, Op.operands, Call.operands, famAt, famOf, isV] at hl
                simp [famWants, boolIs_bool, boolIs_undef, execOp, rho, go_sem, hl, famUpon, famOf, isV, Grows.refl]
              · intro f V hg hl
                simp [Oper.looksAt, Op.operands, Call.operands, famAt, famOf, isV] at hl
                simp [famWants, boolIs_bool, boolIs_undef, execOp, rho, go_sem, hl, famUpon, famOf, isV, Grows.refl]
              · intro f V hg hl
                simp [Oper.looksAt, Op.operands, Call.operands, famAt, famOf, isV] at hl
                simp [famWants, boolIs_bool, boolIs_undef, execOp, rho, go_sem, hl, famUpon, famOf, isV, Grows.refl]
              · intro f V hg hl
                simp [Oper.looksAt, Op.operands, Call.operands, famAt, famOf, isV] at hl
                simp [famWants, boolIs_bool, boolIs_undef, execOp, rho, go_sem, hl, famUpon, famOf, isV, Grows.refl]
              · intro f V hg hl
                simp [Oper.looksAt, Op.operands, Call.operands, famAt, famOf, isV] at hl
                simp [famWants, boolIs_bool, boolIs_undef, execOp, rho, go_sem, hl, famUpon, famOf, isV, Grows.refl]
              · intro f V hg hl
                simp [Oper.looksAt, Op.operands, Call.operands, famAt, famOf, isV] at hl
                simp [famWants, boolIs_bool, boolIs_undef, execOp, rho, go_sem, hl, famUpon, famOf, isV, Grows.refl]
              · trivial
            · intro u W hg hu
              have h66 : u 66 = .bool true := hu 66 (by decide)
              simp only [List.drop_succ_cons, List.drop_zero, fill, Act.put, List.setIfInBounds_toArray, List.set_cons_zero, List.set_cons_succ, h66]
              refine wpList_nil ?_
              have hbW := hball.trans (Below.mono hg hball.size)
              have hb2W := hball2.trans (Below.mono hg hball2.size)
              clear hu h66 HCX HCE
              go_wp2
              go_ret
              exact ⟨ret_bool HF.out.symm, hbW⟩
          · have HEq : Hid (∀ W, (binOp .eql 39 (.agg #[.int .i64 x1, .int .i64 x2]) (.agg #[.int .i64 (F 0), .int .i64 (F 1)])).run Try.prog W = .ok (.bool false) W) := Lib.hid (fun W => by
              rw [eql_dot]
              have : (x1 == F 0 && x2 == F 1) = false := by simpa using how
              rw [this])
            have hne : ¬ ((x1, x2) : D.Dot) = (F 0, F 1) := fun e => how (by simpa using e)
            by_cases h00 : i = 0
            · have HO' : Hid (∀ j, j < i + 1 → E.rem1 F M j = true) := Lib.hid (fun j hj => by
                obtain rfl : j = i := by omega
                rw [rem1_eq hlt', ← HX.out, hm, decide_eq_false hne, decide_eq_true h00]; rfl)
              have h0 : ¬ (0 : Int) < (i : Int) := by omega
              have h0' : ¬ 0 < i := by omega
              clear hm how hne HO
              refine wp_fam (n := 24) (size := 113) (D := [43, 44, 45, 46, 47, 48, 49, 50, 51, 52, 53, 54, 55, 56, 57, 58, 59, 60, 61, 62, 63, 64, 65, 66]) [(43, isV (.agg #[.int .i64 x1, .int .i64 x2])), (44, isV (.bool true)), (45, isV (.bool false)), (46, isV (.bool false)), (47, isV (.agg #[.int .i64 x1, .int .i64 x2])), (48, isV (.pointer (some ⟨g1, 0, none⟩))), (49, isV (.agg #[.int .i64 (F 0), .int .i64 (F 1)])), (50, isV (.bool false)), (51, isV (.bool false)), (52, isV (.bool false)), (53, isV (.int .i64 (i : Int))), (54, isV (.bool false)), (55, isV (.bool false)), (56, isV undef), (57, isV undef), (58, isV undef), (59, isV undef), (60, isV undef), (61, isV undef), (62, isV undef), (63, isV undef), (64, isV undef), (65, isV (.bool false)), (66, isV (.bool false))] (by kernel_rfl) (by rfl) (by kernel_rfl) ?_ ?_
              · simp only [List.take_succ_cons, List.take_zero, famAll]
                repeat' apply And.intro
                · intro f V hg hl
                  obtain ⟨k0, k1⟩ := HCX.out V hg
                  simp [Oper.looksAt, Op.operands, Call.operands, famAt, famOf, isV] at hl
                  simp [famWants, boolIs_bool, boolIs_undef, execOp, rho, go_sem, hl, k0, k1, famUpon, famOf, isV, Grows.refl]
                · intro f V hg hl
                  simp [Oper.looksAt, Op.operands, Call.operands, famAt, famOf, isV] at hl
                  simp [famWants, boolIs_bool, boolIs_undef, execOp, rho, go_sem, hl, famUpon, famOf, isV, Grows.refl]
                  exact HMay.out V
                · intro f V hg hl
                  simp [Oper.looksAt, Op.operands, Call.operands, famAt, famOf, isV] at hl
                  simp [famWants, boolIs_bool, boolIs_undef, execOp, rho, go_sem, hl, famUpon, famOf, isV, Grows.refl]
                · intro f V hg hl
                  simp [Oper.looksAt, Op.operands, Call.operands, famAt, famOf, isV] at hl
                  simp [famWants, boolIs_bool, boolIs_undef, execOp, rho, go_sem, hl, famUpon, famOf, isV, Grows.refl]
                · intro f V hg hl
                  obtain ⟨k0, k1⟩ := HCX.out V hg
                  simp [Oper.looksAt, Op.operands, Call.operands, famAt, famOf, isV] at hl
                  simp [famWants, boolIs_bool, boolIs_undef, execOp, rho, go_sem, hl, k0, k1, famUpon, famOf, isV, Grows.refl]
                · intro f V hg hl
                  simp [Oper.looksAt, Op.operands, Call.operands, famAt, famOf, isV] at hl
                  simp [famWants, boolIs_bool, boolIs_undef, execOp, rho, go_sem, hl, famUpon, famOf, isV, Grows.refl]
                · intro f V hg hl
                  obtain ⟨z0, z1, z2, z3, z4, z5, z6, z7, z8, z9, z10, z11, z12, z13⟩ := HCE.out V hg
                  simp [Oper.looksAt, Op.operands, Call.operands, famAt, famOf, isV] at hl
                  simp [famWants, boolIs_bool, boolIs_undef, execOp, rho, go_sem, hl, z0, z1, famUpon, famOf, isV, Grows.refl]
                · intro f V hg hl
                  simp [Oper.looksAt, Op.operands, Call.operands, famAt, famOf, isV] at hl
                  simp [famWants, boolIs_bool, boolIs_undef, execOp, rho, go_sem, hl, HEq.out, famUpon, famOf, isV, Grows.refl]
                · intro f V hg hl
                  simp [Oper.looksAt, Op.operands, Call.operands, famAt, famOf, isV] at hl
                  simp [famWants, boolIs_bool, boolIs_undef, execOp, rho, go_sem, hl, famUpon, famOf, isV, Grows.refl]
                · intro f V hg hl
                  simp [Oper.looksAt, Op.operands, Call.operands, famAt, famOf, isV] at hl
                  simp [famWants, boolIs_bool, boolIs_undef, execOp, rho, go_sem, hl, famUpon, famOf, isV, Grows.refl]
                · intro f V hg hl
                  simp [Oper.looksAt, Op.operands, Call.operands, famAt, famOf, isV] at hl
                  simp [famWants, boolIs_bool, boolIs_undef, execOp, rho, go_sem, hl, famUpon, famOf, isV, Grows.refl]
                · intro f V hg hl
                  simp [Oper.looksAt, Op.operands, Call.operands, famAt, famOf, isV] at hl
                  simp [famWants, boolIs_bool, boolIs_undef, execOp, rho, go_sem, hl, h0, h0', famUpon, famOf, isV, Grows.refl]
                · intro f V hg hl
                  simp [Oper.looksAt, Op.operands, Call.operands, famAt, famOf, isV] at hl
                  simp [famWants, boolIs_bool, boolIs_undef, execOp, rho, go_sem, hl, famUpon, famOf, isV, Grows.refl]
                · intro f V hg hl
                  simp [Oper.looksAt, Op.operands, Call.operands, famAt, famOf, isV] at hl
                  simp [famWants, boolIs_bool, boolIs_undef, execOp, rho, go_sem, hl, famUpon, famOf, isV, Grows.refl]
                · intro f V hg hl
                  simp [Oper.looksAt, Op.operands, Call.operands, famAt, famOf, isV] at hl
                  simp [famWants, boolIs_bool, boolIs_undef, execOp, rho, go_sem, hl, famUpon, famOf, isV, Grows.refl]
                · intro f V hg hl
                  simp [Oper.looksAt, Op.operands, Call.operands, famAt, famOf, isV] at hl
                  simp [famWants, boolIs_bool, boolIs_undef, execOp, rho, go_sem, hl, famUpon, famOf, isV, Grows.refl]
                · intro f V hg hl
                  simp [Oper.looksAt, Op.operands, Call.operands, famAt, famOf, isV] at hl
                  simp [famWants, boolIs_bool, boolIs_undef, execOp, rho, go_sem, hl, famUpon, famOf, isV, Grows.refl]
                · intro f V hg hl
                  simp [Oper.looksAt, Op.operands, Call.operands, famAt, famOf, isV] at hl
                  simp [famWants, boolIs_bool, boolIs_undef, execOp, rho, go_sem, hl, famUpon, famOf, isV, Grows.refl]
                · intro f V hg hl
                  simp [Oper.looksAt, Op.operands, Call.operands, famAt, famOf, isV] at hl
                  simp [famWants, boolIs_bool, boolIs_undef, execOp, rho, go_sem, hl, famUpon, famOf, isV, Grows.refl]
                · intro f V hg hl
                  simp [Oper.looksAt, Op.operands, Call.operands, famAt, famOf, isV] at hl
                  simp [famWants, boolIs_bool, boolIs_undef, execOp, rho, go_sem, hl, famUpon, famOf, isV, Grows.refl]
                · intro f V hg hl
                  simp [Oper.looksAt, Op.operands, Call.operands, famAt, famOf, isV] at hl
                  simp [famWants, boolIs_bool, boolIs_undef, execOp, rho, go_sem, hl, famUpon, famOf, isV, Grows.refl]
                · intro f V hg hl
                  simp [Oper.looksAt, Op.operands, Call.operands, famAt, famOf, isV] at hl
                  simp [famWants, boolIs_bool, boolIs_undef, execOp, rho, go_sem, hl, famUpon, famOf, isV, Grows.refl]
                · intro f V hg hl
                  simp [Oper.looksAt, Op.operands, Call.operands, famAt, famOf, isV] at hl
                  simp [famWants, boolIs_bool, boolIs_undef, execOp, rho, go_sem, hl, famUpon, famOf, isV, Grows.refl]
                · intro f V hg hl
                  simp [Oper.looksAt, Op.operands, Call.operands, famAt, famOf, isV] at hl
                  simp [famWants, boolIs_bool, boolIs_undef, execOp, rho, go_sem, hl, famUpon, famOf, isV, Grows.refl]
                · trivial
              · intro u W hg hu
                have h66 : u 66 = .bool false := hu 66 (by decide)
                simp only [List.drop_succ_cons, List.drop_zero, fill, Act.put, List.setIfInBounds_toArray, List.set_cons_zero, List.set_cons_succ, h66]
                refine wpList_nil ?_
                have hbW := hball.trans (Below.mono hg hball.size)
                have hb2W := hball2.trans (Below.mono hg hball2.size)
                clear hu h66 HCX HCE
                go_wp2
                go_roundw
                case rel => exact ⟨i + 1, by go_num, by omega, HO', hb2W⟩
                case measure => simp [intOf]; omega
            · obtain ⟨k, hik⟩ : ∃ k, i = k + 1 := ⟨i - 1, by omega⟩
              have hk' : k < M.length := by omega
              obtain ⟨ad', hAd, _, p1, p2⟩ := hr3.dot hk'
              obtain rfl : ad = ad' := by injection hAd
              obtain ⟨y, hy⟩ : ∃ y, y = M[k] := ⟨_, rfl⟩
              rw [← hy] at p1 p2
              obtain ⟨y1, y2⟩ := y
              simp only at p1 p2
              have HCY : Hid (∀ V, Grows w3 V → V.cell? (ad.add (k * 2)) = some (.int .i64 y1) ∧ V.cell? ⟨(ad.add (k * 2)).block, (ad.add (k * 2)).off + 1, none⟩ = some (.int .i64 y2)) := Lib.hid (fun V hV => ⟨cell_up p1 hV, cell_up p2 hV⟩)
              obtain ⟨b4, hb4⟩ : ∃ b, b = D.bef (y1, y2) (x1, x2) := ⟨_, rfl⟩
              have HBef : Hid (∀ V, Calls Try.prog 44 #[.agg #[.int .i64 y1, .int .i64 y2], .agg #[.int .i64 x1, .int .i64 x2]] V fun e w' => e = .returned (.bool b4) ∧ Below V.heap.size V w') := Lib.hid (fun V => by have := rbefore_any y1 y2 x1 x2 V; rw [← hb4] at this; exact this)
              have HR1 : Hid (E.rem1 F M i = b4) := Lib.hid (by
                have hx' : ((x1, x2) : D.Dot) = M[k + 1]'(by omega) := by rw [HX.out]; simp only [hik]
                rw [hik, rem1_next (by omega), ← hx', ← hy, hm, ← hb4]
                have : decide (((x1, x2) : D.Dot) = (F 0, F 1)) = false := decide_eq_false hne
                rw [this]; simp)
              have kp : (0 : Int) < (i : Int) := by omega
              have kp' : 0 < i := by omega
              have kw : IntKind.i64.wrap ((i : Int) - 1) = (k : Int) := by rw [Go.IntWalk.i64_in _ (by omega)]; omega
              have kn : (k : Int) < (n : Int) := by omega
              have kn2 : k < n := by omega
              have HIK := Lib.hid hik
              clear hm how hne hy hb4 p1 p2 hAd hik h00
              refine wp_fam (n := 24) (size := 113) (D := [43, 44, 45, 46, 47, 48, 49, 50, 51, 52, 53, 54, 55, 56, 57, 58, 59, 60, 61, 62, 63, 64, 65, 66]) [(43, isV (.agg #[.int .i64 x1, .int .i64 x2])), (44, isV (.bool true)), (45, isV (.bool false)), (46, isV (.bool false)), (47, isV (.agg #[.int .i64 x1, .int .i64 x2])), (48, isV (.pointer (some ⟨g1, 0, none⟩))), (49, isV (.agg #[.int .i64 (F 0), .int .i64 (F 1)])), (50, isV (.bool false)), (51, isV (.bool false)), (52, isV (.bool false)), (53, isV (.int .i64 (i : Int))), (54, isV (.bool true)), (55, isV (.bool true)), (56, isV (.pointer (some ⟨g1, 13, none⟩))), (57, isV (.slice (some ad) n c)), (58, isV (.int .i64 (i : Int))), (59, isV (.int .i64 (k : Int))), (60, isV (.pointer (some (ad.add (k * 2))))), (61, isV (.agg #[.int .i64 y1, .int .i64 y2])), (62, isV (.agg #[.int .i64 x1, .int .i64 x2])), (63, isV (.bool b4)), (64, isV (.bool (!b4))), (65, isV (.bool (!b4))), (66, isV (.bool (!b4)))] (by kernel_rfl) (by rfl) (by kernel_rfl) ?_ ?_
              · simp only [List.take_succ_cons, List.take_zero, famAll]
                repeat' apply And.intro
                · intro f V hg hl
                  obtain ⟨k0, k1⟩ := HCX.out V hg
                  simp [Oper.looksAt, Op.operands, Call.operands, famAt, famOf, isV] at hl
                  simp [famWants, boolIs_bool, boolIs_undef, execOp, rho, go_sem, hl, k0, k1, famUpon, famOf, isV, Grows.refl]
                · intro f V hg hl
                  simp [Oper.looksAt, Op.operands, Call.operands, famAt, famOf, isV] at hl
                  simp [famWants, boolIs_bool, boolIs_undef, execOp, rho, go_sem, hl, famUpon, famOf, isV, Grows.refl]
                  exact HMay.out V
                · intro f V hg hl
                  simp [Oper.looksAt, Op.operands, Call.operands, famAt, famOf, isV] at hl
                  simp [famWants, boolIs_bool, boolIs_undef, execOp, rho, go_sem, hl, famUpon, famOf, isV, Grows.refl]
                · intro f V hg hl
                  simp [Oper.looksAt, Op.operands, Call.operands, famAt, famOf, isV] at hl
                  simp [famWants, boolIs_bool, boolIs_undef, execOp, rho, go_sem, hl, famUpon, famOf, isV, Grows.refl]
                · intro f V hg hl
                  obtain ⟨k0, k1⟩ := HCX.out V hg
                  simp [Oper.looksAt, Op.operands, Call.operands, famAt, famOf, isV] at hl
                  simp [famWants, boolIs_bool, boolIs_undef, execOp, rho, go_sem, hl, k0, k1, famUpon, famOf, isV, Grows.refl]
                · intro f V hg hl
                  simp [Oper.looksAt, Op.operands, Call.operands, famAt, famOf, isV] at hl
                  simp [famWants, boolIs_bool, boolIs_undef, execOp, rho, go_sem, hl, famUpon, famOf, isV, Grows.refl]
                · intro f V hg hl
                  obtain ⟨z0, z1, z2, z3, z4, z5, z6, z7, z8, z9, z10, z11, z12, z13⟩ := HCE.out V hg
                  simp [Oper.looksAt, Op.operands, Call.operands, famAt, famOf, isV] at hl
                  simp [famWants, boolIs_bool, boolIs_undef, execOp, rho, go_sem, hl, z0, z1, famUpon, famOf, isV, Grows.refl]
                · intro f V hg hl
                  simp [Oper.looksAt, Op.operands, Call.operands, famAt, famOf, isV] at hl
                  simp [famWants, boolIs_bool, boolIs_undef, execOp, rho, go_sem, hl, HEq.out, famUpon, famOf, isV, Grows.refl]
                · intro f V hg hl
                  simp [Oper.looksAt, Op.operands, Call.operands, famAt, famOf, isV] at hl
                  simp [famWants, boolIs_bool, boolIs_undef, execOp, rho, go_sem, hl, famUpon, famOf, isV, Grows.refl]
                · intro f V hg hl
                  simp [Oper.looksAt, Op.operands, Call.operands, famAt, famOf, isV] at hl
                  simp [famWants, boolIs_bool, boolIs_undef, execOp, rho, go_sem, hl, famUpon, famOf, isV, Grows.refl]
                · intro f V hg hl
                  simp [Oper.looksAt, Op.operands, Call.operands, famAt, famOf, isV] at hl
                  simp [famWants, boolIs_bool, boolIs_undef, execOp, rho, go_sem, hl, famUpon, famOf, isV, Grows.refl]
                · intro f V hg hl
                  simp [Oper.looksAt, Op.operands, Call.operands, famAt, famOf, isV] at hl
                  simp [famWants, boolIs_bool, boolIs_undef, execOp, rho, go_sem, hl, kp, kp', famUpon, famOf, isV, Grows.refl]
                · intro f V hg hl
                  simp [Oper.looksAt, Op.operands, Call.operands, famAt, famOf, isV] at hl
                  simp [famWants, boolIs_bool, boolIs_undef, execOp, rho, go_sem, hl, famUpon, famOf, isV, Grows.refl]
                · intro f V hg hl
                  simp [Oper.looksAt, Op.operands, Call.operands, famAt, famOf, isV] at hl
                  simp [famWants, boolIs_bool, boolIs_undef, execOp, rho, go_sem, hl, famUpon, famOf, isV, Grows.refl]
                · intro f V hg hl
                  obtain ⟨z0, z1, z2, z3, z4, z5, z6, z7, z8, z9, z10, z11, z12, z13⟩ := HCE.out V hg
                  simp [Oper.looksAt, Op.operands, Call.operands, famAt, famOf, isV] at hl
                  simp [famWants, boolIs_bool, boolIs_undef, execOp, rho, go_sem, hl, z13, famUpon, famOf, isV, Grows.refl]
                · intro f V hg hl
                  simp [Oper.looksAt, Op.operands, Call.operands, famAt, famOf, isV] at hl
                  simp [famWants, boolIs_bool, boolIs_undef, execOp, rho, go_sem, hl, famUpon, famOf, isV, Grows.refl]
                · intro f V hg hl
                  simp [Oper.looksAt, Op.operands, Call.operands, famAt, famOf, isV] at hl
                  simp [famWants, boolIs_bool, boolIs_undef, execOp, rho, go_sem, hl, kw, famUpon, famOf, isV, Grows.refl]
                · intro f V hg hl
                  simp [Oper.looksAt, Op.operands, Call.operands, famAt, famOf, isV] at hl
                  simp [famWants, boolIs_bool, boolIs_undef, execOp, rho, go_sem, hl, kn, kn2, famUpon, famOf, isV, Grows.refl]
                · intro f V hg hl
                  obtain ⟨k0, k1⟩ := HCY.out V hg
                  simp [Oper.looksAt, Op.operands, Call.operands, famAt, famOf, isV] at hl
                  simp [famWants, boolIs_bool, boolIs_undef, execOp, rho, go_sem, hl, k0, k1, famUpon, famOf, isV, Grows.refl]
                · intro f V hg hl
                  obtain ⟨k0, k1⟩ := HCX.out V hg
                  simp [Oper.looksAt, Op.operands, Call.operands, famAt, famOf, isV] at hl
                  simp [famWants, boolIs_bool, boolIs_undef, execOp, rho, go_sem, hl, k0, k1, famUpon, famOf, isV, Grows.refl]
                · intro f V hg hl
                  simp [Oper.looksAt, Op.operands, Call.operands, famAt, famOf, isV] at hl
                  simp [famWants, boolIs_bool, boolIs_undef, execOp, rho, go_sem, hl, famUpon, famOf, isV, Grows.refl]
                  exact HBef.out V
                · intro f V hg hl
                  simp [Oper.looksAt, Op.operands, Call.operands, famAt, famOf, isV] at hl
                  simp [famWants, boolIs_bool, boolIs_undef, execOp, rho, go_sem, hl, famUpon, famOf, isV, Grows.refl]
                · intro f V hg hl
                  simp [Oper.looksAt, Op.operands, Call.operands, famAt, famOf, isV] at hl
                  simp [famWants, boolIs_bool, boolIs_undef, execOp, rho, go_sem, hl, famUpon, famOf, isV, Grows.refl]
                · intro f V hg hl
                  simp [Oper.looksAt, Op.operands, Call.operands, famAt, famOf, isV] at hl
                  simp [famWants, boolIs_bool, boolIs_undef, execOp, rho, go_sem, hl, famUpon, famOf, isV, Grows.refl]
                · trivial
              · intro u W hg hu
                have h66 : u 66 = .bool (!b4) := hu 66 (by decide)
                simp only [List.drop_succ_cons, List.drop_zero, fill, Act.put, List.setIfInBounds_toArray, List.set_cons_zero, List.set_cons_succ, h66]
                refine wpList_nil ?_
                have hbW := hball.trans (Below.mono hg hball.size)
                have hb2W := hball2.trans (Below.mono hg hball2.size)
                clear hu h66 HCX HCE HCY HBef
                cases b4 with
                | false =>
                  have HF : Hid (E.right F M = false) := Lib.hid (E.rems_bad hlt' HR1.out)
                  go_wp2
                  go_ret
                  exact ⟨ret_bool HF.out.symm, hbW⟩
                | true =>
                  have HO' : Hid (∀ j, j < i + 1 → E.rem1 F M j = true) := Lib.hid (fun j hj => by
                    rcases Nat.lt_or_ge j i with h | h
                    · exact HO.out j h
                    · obtain rfl : j = i := by omega
                      exact HR1.out)
                  go_wp2
                  go_roundw
                  case rel => exact ⟨i + 1, by go_num, by omega, HO', hb2W⟩
                  case measure => simp [intOf]; omega
      · have HR : Hid (E.rems F M = true) := Lib.hid (List.all_eq_true.2 fun j hj => HO.out j (by have := List.mem_range.1 hj; rw [HN.out] at this; omega))
        have hXr := hX2.new hb
        have hb0r := hb02.trans (hb.mono hs02)
        obtain ⟨z0, z1, z2, z3, z4, z5, z6, z7, z8, z9, z10, z11, z12, z13⟩ := set14 hXr
        have HK : Hid (E.right F M = E.kindOk F M) := Lib.hid (by unfold E.right; rw [HH.out, HR.out]; simp)
        have hnI : ¬ (i : Int) < (n : Int) := by omega
        have qp := Try.guardPol
        have qe := fun W => eql_pol0 F W
        by_cases k1 : F 3 = 1
        · have HK1 : Hid (E.kindOk F M = (decide (0 ≤ F 5) && decide (F 5 ≤ 1099511627776) && E.pz F && decide (n = 0))) := Lib.hid (by unfold E.kindOk; rw [if_pos k1, HN.out, Bool.decide_and])
          by_cases v1 : 0 ≤ F 5
          · by_cases v2 : F 5 ≤ 1099511627776
            · cases hp : E.pz F with
              | true =>
                rw [hp] at qe
                go_wp2
                go_ret
                refine ⟨ret_bool ?_, hb0r⟩
                rw [HK.out, HK1.out, hp, decide_eq_true v1, decide_eq_true v2, Bool.eq_iff_iff]
                simp
              | false =>
                rw [hp] at qe
                go_wp2
                go_ret
                refine ⟨ret_bool ?_, hb0r⟩
                rw [HK.out, HK1.out, hp]
                simp
            · have HF : Hid (E.right F M = false) := Lib.hid (by rw [HK.out, HK1.out, decide_eq_false v2]; simp)
              go_wp2
              go_ret
              exact ⟨ret_bool HF.out.symm, hb0r⟩
          · have HF : Hid (E.right F M = false) := Lib.hid (by rw [HK.out, HK1.out, decide_eq_false v1]; simp)
            go_wp2
            go_ret
            exact ⟨ret_bool HF.out.symm, hb0r⟩
        · by_cases k2 : F 3 = 2
          · have HK1 : Hid (E.kindOk F M = (decide (F 5 = 0) && E.rp F)) := Lib.hid (by unfold E.kindOk; rw [if_neg k1, if_pos k2])
            by_cases v1 : F 5 = 0
            · have hpl := rpol_any F wr
              go_wp2_with fail
              refine hpl.mono ?_
              rintro e w4 ⟨rfl, hb4⟩
              go_wp2
              go_ret
              refine ⟨ret_bool ?_, hb0r.trans (hb4.mono hb0r.size)⟩
              rw [HK.out, HK1.out, decide_eq_true v1]
              simp
            · go_wp2
              go_ret
              refine ⟨ret_bool ?_, hb0r⟩
              rw [HK.out, HK1.out, decide_eq_false v1]
              simp
          · by_cases k3 : F 3 = 3
            · have HK1 : Hid (E.kindOk F M = (decide (F 5 = 0) && E.pz F)) := Lib.hid (by unfold E.kindOk; rw [if_neg k1, if_neg k2, if_pos k3])
              by_cases v1 : F 5 = 0
              · go_wp2
                go_ret
                refine ⟨ret_bool ?_, hb0r⟩
                rw [HK.out, HK1.out, decide_eq_true v1]
                simp
              · go_wp2
                go_ret
                refine ⟨ret_bool ?_, hb0r⟩
                rw [HK.out, HK1.out, decide_eq_false v1]
                simp
            · have HK1 : Hid (E.kindOk F M = false) := Lib.hid (by unfold E.kindOk; rw [if_neg k1, if_neg k2, if_neg k3])
              go_wp2
              go_ret
              refine ⟨ret_bool ?_, hb0r⟩
              rw [HK.out, HK1.out]
  · have HF : Hid (E.right F M = false) := Lib.hid (E.bend_head (by
        unfold E.headOk
        rw [HN.out]
        cases e : D.may (F 0, F 1) with
        | false => simp
        | true =>
          cases e2 : decide (1 ≤ F 2 ∧ F 2 ≤ 1099511627776 ∧ 0 ≤ F 4 ∧ F 4 ≤ 7) with
          | false => simp
          | true =>
            have := of_decide_eq_true e2
            have h96 : ¬ n ≤ 96 := fun h => hok ⟨e, this.1, this.2.1, this.2.2.1, this.2.2.2, h⟩
            simp [h96]))
    have hres : D.may (F 0, F 1) = false ∨ (D.may (F 0, F 1) = true ∧ (F 2 < 1 ∨ 1099511627776 < F 2 ∨ F 4 < 0 ∨ 7 < F 4 ∨ (96 : Int) < (n : Int))) := by
      cases e : D.may (F 0, F 1) with
      | false => exact .inl rfl
      | true =>
        refine .inr ⟨rfl, ?_⟩
        rcases Classical.em (F 2 < 1 ∨ 1099511627776 < F 2 ∨ F 4 < 0 ∨ 7 < F 4 ∨ (96 : Int) < (n : Int)) with h | h
        · exact h
        · exact absurd ⟨e, by omega, by omega, by omega, by omega, by omega⟩ hok
    go_enter Try.func42, Try.ntmps42
    go_wp2_with fail
    rw [HW.out, ← HG1.out]
    refine hM.mono ?_
    rintro e w2 ⟨rfl, hb2⟩
    have hX2 := hX1.new hb2
    have hb02 := below_new hb1 hb2
    clear z0 z1 z2 z3 z4 z5 z6 z7 z8 z9 z10 z11 z12 z13 hM hX1 hok
    obtain ⟨z0, z1, z2, z3, z4, z5, z6, z7, z8, z9, z10, z11, z12, z13⟩ := set14 hX2
    rcases hres with e | ⟨e, h⟩
    · rw [e]
      go_wp2
      go_ret
      exact ⟨ret_bool HF.out.symm, hb02⟩
    · rw [e]
      rcases h with h | h | h | h | h
      all_goals
        go_wp2
        all_goals
          go_ret
          exact ⟨ret_bool HF.out.symm, hb02⟩
end Go.Proofs.Ytedcgfcmhaeldaa
