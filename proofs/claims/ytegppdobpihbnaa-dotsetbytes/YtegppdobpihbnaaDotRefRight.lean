/- Layer 6: Right, the document's. -/
import Derived.Test.YtegppdobpihbnaaDotRight
namespace Go.Proofs.Ytegppdobpihbnaa
set_option linter.unusedVariables false
set_option linter.unusedSimpArgs false
open Go.ChangeShapes Go.WideShapes Go.ChangeAt Go.RowKit

set_option maxHeartbeats 4000000 in
theorem rright_any (S : Nat → Prop) (U : Nat → Int) (A : Option Addr) (n c : Nat) (M : List D.Dot) (w : World) (hn : M.length = n) (hr : Rds w S A (dvs M)) (hl : n ≤ 1000000) :
    Calls Try.prog 16 #[sv U A n c] w fun e w' => e = .returned (.bool (D.rt U M)) ∧ Below w.heap.size w w' := by
  have HN := Lib.hid hn
  clear hn
  have hb0 := b_alloc w (.cells (scs U A n c) 35)
  have hB0 := Blo.made w 35 (scs U A n c)
  have hr0 := hr.alloc (.cells (scs U A n c) 35)
  have hz0 : (w.alloc (.cells (scs U A n c) 35)).heap.size = w.heap.size + 1 := by simp
  go_enter Try.func16, Try.ntmps16
  go_wp2_with fail
  generalize w.alloc (.cells (scs U A n c) 35) = w1 at *
  go_loop [9] (fun iv => ∃ k : Nat, iv = .int .i64 k ∧ k ≤ 8 ∧ Hid (UpTo U k)) (fun iv => 8 - (intOf iv).toNat)
  case atStart => exact ⟨0, rfl, by omega, Lib.hid (fun j hj => by omega)⟩
  case round =>
    obtain ⟨k, rfl, hk, HU⟩ := hrel
    by_cases hlt : k < 8
    · have q := fun W => av_at U hlt W
      by_cases h1 : 0 ≤ U k
      · by_cases h2 : U k ≤ 96
        · have HU' := Lib.hid (HU.out.more h1 h2)
          generalize U k = x at *
          go_wp2
          go_round
          case rel => exact ⟨k + 1, by go_num, by omega, HU'⟩
          case measure => simp [intOf]; omega
        · have HF := Lib.hid (D.rt_up (M := M) hlt (fun h => h2 h.2))
          generalize U k = x at *
          go_wp2
          go_ret
          exact ⟨ret_bool HF.out.symm, hb0⟩
      · have HF := Lib.hid (D.rt_up (M := M) hlt (fun h => h1 h.1))
        generalize U k = x at *
        go_wp2
        go_ret
        exact ⟨ret_bool HF.out.symm, hb0⟩
    · have HU8 : Hid (UpTo U 8) := Lib.hid (by have e : k = 8 := by omega
                                               rw [← e]; exact HU.out)
      have k8 : w1.cell? ⟨w.heap.size, 8, none⟩ = some (.slice A n c) := by simpa using hB0.cell 8
      clear HU
      by_cases hbig : 768 < n
      · have HF : Hid (D.rt U M = false) := Lib.hid (by
          cases e : D.rt U M with
          | false => rfl
          | true => have := D.rt_len e; rw [HN.out] at this; omega)
        go_wp2
        go_ret
        exact ⟨ret_bool HF.out.symm, hb0⟩
      go_wp2
      go_loopw [26] (fun iv wr => ∃ i : Nat, iv = .int .i64 i ∧ i ≤ n ∧ Hid (OkTo U M i) ∧ Below w1.heap.size w1 wr) (fun iv _ => n - (intOf iv).toNat)
      case atStart => exact ⟨0, rfl, by omega, Lib.hid (fun j hj => by omega), Below.refl _ _⟩
      case round =>
        obtain ⟨i, rfl, hi, HO, hb⟩ := hrel
        by_cases hlt : i < n
        · have hlt' : i < M.length := by rw [HN.out]; exact hlt
          obtain ⟨ad, rfl, _, c1, c2⟩ := (hr0.new hb).dot hlt'
          obtain ⟨x, hx⟩ : ∃ x, x = M[i] := ⟨_, rfl⟩
          rw [← hx] at c1 c2
          obtain ⟨x1, x2⟩ := x
          have HX := Lib.hid hx
          clear hx
          simp only at c1 c2
          have hgs := hb.size
          obtain ⟨w2, hw2⟩ : ∃ W, wr.alloc (.cells #[.int .i64 x1, .int .i64 x2] 27) = W := ⟨_, rfl⟩
          have hb2 : Below wr.heap.size wr w2 := by rw [← hw2]; exact b_alloc _ _
          have hD : Blo w2 wr.heap.size 27 #[.int .i64 x1, .int .i64 x2] := by rw [← hw2]; exact Blo.made _ _ _
          have hSt : Blo w2 w.heap.size 35 (scs U (some ad) n c) := (hB0.new hb).new hb2
          have hrd := (hr0.new hb).new hb2
          have hball : Below w.heap.size w w2 := hb0.trans ((hb.mono (by omega)).trans (hb2.mono (by omega)))
          have hball1 : Below w1.heap.size w1 w2 := hb.trans (hb2.mono hgs)
          have HW2 := Lib.hid hw2
          have K0 : ∀ W, Grows w2 W → W.cell? ⟨wr.heap.size, 0, none⟩ = some (.int .i64 x1) := fun W hW => by simpa using (hD.new hW).cell 0
          have K1 : ∀ W, Grows w2 W → W.cell? ⟨wr.heap.size, 1, none⟩ = some (.int .i64 x2) := fun W hW => by simpa using (hD.new hW).cell 1
          clear hw2 hb2 hb hB0 hr0
          cases hm : D.may (x1, x2) with
          | false =>
            have HF : Hid (D.rt U M = false) := Lib.hid (D.rt_more hlt' (by rw [ok1_eq hlt', ← HX.out, hm, Bool.false_and, Bool.false_and]))
            have hcall := fun W => rmay_any x1 x2 W
            rw [hm] at hcall
            have HC := Lib.hid hcall
            clear hcall hm hSt hrd hD
            go_wp2_with fail
            rw [HW2.out]
            refine wp_fam (n := 29) (size := 61) (D := [31, 32, 33, 34, 35, 36, 37, 38, 39, 40, 41, 42, 43, 44, 45, 46, 47, 48, 49, 50, 51, 52, 53, 54, 55, 56, 57, 58, 59]) [(31, isV (.agg #[.int .i64 x1, .int .i64 x2])), (32, isV (.bool false)), (33, isV (.bool true)), (34, isV (.bool true)), (35, isV undef), (36, isV undef), (37, isV undef), (38, isV undef), (39, isV undef), (40, isV undef), (41, isV undef), (42, isV undef), (43, isV undef), (44, isV (.bool true)), (45, isV (.bool true)), (46, isV undef), (47, isV undef), (48, isV undef), (49, isV undef), (50, isV undef), (51, isV undef), (52, isV undef), (53, isV undef), (54, isV undef), (55, isV undef), (56, isV undef), (57, isV undef), (58, isV undef), (59, isV (.bool true))] (by kernel_rfl) (by rfl) (by kernel_rfl) ?_ ?_
            · simp only [List.take_succ_cons, List.take_zero, famAll]
              repeat' apply And.intro
              all_goals first
                | trivial
                | (intro f V hg hl
                   have k0 := K0 V hg
                   have k1 := K1 V hg
                   simp [Oper.looksAt, Op.operands, Call.operands, famAt, famOf, isV] at hl
                   simp [famWants, boolIs_bool, boolIs_undef, execOp, rho, go_sem, hl, k0, k1,  famUpon, famOf, isV, Grows.refl]
                   try exact HC.out V)
            · intro u W hg hu
              have h59 : u 59 = .bool true := hu 59 (by decide)
              simp only [List.drop_succ_cons, List.drop_zero, fill, Act.put, List.setIfInBounds_toArray, List.set_cons_zero, List.set_cons_succ, h59]
              refine wpList_nil ?_
              clear hu h59
              clear K0 K1
              go_wp2
              go_ret
              exact ⟨ret_bool HF.out.symm, hball.trans (Below.mono hg hball.size)⟩
          | true =>
            have hm' := D.may_iff.1 hm
            simp only at hm'
            obtain ⟨nd, rfl⟩ := Int.eq_ofNat_of_zero_le hm'.1
            have hnd : nd < 8 := by omega
            have hndI : (nd : Int) < 8 := by omega
            have hU := HU8.out nd hnd
            have KU : ∀ W, Grows w2 W → W.cell? ⟨w.heap.size, nd, none⟩ = some (.int .i64 (U nd)) := fun W hW => ((hSt.new hW).cell nd).trans (scs_at U _ _ _ hnd)
            have K8 : ∀ W, Grows w2 W → W.cell? ⟨w.heap.size, 8, none⟩ = some (.slice (some ad) n c) := fun W hW => by simpa using (hSt.new hW).cell 8
            have hcall := fun W => rmay_any (nd : Int) x2 W
            rw [hm] at hcall
            have HC := Lib.hid hcall
            have HUn : Hid (U (((nd : Int), x2) : D.Dot).1.toNat = U nd) := Lib.hid (by simp)
            have hw1 : IntKind.i64.wrap (U nd + 1) = U nd + 1 := IntWalk.i64_in _ (by omega)
            have hM : Hid (D.may ((nd : Int), x2) = true) := Lib.hid hm
            have hx2 : 1 ≤ x2 ∧ x2 ≤ 96 := ⟨hm'.2.2.1, hm'.2.2.2⟩
            clear hcall hm hD hm'
            by_cases hup : x2 ≤ U nd + 1
            · have HF : Hid (D.rt U M = false) := Lib.hid (D.rt_more hlt' (by
                rw [ok1_eq hlt', ← HX.out]
                have : decide (U (((nd : Int), x2) : D.Dot).1.toNat + 1 < (((nd : Int), x2) : D.Dot).2) = false := by rw [HUn.out]; simp; omega
                rw [this]; simp))
              go_wp2_with fail
              rw [HW2.out]
              refine wp_fam (n := 29) (size := 61) (D := [31, 32, 33, 34, 35, 36, 37, 38, 39, 40, 41, 42, 43, 44, 45, 46, 47, 48, 49, 50, 51, 52, 53, 54, 55, 56, 57, 58, 59]) [(31, isV (.agg #[.int .i64 nd, .int .i64 x2])), (32, isV (.bool true)), (33, isV (.bool false)), (34, isV (.bool false)), (35, isV (.pointer (some ⟨wr.heap.size, 1, none⟩))), (36, isV (.int .i64 x2)), (37, isV (.pointer (some ⟨wr.heap.size, 0, none⟩))), (38, isV (.int .i64 nd)), (39, isV (.pointer (some ⟨w.heap.size, 0, none⟩))), (40, isV (.pointer (some ⟨w.heap.size, nd, none⟩))), (41, isV (.int .i64 (U nd))), (42, isV (.int .i64 (U nd + 1))), (43, isV (.bool true)), (44, isV (.bool true)), (45, isV (.bool true)), (46, isV undef), (47, isV undef), (48, isV undef), (49, isV undef), (50, isV undef), (51, isV undef), (52, isV undef), (53, isV undef), (54, isV undef), (55, isV undef), (56, isV undef), (57, isV undef), (58, isV undef), (59, isV (.bool true))] (by kernel_rfl) (by rfl) (by kernel_rfl) ?_ ?_
              · simp only [List.take_succ_cons, List.take_zero, famAll]
                repeat' apply And.intro
                all_goals first
                  | trivial
                  | (intro f V hg hl
                     have k0 := K0 V hg
                     have k1 := K1 V hg
                     have ku := KU V hg
                     simp [Oper.looksAt, Op.operands, Call.operands, famAt, famOf, isV] at hl
                     simp [famWants, boolIs_bool, boolIs_undef, execOp, rho, go_sem, hl, k0, k1, ku,  famUpon, famOf, isV, Grows.refl, hw1, hndI, hup]
                     try exact HC.out V)
              · intro u W hg hu
                have h59 : u 59 = .bool true := hu 59 (by decide)
                simp only [List.drop_succ_cons, List.drop_zero, fill, Act.put, List.setIfInBounds_toArray, List.set_cons_zero, List.set_cons_succ, h59]
                refine wpList_nil ?_
                clear hu h59
                clear K0 K1 K8 KU
                go_wp2
                go_ret
                exact ⟨ret_bool HF.out.symm, hball.trans (Below.mono hg hball.size)⟩
            · have HP : Hid (D.ok1 U M i = (decide (i = 0) || D.bef (M.getD (i - 1) (0, 0)) ((nd : Int), x2))) := Lib.hid (by
                rw [ok1_eq hlt', ← HX.out, hM.out]
                have : decide (U (((nd : Int), x2) : D.Dot).1.toNat + 1 < (((nd : Int), x2) : D.Dot).2) = true := by rw [HUn.out]; simp; omega
                rw [this]; simp)
              by_cases hi0 : 0 < i
              · have hi1' : i - 1 < M.length := by omega
                obtain ⟨ad', e, _, p1, p2⟩ := hrd.dot hi1'
                injection e with e
                subst e
                obtain ⟨y, hy⟩ : ∃ y, y = M[i - 1] := ⟨_, rfl⟩
                rw [← hy] at p1 p2
                obtain ⟨y1, y2⟩ := y
                have HY : Hid (M.getD (i - 1) (0, 0) = (y1, y2)) := Lib.hid (by rw [List.getD_eq_getElem?_getD, List.getElem?_eq_getElem hi1', Option.getD_some, ← hy])
                simp only at p1 p2
                have P1 : ∀ V, Grows w2 V → V.cell? (ad.add ((i - 1) * 2)) = some (.int .i64 y1) := fun V hV => cell_up p1 hV
                have P2 : ∀ V, Grows w2 V → V.cell? ⟨(ad.add ((i - 1) * 2)).block, (ad.add ((i - 1) * 2)).off + 1, none⟩ = some (.int .i64 y2) := fun V hV => cell_up p2 hV
                have hiI : (0 : Int) < (i : Int) := by omega
                have hw2 : IntKind.i64.wrap ((i : Int) - 1) = (i : Int) - 1 := IntWalk.i64_in _ (by omega)
                have hi3 : (i : Int) - 1 < (n : Int) := by omega
                have hi4 : (1 : Int) ≤ (i : Int) := by omega
                have hi5 : ((i : Int) - 1).toNat = i - 1 := by omega
                have HC2 := Lib.hid (fun V => rbefore_any y1 y2 (nd : Int) x2 V)
                obtain ⟨b, hb⟩ : ∃ b, b = D.bef (y1, y2) ((nd : Int), x2) := ⟨_, rfl⟩
                rw [← hb] at HC2
                have HBE := Lib.hid hb
                clear hb hy p1 p2 hrd
                go_wp2_with fail
                rw [HW2.out]
                refine wp_fam (n := 29) (size := 61) (D := [31, 32, 33, 34, 35, 36, 37, 38, 39, 40, 41, 42, 43, 44, 45, 46, 47, 48, 49, 50, 51, 52, 53, 54, 55, 56, 57, 58, 59]) [(31, isV (.agg #[.int .i64 nd, .int .i64 x2])), (32, isV (.bool true)), (33, isV (.bool false)), (34, isV (.bool false)), (35, isV (.pointer (some ⟨wr.heap.size, 1, none⟩))), (36, isV (.int .i64 x2)), (37, isV (.pointer (some ⟨wr.heap.size, 0, none⟩))), (38, isV (.int .i64 nd)), (39, isV (.pointer (some ⟨w.heap.size, 0, none⟩))), (40, isV (.pointer (some ⟨w.heap.size, nd, none⟩))), (41, isV (.int .i64 (U nd))), (42, isV (.int .i64 (U nd + 1))), (43, isV (.bool false)), (44, isV (.bool false)), (45, isV (.bool false)), (46, isV (.int .i64 i)), (47, isV (.bool true)), (48, isV (.bool true)), (49, isV (.pointer (some ⟨w.heap.size, 8, none⟩))), (50, isV (.slice (some ad) n c)), (51, isV (.int .i64 i)), (52, isV (.int .i64 ((i : Int) - 1))), (53, isV (.pointer (some (ad.add ((i - 1) * 2))))), (54, isV (.agg #[.int .i64 y1, .int .i64 y2])), (55, isV (.agg #[.int .i64 nd, .int .i64 x2])), (56, isV (.bool b)), (57, isV (.bool (!b))), (58, isV (.bool (!b))), (59, isV (.bool (!b)))] (by kernel_rfl) (by rfl) (by kernel_rfl) ?_ ?_
                · simp only [List.take_succ_cons, List.take_zero, famAll]
                  repeat' apply And.intro
                  all_goals first
                    | trivial
                    | (intro f V hg hl
                       have k0 := K0 V hg
                       have k1 := K1 V hg
                       have ku := KU V hg
                       have k8 := K8 V hg
                       have p1 := P1 V hg
                       have p2 := P2 V hg
                       simp [Oper.looksAt, Op.operands, Call.operands, famAt, famOf, isV] at hl
                       simp [famWants, boolIs_bool, boolIs_undef, execOp, rho, go_sem, hl, k0, k1, ku, k8, p1, p2,  famUpon, famOf, isV, Grows.refl, hw1, hndI, hup, hiI, hi0, hw2, hi3, hi4, hi5]
                       try first | exact HC.out V | exact HC2.out V)
                · intro u W hg hu
                  have h59 : u 59 = .bool (!b) := hu 59 (by decide)
                  simp only [List.drop_succ_cons, List.drop_zero, fill, Act.put, List.setIfInBounds_toArray, List.set_cons_zero, List.set_cons_succ, h59]
                  refine wpList_nil ?_
                  clear hu h59
                  clear K0 K1 K8 KU P1 P2
                  cases b with
                  | false =>
                    have HF : Hid (D.rt U M = false) := Lib.hid (D.rt_more hlt' (by rw [HP.out, HY.out, ← HBE.out]; simp; omega))
                    go_wp2
                    go_ret
                    exact ⟨ret_bool HF.out.symm, hball.trans (Below.mono hg hball.size)⟩
                  | true =>
                    have HO' := Lib.hid (HO.out.more (by rw [HP.out, HY.out, ← HBE.out]; simp))
                    go_wp2
                    go_roundw
                    case rel => exact ⟨i + 1, by go_num, by omega, HO', hball1.trans (Below.mono hg hball1.size)⟩
                    case measure => simp [intOf]; omega
              · have HO' := Lib.hid (HO.out.more (by rw [HP.out]; simp; left; omega))
                go_wp2_with fail
                rw [HW2.out]
                refine wp_fam (n := 29) (size := 61) (D := [31, 32, 33, 34, 35, 36, 37, 38, 39, 40, 41, 42, 43, 44, 45, 46, 47, 48, 49, 50, 51, 52, 53, 54, 55, 56, 57, 58, 59]) [(31, isV (.agg #[.int .i64 nd, .int .i64 x2])), (32, isV (.bool true)), (33, isV (.bool false)), (34, isV (.bool false)), (35, isV (.pointer (some ⟨wr.heap.size, 1, none⟩))), (36, isV (.int .i64 x2)), (37, isV (.pointer (some ⟨wr.heap.size, 0, none⟩))), (38, isV (.int .i64 nd)), (39, isV (.pointer (some ⟨w.heap.size, 0, none⟩))), (40, isV (.pointer (some ⟨w.heap.size, nd, none⟩))), (41, isV (.int .i64 (U nd))), (42, isV (.int .i64 (U nd + 1))), (43, isV (.bool false)), (44, isV (.bool false)), (45, isV (.bool false)), (46, isV (.int .i64 i)), (47, isV (.bool false)), (48, isV (.bool false)), (49, isV undef), (50, isV undef), (51, isV undef), (52, isV undef), (53, isV undef), (54, isV undef), (55, isV undef), (56, isV undef), (57, isV undef), (58, isV (.bool false)), (59, isV (.bool false))] (by kernel_rfl) (by rfl) (by kernel_rfl) ?_ ?_
                · simp only [List.take_succ_cons, List.take_zero, famAll]
                  repeat' apply And.intro
                  all_goals first
                    | trivial
                    | (intro f V hg hl
                       have k0 := K0 V hg
                       have k1 := K1 V hg
                       have ku := KU V hg
                       simp [Oper.looksAt, Op.operands, Call.operands, famAt, famOf, isV] at hl
                       simp [famWants, boolIs_bool, boolIs_undef, execOp, rho, go_sem, hl, k0, k1, ku,  famUpon, famOf, isV, Grows.refl, hw1, hndI, hup, hi0]
                       try exact HC.out V)
                · intro u W hg hu
                  have h59 : u 59 = .bool false := hu 59 (by decide)
                  simp only [List.drop_succ_cons, List.drop_zero, fill, Act.put, List.setIfInBounds_toArray, List.set_cons_zero, List.set_cons_succ, h59]
                  refine wpList_nil ?_
                  clear hu h59
                  clear K0 K1 K8 KU
                  go_wp2
                  go_roundw
                  case rel => exact ⟨i + 1, by go_num, by omega, HO', hball1.trans (Below.mono hg hball1.size)⟩
                  case measure => simp [intOf]; omega
        · have HT : Hid (D.rt U M = true) := Lib.hid (D.rt_yes HU8.out (by
            have e : i = M.length := by rw [HN.out]; omega
            rw [← e]; exact HO.out))
          go_wp2
          go_ret
          exact ⟨ret_bool HT.out.symm, hb0.trans (Below.mono hb (by omega))⟩
end Go.Proofs.Ytegppdobpihbnaa
