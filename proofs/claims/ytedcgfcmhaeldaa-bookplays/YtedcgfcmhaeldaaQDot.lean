/- Layer 6: Right, the document's. | Layer 6: the document's Has, List. | Layer 6: the document's List. | Layer 6: the document's Of. | Layer 6, the law's own: To, Ref, From; same. -/
import Derived.Test.YtedcgfcmhaeldaaDotRight
import Derived.Test.YtedcgfcmhaeldaaDotFace
import Derived.Test.YtedcgfcmhaeldaaDotMath2

section
namespace Go.Proofs.Ytedcgfcmhaeldaa
set_option linter.unusedVariables false
set_option linter.unusedSimpArgs false
open Go.ChangeShapes Go.WideShapes Go.ChangeAt Go.RowKit

set_option maxHeartbeats 4000000 in
theorem rright_any (S : Nat → Prop) (U : Nat → Int) (A : Option Addr) (n c : Nat) (M : List D.Dot) (w : World) (hn : M.length = n) (hr : Rds w S A (dvs M)) (hl : n ≤ 1000000) :
    Calls Try.prog 53 #[sv U A n c] w fun e w' => e = .returned (.bool (D.rt U M)) ∧ Below w.heap.size w w' := by
  have HN := Lib.hid hn
  clear hn
  have hb0 := b_alloc w (.cells (scs U A n c) 51)
  have hB0 := Blo.made w 51 (scs U A n c)
  have hr0 := hr.alloc (.cells (scs U A n c) 51)
  have hz0 : (w.alloc (.cells (scs U A n c) 51)).heap.size = w.heap.size + 1 := by simp
  go_enter Try.func53, Try.ntmps53
  go_wp2_with fail
  generalize w.alloc (.cells (scs U A n c) 51) = w1 at *
  go_loop [9] (fun iv => ∃ k : Nat, iv = .int .i64 k ∧ k ≤ 8 ∧ Hid (UpTo U k)) (fun iv => 8 - (intOf iv).toNat)
  case atStart => exact ⟨0, rfl, by omega, Lib.hid (fun j hj => by omega)⟩
  case round =>
    obtain ⟨k, rfl, hk, HU⟩ := hrel
    by_cases hlt : k < 8
    · have q := fun W => av_at U hlt W
      by_cases h1 : 0 ≤ U k
      · by_cases h2 : U k ≤ 96
        · have HU' := Lib.hid (HU.out.more h1 h2)
          generalize U k = x at *
          go_wp2
          go_round
          case rel => exact ⟨k + 1, by go_num, by omega, HU'⟩
          case measure => simp [intOf]; omega
        · have HF := Lib.hid (D.rt_up (M := M) hlt (fun h => h2 h.2))
          generalize U k = x at *
          go_wp2
          go_ret
          exact ⟨ret_bool HF.out.symm, hb0⟩
      · have HF := Lib.hid (D.rt_up (M := M) hlt (fun h => h1 h.1))
        generalize U k = x at *
        go_wp2
        go_ret
        exact ⟨ret_bool HF.out.symm, hb0⟩
    · have HU8 : Hid (UpTo U 8) := Lib.hid (by have e : k = 8 := by omega
                                               rw [← e]; exact HU.out)
      have k8 : w1.cell? ⟨w.heap.size, 8, none⟩ = some (.slice A n c) := by simpa using hB0.cell 8
      clear HU
      by_cases hbig : 768 < n
      · have HF : Hid (D.rt U M = false) := Lib.hid (by
          cases e : D.rt U M with
          | false => rfl
          | true => have := D.rt_len e; rw [HN.out] at this; omega)
        go_wp2
        go_ret
        exact ⟨ret_bool HF.out.symm, hb0⟩
      go_wp2
      go_loopw [26] (fun iv wr => ∃ i : Nat, iv = .int .i64 i ∧ i ≤ n ∧ Hid (OkTo U M i) ∧ Below w1.heap.size w1 wr) (fun iv _ => n - (intOf iv).toNat)
      case atStart => exact ⟨0, rfl, by omega, Lib.hid (fun j hj => by omega), Below.refl _ _⟩
      case round =>
        obtain ⟨i, rfl, hi, HO, hb⟩ := hrel
        by_cases hlt : i < n
        · have hlt' : i < M.length := by rw [HN.out]; exact hlt
          obtain ⟨ad, rfl, _, c1, c2⟩ := (hr0.new hb).dot hlt'
          obtain ⟨x, hx⟩ : ∃ x, x = M[i] := ⟨_, rfl⟩
          rw [← hx] at c1 c2
          obtain ⟨x1, x2⟩ := x
          have HX := Lib.hid hx
          clear hx
          simp only at c1 c2
          have hgs := hb.size
          obtain ⟨w2, hw2⟩ : ∃ W, wr.alloc (.cells #[.int .i64 x1, .int .i64 x2] 39) = W := ⟨_, rfl⟩
          have hb2 : Below wr.heap.size wr w2 := by rw [← hw2]; exact b_alloc _ _
          have hD : Blo w2 wr.heap.size 39 #[.int .i64 x1, .int .i64 x2] := by rw [← hw2]; exact Blo.made _ _ _
          have hSt : Blo w2 w.heap.size 51 (scs U (some ad) n c) := (hB0.new hb).new hb2
          have hrd := (hr0.new hb).new hb2
          have hball : Below w.heap.size w w2 := hb0.trans ((hb.mono (by omega)).trans (hb2.mono (by omega)))
          have hball1 : Below w1.heap.size w1 w2 := hb.trans (hb2.mono hgs)
          have HW2 := Lib.hid hw2
          have K0 : ∀ W, Grows w2 W → W.cell? ⟨wr.heap.size, 0, none⟩ = some (.int .i64 x1) := fun W hW => by simpa using (hD.new hW).cell 0
          have K1 : ∀ W, Grows w2 W → W.cell? ⟨wr.heap.size, 1, none⟩ = some (.int .i64 x2) := fun W hW => by simpa using (hD.new hW).cell 1
          clear hw2 hb2 hb hB0 hr0
          cases hm : D.may (x1, x2) with
          | false =>
            have HF : Hid (D.rt U M = false) := Lib.hid (D.rt_more hlt' (by rw [ok1_eq hlt', ← HX.out, hm, Bool.false_and, Bool.false_and]))
            have hcall := fun W => rmay_any x1 x2 W
            rw [hm] at hcall
            have HC := Lib.hid hcall
            clear hcall hm hSt hrd hD
            go_wp2_with fail
            rw [HW2.out]
            refine wp_fam (n := 29) (size := 61) (D := [31, 32, 33, 34, 35, 36, 37, 38, 39, 40, 41, 42, 43, 44, 45, 46, 47, 48, 49, 50, 51, 52, 53, 54, 55, 56, 57, 58, 59]) [(31, isV (.agg #[.int .i64 x1, .int .i64 x2])), (32, isV (.bool false)), (33, isV (.bool true)), (34, isV (.bool true)), (35, isV undef), (36, isV undef), (37, isV undef), (38, isV undef), (39, isV undef), (40, isV undef), (41, isV undef), (42, isV undef), (43, isV undef), (44, isV (.bool true)), (45, isV (.bool true)), (46, isV undef), (47, isV undef), (48, isV undef), (49, isV undef), (50, isV undef), (51, isV undef), (52, isV undef), (53, isV undef), (54, isV undef), (55, isV undef), (56, isV undef), (57, isV undef), (58, isV undef), (59, isV (.bool true))] (by kernel_rfl) (by rfl) (by kernel_rfl) ?_ ?_
            · simp only [List.take_succ_cons, List.take_zero, famAll]
              repeat' apply And.intro
              all_goals first
                | trivial
                | (intro f V hg hl
                   have k0 := K0 V hg
                   have k1 := K1 V hg
                   simp [Oper.looksAt, Op.operands, Call.operands, famAt, famOf, isV] at hl
                   simp [famWants, boolIs_bool, boolIs_undef, execOp, rho, go_sem, hl, k0, k1,  famUpon, famOf, isV, Grows.refl]
                   try exact HC.out V)
            · intro u W hg hu
              have h59 : u 59 = .bool true := hu 59 (by decide)
              simp only [List.drop_succ_cons, List.drop_zero, fill, Act.put, List.setIfInBounds_toArray, List.set_cons_zero, List.set_cons_succ, h59]
              refine wpList_nil ?_
              clear hu h59
              clear K0 K1
              go_wp2
              go_ret
              exact ⟨ret_bool HF.out.symm, hball.trans (Below.mono hg hball.size)⟩
          | true =>
            have hm' := D.may_iff.1 hm
            simp only at hm'
            obtain ⟨nd, rfl⟩ := Int.eq_ofNat_of_zero_le hm'.1
            have hnd : nd < 8 := by omega
            have hndI : (nd : Int) < 8 := by omega
            have hU := HU8.out nd hnd
            have KU : ∀ W, Grows w2 W → W.cell? ⟨w.heap.size, nd, none⟩ = some (.int .i64 (U nd)) := fun W hW => ((hSt.new hW).cell nd).trans (scs_at U _ _ _ hnd)
            have K8 : ∀ W, Grows w2 W → W.cell? ⟨w.heap.size, 8, none⟩ = some (.slice (some ad) n c) := fun W hW => by simpa using (hSt.new hW).cell 8
            have hcall := fun W => rmay_any (nd : Int) x2 W
            rw [hm] at hcall
            have HC := Lib.hid hcall
            have HUn : Hid (U (((nd : Int), x2) : D.Dot).1.toNat = U nd) := Lib.hid (by simp)
            have hw1 : IntKind.i64.wrap (U nd + 1) = U nd + 1 := IntWalk.i64_in _ (by omega)
            have hM : Hid (D.may ((nd : Int), x2) = true) := Lib.hid hm
            have hx2 : 1 ≤ x2 ∧ x2 ≤ 96 := ⟨hm'.2.2.1, hm'.2.2.2⟩
            clear hcall hm hD hm'
            by_cases hup : x2 ≤ U nd + 1
            · have HF : Hid (D.rt U M = false) := Lib.hid (D.rt_more hlt' (by
                rw [ok1_eq hlt', ← HX.out]
                have : decide (U (((nd : Int), x2) : D.Dot).1.toNat + 1 < (((nd : Int), x2) : D.Dot).2) = false := by rw [HUn.out]; simp; omega
                rw [this]; simp))
              go_wp2_with fail
              rw [HW2.out]
              refine wp_fam (n := 29) (size := 61) (D := [31, 32, 33, 34, 35, 36, 37, 38, 39, 40, 41, 42, 43, 44, 45, 46, 47, 48, 49, 50, 51, 52, 53, 54, 55, 56, 57, 58, 59]) [(31, isV (.agg #[.int .i64 nd, .int .i64 x2])), (32, isV (.bool true)), (33, isV (.bool false)), (34, isV (.bool false)), (35, isV (.pointer (some ⟨wr.heap.size, 1, none⟩))), (36, isV (.int .i64 x2)), (37, isV (.pointer (some ⟨wr.heap.size, 0, none⟩))), (38, isV (.int .i64 nd)), (39, isV (.pointer (some ⟨w.heap.size, 0, none⟩))), (40, isV (.pointer (some ⟨w.heap.size, nd, none⟩))), (41, isV (.int .i64 (U nd))), (42, isV (.int .i64 (U nd + 1))), (43, isV (.bool true)), (44, isV (.bool true)), (45, isV (.bool true)), (46, isV undef), (47, isV undef), (48, isV undef), (49, isV undef), (50, isV undef), (51, isV undef), (52, isV undef), (53, isV undef), (54, isV undef), (55, isV undef), (56, isV undef), (57, isV undef), (58, isV undef), (59, isV (.bool true))] (by kernel_rfl) (by rfl) (by kernel_rfl) ?_ ?_
              · simp only [List.take_succ_cons, List.take_zero, famAll]
                repeat' apply And.intro
                all_goals first
                  | trivial
                  | (intro f V hg hl
                     have k0 := K0 V hg
                     have k1 := K1 V hg
                     have ku := KU V hg
                     simp [Oper.looksAt, Op.operands, Call.operands, famAt, famOf, isV] at hl
                     simp [famWants, boolIs_bool, boolIs_undef, execOp, rho, go_sem, hl, k0, k1, ku,  famUpon, famOf, isV, Grows.refl, hw1, hndI, hup]
                     try exact HC.out V)
              · intro u W hg hu
                have h59 : u 59 = .bool true := hu 59 (by decide)
                simp only [List.drop_succ_cons, List.drop_zero, fill, Act.put, List.setIfInBounds_toArray, List.set_cons_zero, List.set_cons_succ, h59]
                refine wpList_nil ?_
                clear hu h59
                clear K0 K1 K8 KU
                go_wp2
                go_ret
                exact ⟨ret_bool HF.out.symm, hball.trans (Below.mono hg hball.size)⟩
            · have HP : Hid (D.ok1 U M i = (decide (i = 0) || D.bef (M.getD (i - 1) (0, 0)) ((nd : Int), x2))) := Lib.hid (by
                rw [ok1_eq hlt', ← HX.out, hM.out]
                have : decide (U (((nd : Int), x2) : D.Dot).1.toNat + 1 < (((nd : Int), x2) : D.Dot).2) = true := by rw [HUn.out]; simp; omega
                rw [this]; simp)
              by_cases hi0 : 0 < i
              · have hi1' : i - 1 < M.length := by omega
                obtain ⟨ad', e, _, p1, p2⟩ := hrd.dot hi1'
                injection e with e
                subst e
                obtain ⟨y, hy⟩ : ∃ y, y = M[i - 1] := ⟨_, rfl⟩
                rw [← hy] at p1 p2
                obtain ⟨y1, y2⟩ := y
                have HY : Hid (M.getD (i - 1) (0, 0) = (y1, y2)) := Lib.hid (by rw [List.getD_eq_getElem?_getD, List.getElem?_eq_getElem hi1', Option.getD_some, ← hy])
                simp only at p1 p2
                have P1 : ∀ V, Grows w2 V → V.cell? (ad.add ((i - 1) * 2)) = some (.int .i64 y1) := fun V hV => cell_up p1 hV
                have P2 : ∀ V, Grows w2 V → V.cell? ⟨(ad.add ((i - 1) * 2)).block, (ad.add ((i - 1) * 2)).off + 1, none⟩ = some (.int .i64 y2) := fun V hV => cell_up p2 hV
                have hiI : (0 : Int) < (i : Int) := by omega
                have hw2 : IntKind.i64.wrap ((i : Int) - 1) = (i : Int) - 1 := IntWalk.i64_in _ (by omega)
                have hi3 : (i : Int) - 1 < (n : Int) := by omega
                have hi4 : (1 : Int) ≤ (i : Int) := by omega
                have hi5 : ((i : Int) - 1).toNat = i - 1 := by omega
                have HC2 := Lib.hid (fun V => rbefore_any y1 y2 (nd : Int) x2 V)
                obtain ⟨b, hb⟩ : ∃ b, b = D.bef (y1, y2) ((nd : Int), x2) := ⟨_, rfl⟩
                rw [← hb] at HC2
                have HBE := Lib.hid hb
                clear hb hy p1 p2 hrd
                go_wp2_with fail
                rw [HW2.out]
                refine wp_fam (n := 29) (size := 61) (D := [31, 32, 33, 34, 35, 36, 37, 38, 39, 40, 41, 42, 43, 44, 45, 46, 47, 48, 49, 50, 51, 52, 53, 54, 55, 56, 57, 58, 59]) [(31, isV (.agg #[.int .i64 nd, .int .i64 x2])), (32, isV (.bool true)), (33, isV (.bool false)), (34, isV (.bool false)), (35, isV (.pointer (some ⟨wr.heap.size, 1, none⟩))), (36, isV (.int .i64 x2)), (37, isV (.pointer (some ⟨wr.heap.size, 0, none⟩))), (38, isV (.int .i64 nd)), (39, isV (.pointer (some ⟨w.heap.size, 0, none⟩))), (40, isV (.pointer (some ⟨w.heap.size, nd, none⟩))), (41, isV (.int .i64 (U nd))), (42, isV (.int .i64 (U nd + 1))), (43, isV (.bool false)), (44, isV (.bool false)), (45, isV (.bool false)), (46, isV (.int .i64 i)), (47, isV (.bool true)), (48, isV (.bool true)), (49, isV (.pointer (some ⟨w.heap.size, 8, none⟩))), (50, isV (.slice (some ad) n c)), (51, isV (.int .i64 i)), (52, isV (.int .i64 ((i : Int) - 1))), (53, isV (.pointer (some (ad.add ((i - 1) * 2))))), (54, isV (.agg #[.int .i64 y1, .int .i64 y2])), (55, isV (.agg #[.int .i64 nd, .int .i64 x2])), (56, isV (.bool b)), (57, isV (.bool (!b))), (58, isV (.bool (!b))), (59, isV (.bool (!b)))] (by kernel_rfl) (by rfl) (by kernel_rfl) ?_ ?_
                · simp only [List.take_succ_cons, List.take_zero, famAll]
                  repeat' apply And.intro
                  all_goals first
                    | trivial
                    | (intro f V hg hl
                       have k0 := K0 V hg
                       have k1 := K1 V hg
                       have ku := KU V hg
                       have k8 := K8 V hg
                       have p1 := P1 V hg
                       have p2 := P2 V hg
                       simp [Oper.looksAt, Op.operands, Call.operands, famAt, famOf, isV] at hl
                       simp [famWants, boolIs_bool, boolIs_undef, execOp, rho, go_sem, hl, k0, k1, ku, k8, p1, p2,  famUpon, famOf, isV, Grows.refl, hw1, hndI, hup, hiI, hi0, hw2, hi3, hi4, hi5]
                       try first | exact HC.out V | exact HC2.out V)
                · intro u W hg hu
                  have h59 : u 59 = .bool (!b) := hu 59 (by decide)
                  simp only [List.drop_succ_cons, List.drop_zero, fill, Act.put, List.setIfInBounds_toArray, List.set_cons_zero, List.set_cons_succ, h59]
                  refine wpList_nil ?_
                  clear hu h59
                  clear K0 K1 K8 KU P1 P2
                  cases b with
                  | false =>
                    have HF : Hid (D.rt U M = false) := Lib.hid (D.rt_more hlt' (by rw [HP.out, HY.out, ← HBE.out]; simp; omega))
                    go_wp2
                    go_ret
                    exact ⟨ret_bool HF.out.symm, hball.trans (Below.mono hg hball.size)⟩
                  | true =>
                    have HO' := Lib.hid (HO.out.more (by rw [HP.out, HY.out, ← HBE.out]; simp))
                    go_wp2
                    go_roundw
                    case rel => exact ⟨i + 1, by go_num, by omega, HO', hball1.trans (Below.mono hg hball1.size)⟩
                    case measure => simp [intOf]; omega
              · have HO' := Lib.hid (HO.out.more (by rw [HP.out]; simp; left; omega))
                go_wp2_with fail
                rw [HW2.out]
                refine wp_fam (n := 29) (size := 61) (D := [31, 32, 33, 34, 35, 36, 37, 38, 39, 40, 41, 42, 43, 44, 45, 46, 47, 48, 49, 50, 51, 52, 53, 54, 55, 56, 57, 58, 59]) [(31, isV (.agg #[.int .i64 nd, .int .i64 x2])), (32, isV (.bool true)), (33, isV (.bool false)), (34, isV (.bool false)), (35, isV (.pointer (some ⟨wr.heap.size, 1, none⟩))), (36, isV (.int .i64 x2)), (37, isV (.pointer (some ⟨wr.heap.size, 0, none⟩))), (38, isV (.int .i64 nd)), (39, isV (.pointer (some ⟨w.heap.size, 0, none⟩))), (40, isV (.pointer (some ⟨w.heap.size, nd, none⟩))), (41, isV (.int .i64 (U nd))), (42, isV (.int .i64 (U nd + 1))), (43, isV (.bool false)), (44, isV (.bool false)), (45, isV (.bool false)), (46, isV (.int .i64 i)), (47, isV (.bool false)), (48, isV (.bool false)), (49, isV undef), (50, isV undef), (51, isV undef), (52, isV undef), (53, isV undef), (54, isV undef), (55, isV undef), (56, isV undef), (57, isV undef), (58, isV (.bool false)), (59, isV (.bool false))] (by kernel_rfl) (by rfl) (by kernel_rfl) ?_ ?_
                · simp only [List.take_succ_cons, List.take_zero, famAll]
                  repeat' apply And.intro
                  all_goals first
                    | trivial
                    | (intro f V hg hl
                       have k0 := K0 V hg
                       have k1 := K1 V hg
                       have ku := KU V hg
                       simp [Oper.looksAt, Op.operands, Call.operands, famAt, famOf, isV] at hl
                       simp [famWants, boolIs_bool, boolIs_undef, execOp, rho, go_sem, hl, k0, k1, ku,  famUpon, famOf, isV, Grows.refl, hw1, hndI, hup, hi0]
                       try exact HC.out V)
                · intro u W hg hu
                  have h59 : u 59 = .bool false := hu 59 (by decide)
                  simp only [List.drop_succ_cons, List.drop_zero, fill, Act.put, List.setIfInBounds_toArray, List.set_cons_zero, List.set_cons_succ, h59]
                  refine wpList_nil ?_
                  clear hu h59
                  clear K0 K1 K8 KU
                  go_wp2
                  go_roundw
                  case rel => exact ⟨i + 1, by go_num, by omega, HO', hball1.trans (Below.mono hg hball1.size)⟩
                  case measure => simp [intOf]; omega
        · have HT : Hid (D.rt U M = true) := Lib.hid (D.rt_yes HU8.out (by
            have e : i = M.length := by rw [HN.out]; omega
            rw [← e]; exact HO.out))
          go_wp2
          go_ret
          exact ⟨ret_bool HT.out.symm, hb0.trans (Below.mono hb (by omega))⟩
end Go.Proofs.Ytedcgfcmhaeldaa
end

section
namespace Go.Proofs.Ytedcgfcmhaeldaa
set_option linter.unusedVariables false
set_option linter.unusedSimpArgs false
open Go.ChangeShapes Go.WideShapes Go.ChangeAt Go.RowKit

set_option maxHeartbeats 2000000 in
theorem rhas_any (S : Nat → Prop) (U : Nat → Int) (A : Option Addr) (n c : Nat) (M : List D.Dot) (a b : Int) (w : World) (hn : M.length = n) (hr : Rds w S A (dvs M)) (hl : n ≤ 1000000) :
    Calls Try.prog 70 #[sv U A n c, .agg #[.int .i64 a, .int .i64 b]] w fun e w' => e = .returned (.bool (D.has U M (a, b))) ∧ Below w.heap.size w w' := by
  have HN := Lib.hid hn
  clear hn
  obtain ⟨w1, hw1⟩ : ∃ W, (w.alloc (.cells (scs U A n c) 51)).alloc (.cells #[.int .i64 a, .int .i64 b] 39) = W := ⟨_, rfl⟩
  have hb1 : Below w.heap.size w w1 := by rw [← hw1]; exact b_alloc2 _ _ _
  have hSt : Blo w1 w.heap.size 51 (scs U A n c) := by rw [← hw1]; exact (Blo.made _ _ _).alloc _
  have hDt : Blo w1 (w.heap.size + 1) 39 #[.int .i64 a, .int .i64 b] := by
    rw [← hw1]
    have := Blo.made (w.alloc (.cells (scs U A n c) 51)) 39 #[.int .i64 a, .int .i64 b]
    simpa using this
  have HW := Lib.hid hw1
  have hrw := hr.new hb1
  have hR := rright_any S U A n c M w1 HN.out hrw hl
  obtain ⟨z0, z1, z2, z3, z4, z5, z6, z7, z8⟩ := set9 hSt
  clear hw1
  go_enter Try.func70, Try.ntmps70
  go_wp2_with fail
  rw [HW.out]
  go_wp2_with fail
  refine hR.mono ?_
  rintro e w2 ⟨rfl, hb2⟩
  have hSt2 := hSt.new hb2
  have hDt2 := hDt.new hb2
  have hr2 := hrw.new hb2
  have hb02 := below_new hb1 hb2
  have hM := rmay_any a b w2
  have k0 : w2.cell? ⟨w.heap.size + 1, 0, none⟩ = some (.int .i64 a) := by simpa using hDt2.cell 0
  have k1 : w2.cell? ⟨w.heap.size + 1, 1, none⟩ = some (.int .i64 b) := by simpa using hDt2.cell 1
  clear hR z0 z1 z2 z3 z4 z5 z6 z7 z8
  cases hrt : D.rt U M with
  | false =>
    have HF := Lib.hid (D.has_no (U := U) (M := M) (d := (a, b)) (.inr hrt))
    clear hrt
    go_wp2
    go_ret
    exact ⟨ret_bool HF.out.symm, hb02⟩
  | true =>
    have HT := Lib.hid hrt
    clear hrt
    cases hm : D.may (a, b) with
    | false =>
      have HF := Lib.hid (D.has_no (U := U) (M := M) (d := (a, b)) (.inl hm))
      rw [hm] at hM
      clear hm
      go_wp2_with fail
      refine hM.mono ?_
      rintro e w3 ⟨rfl, hb3⟩
      clear hM k0 k1
      go_wp2
      go_ret
      exact ⟨ret_bool HF.out.symm, below_new hb02 hb3⟩
    | true =>
      have HH := Lib.hid (D.has_yes (U := U) (M := M) hm HT.out)
      have hm' := D.may_iff.1 hm
      simp only at hm'
      rw [hm] at hM
      clear hm
      obtain ⟨nd, rfl⟩ := Int.eq_ofNat_of_zero_le hm'.1
      have hnd : nd < 8 := by omega
      have nI : (nd : Int) < 8 := by omega
      have HUn : Hid (U (((nd : Int), b) : D.Dot).1.toNat = U nd) := Lib.hid (by simp)
      go_wp2_with fail
      refine hM.mono ?_
      rintro e w3 ⟨rfl, hb3⟩
      have hSt3 := hSt2.new hb3
      have hDt3 := hDt2.new hb3
      have hr3 := hr2.new hb3
      have hb03 := below_new hb02 hb3
      clear hM k0 k1
      have k0 : w3.cell? ⟨w.heap.size + 1, 0, none⟩ = some (.int .i64 nd) := by simpa using hDt3.cell 0
      have k1 : w3.cell? ⟨w.heap.size + 1, 1, none⟩ = some (.int .i64 b) := by simpa using hDt3.cell 1
      have ku : w3.cell? ⟨w.heap.size, nd, none⟩ = some (.int .i64 (U nd)) := (hSt3.cell nd).trans (scs_at U _ _ _ hnd)
      by_cases hup : b ≤ U nd
      · have HTr : Hid (D.has U M ((nd : Int), b) = true) := Lib.hid (by rw [HH.out, HUn.out]; simp [hup])
        go_wp2_with fail
        go_quiet (fail)
        clear k0 k1 ku
        go_wp2
        go_ret
        exact ⟨ret_bool HTr.out.symm, below_drewN hb03 _⟩
      · have HTr : Hid (D.has U M ((nd : Int), b) = M.contains ((nd : Int), b)) := Lib.hid (by rw [HH.out, HUn.out]; simp [hup])
        go_wp2_with fail
        go_quiet (fail)
        obtain ⟨w4, hd, hw4⟩ : ∃ W, Drew w3 W ∧ w3.drewN nq = W := ⟨_, ⟨nq, rfl⟩, rfl⟩
        rw [hw4]
        clear k0 k1 ku hw4
        have hSt4 := hd.blo hSt3
        have hDt4 := hd.blo hDt3
        have hr4 := hd.rds hr3
        have hb04 : Below w.heap.size w w4 := hb03.trans (hd.below _)
        have k8 : w4.cell? ⟨w.heap.size, 8, none⟩ = some (.slice A n c) := by simpa using hSt4.cell 8
        go_wp2
        go_loopw [26] (fun iv wr => ∃ i : Nat, iv = .int .i64 i ∧ i ≤ n ∧ Hid (¬ ((nd : Int), b) ∈ M.take i) ∧ Below w4.heap.size w4 wr) (fun iv _ => n - (intOf iv).toNat)
        case atStart => exact ⟨0, rfl, Nat.zero_le _, Lib.hid (by simp), Below.refl _ _⟩
        case round =>
          obtain ⟨i, rfl, hi, HJ, hb⟩ := hrel
          have hbs := hb.size
          have hb04s := hb04.size
          by_cases hlt : i < n
          · have hlt' : i < M.length := by rw [HN.out]; exact hlt
            obtain ⟨ad, rfl, _, c1, c2⟩ := (hr4.new hb).dot hlt'
            obtain ⟨x, hx⟩ : ∃ x, x = M[i] := ⟨_, rfl⟩
            rw [← hx] at c1 c2
            obtain ⟨x1, x2⟩ := x
            have HX := Lib.hid hx
            clear hx
            simp only at c1 c2
            have hDtr := hDt4.new hb
            have k0 : wr.cell? ⟨w.heap.size + 1, 0, none⟩ = some (.int .i64 nd) := by simpa using hDtr.cell 0
            have k1 : wr.cell? ⟨w.heap.size + 1, 1, none⟩ = some (.int .i64 b) := by simpa using hDtr.cell 1
            have hdl := hDtr.lt
            have q1 := fun W => eql_dot x1 x2 (nd : Int) b W
            have q2 := Try.guardDot
            by_cases heq : x1 = (nd : Int) ∧ x2 = b
            · have hbb : (x1 == (nd : Int) && x2 == b) = true := by simp [heq]
              rw [hbb] at q1
              have hmem : ((nd : Int), b) ∈ M := by rw [← heq.1, ← heq.2, HX.out]; exact List.getElem_mem hlt'
              have HC : Hid (D.has U M ((nd : Int), b) = true) := Lib.hid (by rw [HTr.out]; simp [hmem])
              clear hbb hmem
              go_wp2
              go_ret
              exact ⟨ret_bool HC.out.symm, hb04.trans ((hb.mono hb04s).alloc (by omega) _)⟩
            · have hbb : (x1 == (nd : Int) && x2 == b) = false := by simpa using heq
              rw [hbb] at q1
              have HJ' := Lib.hid (not_yet hlt' HJ.out (by rw [← HX.out]; intro e; injection e with e1 e2; exact heq ⟨e1, e2⟩))
              clear hbb
              go_wp2
              go_roundw
              case rel => exact ⟨i + 1, by go_num, by omega, HJ', hb.alloc hb.size _⟩
              case measure => simp [intOf]; omega
          · have hmem : ¬ ((nd : Int), b) ∈ M := by have := HJ.out; rwa [List.take_of_length_le (by rw [HN.out]; omega)] at this
            have HC : Hid (D.has U M ((nd : Int), b) = false) := Lib.hid (by rw [HTr.out]; simp [hmem])
            clear hmem
            go_wp2
            go_ret
            exact ⟨ret_bool HC.out.symm, hb04.trans (hb.mono hb04s)⟩
end Go.Proofs.Ytedcgfcmhaeldaa
end

section
namespace Go.Proofs.Ytedcgfcmhaeldaa
set_option linter.unusedVariables false
set_option linter.unusedSimpArgs false
open Go.ChangeShapes Go.WideShapes Go.ChangeAt Go.RowKit

set_option maxHeartbeats 2000000 in
theorem rlist_any (S : Nat → Prop) (U : Nat → Int) (A : Option Addr) (n c : Nat) (M : List D.Dot) (w : World) (hn : M.length = n) (hr : Rds w S A (dvs M)) (hl : n ≤ 1000000) :
    Calls Try.prog 51 #[sv U A n c] w (DotsPost (D.lst (D.has U M)) w) := by
  obtain ⟨T, hT⟩ : ∃ T, D.has U M = T := ⟨_, rfl⟩
  have HT := Lib.hid hT
  have HN := Lib.hid hn
  rw [hT]
  obtain ⟨w1, hw1⟩ : ∃ W, w.alloc (.cells (scs U A n c) 51) = W := ⟨_, rfl⟩
  have hb1 : Below w.heap.size w w1 := by rw [← hw1]; exact b_alloc _ _
  have hz1 : w1.heap.size = w.heap.size + 1 := by rw [← hw1]; simp
  have hSt : Blo w1 w.heap.size 51 (scs U A n c) := by rw [← hw1]; exact Blo.made _ _ _
  have hr1 := hr.new hb1
  obtain ⟨k7, hk7⟩ : ∃ k, k = 768 := ⟨_, rfl⟩
  have HK := Lib.hid hk7
  unfold D.lst
  rw [← hk7]
  have HW := Lib.hid hw1
  clear hw1 hT hn hk7 hr
  go_enter Try.func51, Try.ntmps51
  go_wp2_with fail
  rw [HW.out]
  go_loopw [3, 4] (fun ov nv wr => ∃ k : Nat, nv = .int .i64 k ∧ k ≤ 8 ∧ DRow wr w1.heap.size ov (D.pre T (k * 96)) ∧ Below w1.heap.size w1 wr) (fun _ nv _ => 8 - (intOf nv).toNat)
  case atStart => exact ⟨0, rfl, by omega, DRow.nil _ _, Below.refl _ _⟩
  case round =>
    obtain ⟨k, rfl, hk, hR, hb⟩ := hrel
    by_cases hk8 : k < 8
    · have hkd : decide ((k : Int) < 8) = true := by simp; omega
      go_wp2
      go_loopw [3, 5] (fun ov qv wr => ∃ i : Nat, qv = .int .i64 ((i : Int) + 1) ∧ i ≤ 96 ∧ DRow wr w1.heap.size ov (D.pre T (k * 96 + i)) ∧ Below w1.heap.size w1 wr) (fun _ qv _ => 97 - (intOf qv).toNat)
      case atStart => exact ⟨0, rfl, by omega, hR, hb⟩
      case round =>
        obtain ⟨i, rfl, hi, hR, hb⟩ := hrel
        have hbs := hb.size
        by_cases hi96 : i < 96
        · have hi1 : (i : Int) + 1 ≤ 96 := by omega
          obtain ⟨w2, hw2⟩ : ∃ W, wr.alloc (.cells #[.int .i64 k, .int .i64 ((i : Int) + 1)] 39) = W := ⟨_, rfl⟩
          have hb2 : Below wr.heap.size wr w2 := by rw [← hw2]; exact b_alloc _ _
          have hD2 : Blo w2 wr.heap.size 39 #[.int .i64 k, .int .i64 ((i : Int) + 1)] := by rw [← hw2]; exact Blo.made _ _ _
          have hSt2 := (hSt.new hb).new hb2
          obtain ⟨z0, z1, z2, z3, z4, z5, z6, z7, z8⟩ := set9 (hSt.new hb)
          have hgl := (hSt.new hb).lt
          have k0 : w2.cell? ⟨wr.heap.size, 0, none⟩ = some (.int .i64 k) := by simpa using hD2.cell 0
          have k1 : w2.cell? ⟨wr.heap.size, 1, none⟩ = some (.int .i64 ((i : Int) + 1)) := by simpa using hD2.cell 1
          have hH := rhas_any S U A n c M (k : Int) ((i : Int) + 1) w2 HN.out ((hr1.new hb).new hb2) hl
          rw [HT.out] at hH
          have hR2 := hR.new hb2
          have hb02 := below_new hb hb2
          have HW2 := Lib.hid hw2
          clear hw2 hR
          cases hTv : T ((k : Int), (i : Int) + 1) with
          | false =>
            rw [hTv] at hH
            have HE : Hid (D.pre T (k * 96 + i + 1) = D.pre T (k * 96 + i)) := Lib.hid (D.pre_no (by rw [D.dt_at k i hi96]; exact hTv))
            clear hTv
            go_wp2_with fail
            rw [HW2.out]
            refine hH.mono ?_
            rintro e w3 ⟨rfl, hb3⟩
            have hR3 := hR2.new hb3
            have hb03 := below_new hb02 hb3
            clear hH z0 z1 z2 z3 z4 z5 z6 z7 z8 k0 k1
            go_wp2
            go_roundw
            case rel => exact ⟨i + 1, by go_num, by omega, by rw [← Nat.add_assoc, HE.out]; exact hR3, hb03⟩
            case measure => simp [intOf]; omega
          | true =>
            rw [hTv] at hH
            have HE : Hid (D.pre T (k * 96 + i + 1) = D.pre T (k * 96 + i) ++ [((k : Int), (i : Int) + 1)]) := Lib.hid (by rw [D.pre_yes (by rw [D.dt_at k i hi96]; exact hTv), D.dt_at k i hi96])
            have hlen := D.pre_len T (k * 96 + i)
            clear hTv
            go_wp2_with fail
            rw [HW2.out]
            refine hH.mono ?_
            rintro e w3 ⟨rfl, hb3⟩
            have hR3 := hR2.new hb3
            have hD3 := hD2.new hb3
            have hb03 := below_new hb02 hb3
            have hs3 := hb03.size
            clear hH z0 z1 z2 z3 z4 z5 z6 z7 z8 k0 k1
            have k0 : w3.cell? ⟨wr.heap.size, 0, none⟩ = some (.int .i64 k) := by simpa using hD3.cell 0
            have k1 : w3.cell? ⟨wr.heap.size, 1, none⟩ = some (.int .i64 ((i : Int) + 1)) := by simpa using hD3.cell 1
            obtain ⟨Mq, hMq⟩ : ∃ V, V = D.pre T (k * 96 + i) := ⟨_, rfl⟩
            rw [← hMq] at hR3 hlen HE
            clear hMq hR2
            go_wp2_with (at_builtin; refine wpList_dapp _ rfl _ _ rfl w1.heap.size _ Mq rfl (hR3.alloc _) (fun _ => True) _ 1 1 [((k : Int), (i : Int) + 1)] rfl rfl (dot_rds _ _ _ _) (by omega) (by simp; omega) ?_)
            intro v' V hown hg _
            have hbV : Below w1.heap.size w1 V := (hb03.alloc hs3 _).grown hg (by simp; omega) (fun k hk => (hR3.lt k hk).1)
            clear hg k0 k1
            go_wp2
            go_roundw
            case rel => exact ⟨i + 1, by go_num, by omega, by rw [← Nat.add_assoc, HE.out, hz1]; exact hown, hbV⟩
            case measure => simp [intOf]; omega
        · have e96 : k * 96 + i = (k + 1) * 96 := by omega
          rw [e96] at hR
          have hi1 : ¬ (i : Int) + 1 ≤ 96 := by omega
          clear e96
          go_wp2
          go_roundw
          case rel => exact ⟨k + 1, by go_num, by omega, hR, hb⟩
          case measure => simp [intOf]; omega
    · have e8 : k * 96 = k7 := by rw [HK.out]; omega
      rw [e8] at hR
      clear e8
      obtain ⟨A', c', e, _⟩ := hR.form
      generalize D.pre T k7 = Mq at *
      subst e
      go_wp2
      go_ret
      exact ⟨A', c', rfl, hR.mono (by omega), below_new hb1 hb⟩
end Go.Proofs.Ytedcgfcmhaeldaa
end

section
namespace Go.Proofs.Ytedcgfcmhaeldaa
set_option linter.unusedVariables false
set_option linter.unusedSimpArgs false
open Go.ChangeShapes Go.WideShapes Go.ChangeAt Go.RowKit

theorem D.pM_low {S : D.Dot → Bool} {n : Nat} : ∀ i : Nat, i ≤ D.gap S n → D.pM S (n * 96 + i) = D.pM S (n * 96)
  | 0, _ => rfl
  | i + 1, h => by
    have hg := D.gap_le S n
    have hi : i < 96 := by omega
    rw [← D.pM_low i (by omega)]
    show D.pM S (n * 96 + i + 1) = _
    unfold D.pM
    rw [D.pre_yes (by rw [D.dt_at n i hi]; exact D.gap_all h), D.dt_at n i hi, List.filter_append]
    have : D.far S ((n : Int), (i : Int) + 1) = false := by simp [D.far]; omega
    simp [this]
theorem D.pM_in {S : D.Dot → Bool} {n i : Nat} (hi : i < 96) (hg : D.gap S n ≤ i) (h : S ((n : Int), (i : Int) + 1) = true) : D.pM S (n * 96 + i + 1) = D.pM S (n * 96 + i) ++ [((n : Int), (i : Int) + 1)] := by
  unfold D.pM
  rw [D.pre_yes (by rw [D.dt_at n i hi]; exact h), D.dt_at n i hi, List.filter_append]
  have : D.far S ((n : Int), (i : Int) + 1) = true := by simp [D.far]; omega
  simp [this]

/-- The first k nodes' Upto. -/
def upTo (S : D.Dot → Bool) (k : Nat) : Nat → Int := fun j => if j < k then D.cU S j else 0
theorem upTo_zero (S : D.Dot → Bool) : upTo S 0 = fun _ => 0 := by funext j; simp [upTo]
theorem upTo_step (S : D.Dot → Bool) (k : Nat) : upd (upTo S k) k (D.gap S k : Int) = upTo S (k + 1) := by
  funext j
  unfold upd upTo
  by_cases h : j = k
  · subst h; simp [D.cU]
  · rw [if_neg h]
    by_cases h1 : j < k
    · rw [if_pos h1, if_pos (by omega)]
    · rw [if_neg h1, if_neg (by omega)]

/-- The document's table of dots, at block g. -/
def Tab (w : World) (g : Nat) (H : D.Dot → Bool) : Prop := ∃ cs : Array Value, Blo w g 35 cs ∧ cs.size = 784 ∧ ∀ n s : Nat, n < 8 → s < 98 → cs[n * 98 + s]? = some (.bool (H ((n : Int), (s : Int))))
theorem Tab.keep {w w' : World} {g : Nat} {H : D.Dot → Bool} (h : Tab w g H) (hk : w'.heap[g]? = w.heap[g]?) : Tab w' g H := by obtain ⟨cs, h1, h2⟩ := h; exact ⟨cs, h1.keep hk, h2⟩
theorem Tab.lt {w : World} {g : Nat} {H : D.Dot → Bool} (h : Tab w g H) : g < w.heap.size := by obtain ⟨cs, h1, h2⟩ := h; exact h1.lt
theorem Tab.new {w w' : World} {g : Nat} {H : D.Dot → Bool} (h : Tab w g H) (hb : Below w.heap.size w w') : Tab w' g H := h.keep (hb.block g h.lt)
theorem Tab.cell {w : World} {g : Nat} {H : D.Dot → Bool} (h : Tab w g H) {n s : Nat} (hn : n < 8) (hs : s < 98) : w.cell? ⟨g, n * 98 + s, none⟩ = some (.bool (H ((n : Int), (s : Int)))) ∧ w.frozen? ⟨g, n * 98 + s, none⟩ = false := by
  obtain ⟨cs, h1, _, h2⟩ := h
  exact ⟨(h1.cell _).trans (h2 n s hn hs), h1.frozen _⟩
theorem Tab.put {w : World} {g : Nat} {H H' : D.Dot → Bool} (h : Tab w g H) {n s : Nat} (hn : n < 8) (hs : s < 98) (hH : ∀ m t : Nat, m < 8 → t < 98 → H' ((m : Int), (t : Int)) = if m = n ∧ t = s then true else H ((m : Int), (t : Int))) : Tab (w.setCell ⟨g, n * 98 + s, none⟩ (.bool true)) g H' := by
  obtain ⟨cs, h1, h3, h2⟩ := h
  refine ⟨_, h1.put _ _, by simpa using h3, fun m t hm ht => ?_⟩
  rw [Array.getElem?_setIfInBounds, hH m t hm ht]
  by_cases e : m = n ∧ t = s
  · obtain ⟨rfl, rfl⟩ := e
    rw [if_pos rfl, if_pos (by omega), if_pos ⟨rfl, rfl⟩]
  · rw [if_neg (by omega), if_neg e]
    exact h2 m t hm ht
theorem Try.zeroTab : Try.zeroCells35 = Array.replicate 784 (.bool false) := by kernel_rfl

/-- The dots that may be, among the first i. -/
def seen (L : List D.Dot) (i : Nat) (d : D.Dot) : Bool := D.may d && (L.take i).contains d
theorem seen_skip {L : List D.Dot} {i : Nat} (hi : i < L.length) (h : D.may L[i] = false) : seen L (i + 1) = seen L i := by
  funext d
  unfold seen
  rw [List.take_succ_eq_append_getElem hi, Bool.eq_iff_iff]
  simp only [Bool.and_eq_true, List.contains_iff_mem, List.mem_append, List.mem_singleton]
  constructor
  · rintro ⟨h1, h2 | h2⟩
    · exact ⟨h1, h2⟩
    · rw [h2, h] at h1; cases h1
  · exact fun h => ⟨h.1, .inl h.2⟩
theorem seen_more {L : List D.Dot} {i n s : Nat} (hi : i < L.length) (h : D.may L[i] = true) (he : L[i] = ((n : Int), (s : Int))) : ∀ m t : Nat, m < 8 → t < 98 → seen L (i + 1) ((m : Int), (t : Int)) = if m = n ∧ t = s then true else seen L i ((m : Int), (t : Int)) := by
  intro m t _ _
  unfold seen
  rw [List.take_succ_eq_append_getElem hi]
  by_cases e : m = n ∧ t = s
  · obtain ⟨rfl, rfl⟩ := e
    rw [if_pos ⟨rfl, rfl⟩, he]
    rw [he] at h
    simp [h]
  · rw [if_neg e, he, Bool.eq_iff_iff]
    simp only [Bool.and_eq_true, List.contains_iff_mem, List.mem_append, List.mem_singleton]
    constructor
    · rintro ⟨h1, h2 | h2⟩
      · exact ⟨h1, h2⟩
      · simp at h2; exact absurd h2 (by omega)
    · exact fun h => ⟨h.1, .inl h.2⟩

/-- What Of gathers, at block r: rows from B on. -/
def Gat (w : World) (B r : Nat) (U : Nat → Int) (M : List D.Dot) : Prop := B ≤ r ∧ ∃ A c, Blo w r 51 (scs U A M.length c) ∧ DRow w B (.slice A M.length c) M

theorem Gat.keep {w w' : World} {B r : Nat} {U : Nat → Int} {M : List D.Dot} (h : Gat w B r U M) (hk : ∀ b, B ≤ b → b < w.heap.size → w'.heap[b]? = w.heap[b]?) : Gat w' B r U M := by
  obtain ⟨h1, A, c, h2, h3⟩ := h
  exact ⟨h1, A, c, h2.keep (hk r h1 h2.lt), h3.keep fun b hb hl => hk b (h3.lt b hb).1 hl⟩
/-- An Upto told. -/
theorem Gat.up {w : World} {B r : Nat} {U : Nat → Int} {M : List D.Dot} (h : Gat w B r U M) {k : Nat} (hk : k < 8) (x : Int) : Gat (w.setCell ⟨r, k, none⟩ (.int .i64 x)) B r (upd U k x) M := by
  obtain ⟨h1, A, c, h2, h3⟩ := h
  have hne := h3.blo h2 (by decide)
  refine ⟨h1, A, c, ?_, h3.keep fun b hb _ => Below.heap_setCell _ _ _ _ (fun e => hne (by rw [hb, e]))⟩
  have := h2.put k (.int .i64 x)
  rwa [scs_set U _ _ _ hk] at this
/-- A dot put behind More: what follows the append. -/
theorem gat_more {w W V : World} {B r : Nat} {U : Nat → Int} {M : List D.Dot} {A : Option Addr} {c : Nat} {d : D.Dot} {v' : Value} (hB : B ≤ r) (hC : Blo w r 51 (scs U A M.length c)) (hR : DRow w B (.slice A M.length c) M) (hW : Below w.heap.size w W)
    (hown : DRow V B v' (M ++ [d])) (hg : W.grownBy V (Value.slice A M.length c).ownBlock) :
    ∃ A' N' c', v' = .slice A' N' c' ∧ Hid (N' = (M ++ [d]).length) ∧ V.cell? ⟨r, 8, none⟩ = some (.slice A M.length c) ∧ V.frozen? ⟨r, 8, none⟩ = false ∧ Gat (V.setCell ⟨r, 8, none⟩ (.slice A' N' c')) B r U (M ++ [d]) ∧ Below B w (V.setCell ⟨r, 8, none⟩ (.slice A' N' c')) := by
  obtain ⟨A', c', rfl, _⟩ := hown.form
  have hne := hR.blo hC (by decide)
  have hlt := hC.lt
  have hCV : Blo V r 51 (scs U A M.length c) := (hC.new hW).grown hg (fun e => hne e.symm)
  have hneV := hown.blo hCV (by decide)
  have hbV : Below B w V := (hW.mono (by omega)).grown hg (by have := hW.size; omega) (fun k hk => (hR.lt k hk).1)
  refine ⟨A', _, c', rfl, Lib.hid rfl, by simpa using hCV.cell 8, hCV.frozen 8, ⟨hB, A', c', ?_, ?_⟩, hbV.setCell hB _⟩
  · have := hCV.put 8 (.slice A' (M ++ [d]).length c')
    rwa [scs_more] at this
  · exact hown.keep fun b hb _ => Below.heap_setCell _ _ _ _ (fun e => hneV (by rw [hb, e]))

set_option maxRecDepth 100000 in
set_option maxHeartbeats 4000000 in
theorem of_any (T : Nat → Prop) (A : Option Addr) (n c : Nat) (L : List D.Dot) (w : World) (hn : L.length = n) (hr : Rds w T A (dvs L)) (hl : n ≤ 1000000) :
    Calls Try.prog 47 #[.slice A n c] w (SetPost (D.cU fun d => L.contains d) (D.cM fun d => L.contains d) w) := by
  have HN := Lib.hid hn
  clear hn
  obtain ⟨w2, hw2⟩ : ∃ W, (w.alloc (.cells (scs (fun _ => 0) none 0 0) 51)).alloc (.cells Try.zeroCells35 35) = W := ⟨_, rfl⟩
  have hb2 : Below w.heap.size w w2 := by rw [← hw2]; exact b_alloc2 _ _ _
  have hz2 : w2.heap.size = w.heap.size + 2 := by rw [← hw2]; simp
  have hRes : Blo w2 w.heap.size 51 (scs (fun _ => 0) none 0 0) := by rw [← hw2]; exact (Blo.made _ _ _).alloc _
  have hTab : Tab w2 (w.heap.size + 1) (seen L 0) := by
    refine ⟨Try.zeroCells35, ?_, by rw [Try.zeroTab]; simp, fun m t hm ht => ?_⟩
    · rw [← hw2]
      have := Blo.made (w.alloc (.cells (scs (fun _ => 0) none 0 0) 51)) 35 Try.zeroCells35
      simpa using this
    · rw [Try.zeroTab]
      have : m * 98 + t < 784 := by omega
      simp [this, seen]
  have hr2 := hr.new hb2
  have HW := Lib.hid hw2
  clear hw2
  go_enter Try.func47, Try.ntmps47
  go_wp2_with fail
  rw [HW.out]
  go_loopw [12] (fun iv wr => ∃ i : Nat, iv = .int .i64 i ∧ i ≤ n ∧ Tab wr (w.heap.size + 1) (seen L i) ∧ w2.grownBy wr (some (w.heap.size + 1))) (fun iv _ => n - (intOf iv).toNat)
  case atStart => exact ⟨0, rfl, by omega, hTab, World.grownBy.refl _ _⟩
  case round =>
    obtain ⟨i, rfl, hi, hTb, hg⟩ := hrel
    have hgs := hg.size
    by_cases hlt : i < n
    · have hlt' : i < L.length := by rw [HN.out]; exact hlt
      obtain ⟨ad, rfl, _, c1, c2⟩ := ((hr.old.new hb2).grown hg (fun b hb _ e => by have := hb.2; injection e with e; omega)).dot hlt'
      obtain ⟨x, hx⟩ : ∃ x, x = L[i] := ⟨_, rfl⟩
      rw [← hx] at c1 c2
      obtain ⟨x1, x2⟩ := x
      have HX := Lib.hid hx
      clear hx
      simp only at c1 c2
      obtain ⟨w3, hw3⟩ : ∃ W, wr.alloc (.cells #[.int .i64 x1, .int .i64 x2] 39) = W := ⟨_, rfl⟩
      have hb3 : Below wr.heap.size wr w3 := by rw [← hw3]; exact b_alloc _ _
      have hD3 : Blo w3 wr.heap.size 39 #[.int .i64 x1, .int .i64 x2] := by rw [← hw3]; exact Blo.made _ _ _
      have hM := rmay_any x1 x2 w3
      have k0 : w3.cell? ⟨wr.heap.size, 0, none⟩ = some (.int .i64 x1) := by simpa using hD3.cell 0
      have k1 : w3.cell? ⟨wr.heap.size, 1, none⟩ = some (.int .i64 x2) := by simpa using hD3.cell 1
      have hTb3 := hTb.new hb3
      have hg3 : w2.grownBy w3 (some (w.heap.size + 1)) := gb_trans hg (gb_below hb3 _)
      have HW3 := Lib.hid hw3
      clear hw3
      cases hm : D.may (x1, x2) with
      | false =>
        rw [hm] at hM
        have HS := Lib.hid (seen_skip hlt' (by rw [← HX.out]; exact hm))
        clear hm
        go_wp2_with fail
        rw [HW3.out]
        go_wp2_with fail
        refine hM.mono ?_
        rintro e w4 ⟨rfl, hb4⟩
        clear hM k0 k1
        go_wp2
        go_roundw
        case rel => exact ⟨i + 1, by go_num, by omega, by rw [HS.out]; exact hTb3.new hb4, gb_trans hg3 (gb_below hb4 _)⟩
        case measure => simp [intOf]; omega
      | true =>
        rw [hm] at hM
        have hm' := D.may_iff.1 hm
        simp only at hm'
        obtain ⟨nd, rfl⟩ := Int.eq_ofNat_of_zero_le hm'.1
        obtain ⟨sq, rfl⟩ := Int.eq_ofNat_of_zero_le (show 0 ≤ x2 by omega)
        have HS := Lib.hid (seen_more hlt' (by rw [← HX.out]; exact hm) HX.out.symm)
        have hnd : nd < 8 := by omega
        have hsq : sq < 98 := by omega
        have nI : (nd : Int) < 8 := by omega
        have sI : (sq : Int) < 98 := by omega
        clear hm
        go_wp2_with fail
        rw [HW3.out]
        go_wp2_with fail
        refine hM.mono ?_
        rintro e w4 ⟨rfl, hb4⟩
        have hD4 := hD3.new hb4
        have hTb4 := hTb3.new hb4
        clear hM k0 k1
        have K0 : ∀ W, Grows w4 W → W.cell? ⟨wr.heap.size, 0, none⟩ = some (.int .i64 nd) := fun W hW => by simpa using (hD4.new hW).cell 0
        have K1 : ∀ W, Grows w4 W → W.cell? ⟨wr.heap.size, 1, none⟩ = some (.int .i64 sq) := fun W hW => by simpa using (hD4.new hW).cell 1
        go_wp2_with fail
        refine wp_fam (n := 6) (size := 61) (D := [18, 19, 20, 21, 22, 23]) [(18, isV (.pointer (some ⟨wr.heap.size, 0, none⟩))), (19, isV (.int .i64 nd)), (20, isV (.pointer (some ⟨wr.heap.size, 1, none⟩))), (21, isV (.int .i64 sq)), (22, isV (.pointer (some ⟨w.heap.size + 1, nd * 98, none⟩))), (23, isV (.pointer (some ⟨w.heap.size + 1, nd * 98 + sq, none⟩)))] (by kernel_rfl) (by rfl) (by kernel_rfl) ?_ ?_
        · simp only [List.take_succ_cons, List.take_zero, famAll]
          repeat' apply And.intro
          all_goals first
            | trivial
            | (intro f V hg hl
               have k0 := K0 V hg
               have k1 := K1 V hg
               simp [Oper.looksAt, Op.operands, Call.operands, famAt, famOf, isV] at hl
               simp [famWants, boolIs_bool, execOp, rho, go_sem, hl, k0, k1, nI, sI, famUpon, famOf, isV, Grows.refl])
        · intro u V hgV hu
          have h23 : u 23 = .pointer (some ⟨w.heap.size + 1, nd * 98 + sq, none⟩) := hu 23 (by decide)
          simp only [List.drop_succ_cons, List.drop_zero, fill, Act.put, List.setIfInBounds_toArray, List.set_cons_zero, List.set_cons_succ, h23]
          have hTb5 := hTb4.new hgV
          obtain ⟨t1, t2⟩ := hTb5.cell hnd hsq
          have hTb6 := hTb5.put hnd hsq HS.out
          have hg6 : w2.grownBy V (some (w.heap.size + 1)) := gb_trans (gb_trans hg3 (gb_below hb4 _)) (gb_below hgV _)
          clear hu h23 K0 K1
          go_wp2
          go_roundw
          case rel => exact ⟨i + 1, by go_num, by omega, hTb6, gb_set hg6 (.inl rfl) _⟩
          case measure => simp [intOf]; omega
    · obtain ⟨S, hS⟩ : ∃ S : D.Dot → Bool, S = fun d => L.contains d := ⟨_, rfl⟩
      have HT : Hid (∀ d, seen L i d = (D.may d && S d)) := Lib.hid (fun d => by rw [hS]; unfold seen; rw [List.take_of_length_le (by rw [HN.out]; omega)])
      have HUE : Hid (D.cU (fun d => L.contains d) = D.cU S) := Lib.hid (by rw [hS])
      have HME : Hid (D.cM (fun d => L.contains d) = D.cM S) := Lib.hid (by rw [hS])
      have hRes1 := hRes.grown hg (by simp)
      have hb02 : Below w.heap.size w wr := hb2.grown hg (by omega) (fun k hk => by injection hk with hk; omega)
      obtain ⟨H, hH⟩ : ∃ H, H = seen L i := ⟨_, rfl⟩
      rw [← hH] at hTb HT
      obtain ⟨r, hrr⟩ : ∃ r, r = wr.heap.size := ⟨_, rfl⟩
      obtain ⟨w3, hw3⟩ : ∃ W, wr.alloc (.cells (scs (fun _ => 0) none 0 0) 51) = W := ⟨_, rfl⟩
      have hb3 : Below wr.heap.size wr w3 := by rw [← hw3]; exact b_alloc _ _
      have hC3 : Blo w3 r 51 (scs (fun _ => 0) none 0 0) := by rw [← hw3, hrr]; exact Blo.made _ _ _
      have hz3 : w3.heap.size = r + 1 := by rw [← hw3, hrr]; simp
      have hTb3 := hTb.new hb3
      have hRes3 := hRes1.new hb3
      have hb03 := below_new hb02 hb3
      have hG3 : Gat w3 r r (upTo S 0) (D.pM S (0 * 96)) := ⟨Nat.le_refl _, none, 0, by rw [upTo_zero]; exact hC3, DRow.nil _ _⟩
      have hgr : w.heap.size + 1 < r := by have := hTb.lt; omega
      have HW3 := Lib.hid hw3
      have HR := Lib.hid hrr
      clear hw3 hS hH hRes hRes1 hTab hTb hC3 hg hr2 hr
      go_wp2_with fail
      rw [HW3.out, ← HR.out]
      clear hrr
      go_loopw [7] (fun kv wq => ∃ k : Nat, kv = .int .i64 k ∧ k ≤ 8 ∧ Gat wq r r (upTo S k) (D.pM S (k * 96)) ∧ Below r w3 wq) (fun kv _ => 8 - (intOf kv).toNat)
      case atStart => exact ⟨0, rfl, by omega, hG3, Below.refl _ _⟩
      case round =>
        obtain ⟨k, rfl, hk, hG, hb⟩ := hrel
        have hTr : Tab wr (w.heap.size + 1) H := hTb3.keep (hb.block _ hgr)
        have hbs := hb.size
        by_cases hk8 : k < 8
        · have hkd : decide ((k : Int) < 8) = true := by simp; omega
          have kI : (k : Int) < 8 := by omega
          go_wp2
          go_loop [8] (fun mv => ∃ m : Nat, mv = .int .i64 m ∧ m ≤ 96 ∧ Hid (∀ j, j < m → S ((k : Int), (j : Int) + 1) = true)) (fun mv => 97 - (intOf mv).toNat)
          case atStart => exact ⟨0, rfl, by omega, Lib.hid (fun j hj => by omega)⟩
          case round =>
            obtain ⟨m, rfl, hm, HJ⟩ := hrel
            have hcell := (hTr.cell hk8 (show m + 1 < 98 by omega)).1
            have hm1 : ((m : Int) + 1) < 98 := by omega
            have hm2 : ((m : Int) + 1).toNat = m + 1 := by omega
            have hHv : H ((k : Int), ((m + 1 : Nat) : Int)) = (D.may ((k : Int), (m : Int) + 1) && S ((k : Int), (m : Int) + 1)) := by rw [HT.out]; simp
            rw [hHv] at hcell
            clear hHv
            by_cases hgo : m < 96 ∧ S ((k : Int), (m : Int) + 1) = true
            · obtain ⟨hm96, hSv⟩ := hgo
              have hmay : D.may ((k : Int), (m : Int) + 1) = true := by rw [D.may_iff]; simp; omega
              rw [hmay, Bool.true_and, hSv] at hcell
              have HJ' : Hid (∀ j, j < m + 1 → S ((k : Int), (j : Int) + 1) = true) := Lib.hid (fun j hj => by
                rcases Nat.lt_or_ge j m with h | h
                · exact HJ.out j h
                · obtain rfl : j = m := by omega
                  exact hSv)
              clear hSv hmay
              go_wp2
              go_round
              case rel => exact ⟨m + 1, by go_num, by omega, HJ'⟩
              case measure => simp [intOf]; omega
            · have hf : (D.may ((k : Int), (m : Int) + 1) && S ((k : Int), (m : Int) + 1)) = false := by
                rcases Nat.lt_or_ge m 96 with h | h
                · cases e : S ((k : Int), (m : Int) + 1) with
                  | true => exact absurd ⟨h, e⟩ hgo
                  | false => simp
                · have : D.may ((k : Int), (m : Int) + 1) = false := by
                    cases e : D.may ((k : Int), (m : Int) + 1) with
                    | false => rfl
                    | true => have := D.may_iff.1 e; simp at this; omega
                  simp [this]
              have hgap : D.gap S k = m := D.gap_is hm HJ.out (fun h => by
                cases e : S ((k : Int), (m : Int) + 1) with
                | false => rfl
                | true => exact absurd ⟨h, e⟩ hgo)
              rw [hf] at hcell
              have HG := Lib.hid hgap
              obtain ⟨hBr, A1, c1, hC1, hR1⟩ := hG
              have ku : wr.cell? ⟨r, k, none⟩ = some (.int .i64 (upTo S k k)) := (hC1.cell k).trans (scs_at _ _ _ _ hk8)
              have fu := hC1.frozen k
              have hG4 : Gat (wr.setCell ⟨r, k, none⟩ (.int .i64 (m : Int))) r r (upTo S (k + 1)) (D.pM S (k * 96 + m)) := by
                have h1 := (show Gat wr r r (upTo S k) (D.pM S (k * 96)) from ⟨hBr, A1, c1, hC1, hR1⟩).up hk8 (m : Int)
                have e1 : upd (upTo S k) k (m : Int) = upTo S (k + 1) := by rw [← hgap]; exact upTo_step S k
                have e2 : D.pM S (k * 96 + m) = D.pM S (k * 96) := D.pM_low m (by omega)
                rw [e1, ← e2] at h1
                exact h1
              have hb4 : Below r w3 (wr.setCell ⟨r, k, none⟩ (.int .i64 (m : Int))) := hb.setCell (Nat.le_refl _) _
              have hT4 : Tab (wr.setCell ⟨r, k, none⟩ (.int .i64 (m : Int))) (w.heap.size + 1) H := hTr.keep (Below.heap_setCell _ _ _ _ (by show w.heap.size + 1 ≠ r; omega))
              clear hgap hf hgo HJ hC1 hR1
              go_wp2
              clear hcell ku fu
              obtain ⟨w4, hw4⟩ : ∃ W, wr.setCell ⟨r, k, none⟩ (.int .i64 (m : Int)) = W := ⟨_, rfl⟩
              rw [hw4] at hG4 hb4 hT4 ⊢
              clear hw4 hm1 hm2
              go_loopw [9] (fun qv wq => ∃ q : Nat, qv = .int .i64 ((q : Int) + 1) ∧ m ≤ q ∧ q ≤ 96 ∧ Gat wq r r (upTo S (k + 1)) (D.pM S (k * 96 + q)) ∧ Below r w3 wq) (fun qv _ => 97 - (intOf qv).toNat)
              case atStart => exact ⟨m, rfl, by omega, by omega, hG4, hb4⟩
              case round =>
                obtain ⟨q, rfl, hmq, hq, hG, hb⟩ := hrel
                have hTq : Tab wr (w.heap.size + 1) H := hTb3.keep (hb.block _ hgr)
                have hbs := hb.size
                by_cases hq96 : q < 96
                · have hcell := (hTq.cell hk8 (show q + 1 < 98 by omega)).1
                  have hq1 : ((q : Int) + 1) < 98 := by omega
                  have hq2 : ((q : Int) + 1).toNat = q + 1 := by omega
                  have hq3 : (q : Int) + 1 ≤ 96 := by omega
                  have hHv : H ((k : Int), ((q + 1 : Nat) : Int)) = S ((k : Int), (q : Int) + 1) := by
                    rw [HT.out]
                    have : D.may ((k : Int), ((q + 1 : Nat) : Int)) = true := by rw [D.may_iff]; simp; omega
                    rw [this]; simp
                  rw [hHv] at hcell
                  clear hHv
                  cases hSv : S ((k : Int), (q : Int) + 1) with
                  | false =>
                    rw [hSv] at hcell
                    have HE := Lib.hid (D.cl_no hq96 hSv).2
                    clear hSv
                    go_wp2
                    go_roundw
                    case rel => exact ⟨q + 1, by go_num, by omega, by omega, by rw [← Nat.add_assoc, HE.out]; exact hG, hb⟩
                    case measure => simp [intOf]; omega
                  | true =>
                    rw [hSv] at hcell
                    have HE := Lib.hid (D.pM_in hq96 (by rw [HG.out]; exact hmq) hSv)
                    have hlen := D.pM_len S (k * 96 + q)
                    obtain ⟨hBr, A1, c1, hC1, hR1⟩ := hG
                    have k8 : wr.cell? ⟨r, 8, none⟩ = some (.slice A1 (D.pM S (k * 96 + q)).length c1) := by simpa using hC1.cell 8
                    obtain ⟨Mq, hMq⟩ : ∃ V, V = D.pM S (k * 96 + q) := ⟨_, rfl⟩
                    rw [← hMq] at hC1 hR1 k8 hlen HE
                    have hrl := hC1.lt
                    clear hSv hMq
                    go_wp2_with (at_builtin; refine wpList_dapp _ rfl _ _ rfl r (.slice A1 Mq.length c1) Mq rfl (hR1.alloc _) (fun _ => True) _ 1 1 [((k : Int), (q : Int) + 1)] rfl rfl (dot_rds _ _ _ _) (by omega) (by simp; omega) ?_)
                    intro v' V hown hg _
                    obtain ⟨A', N', c', rfl, HN', cg, fg, hGV, hbV⟩ := gat_more hBr hC1 hR1 (b_alloc _ _) hown hg
                    have hbV' := hb.trans hbV
                    clear hown hg k8
                    go_wp2
                    go_roundw
                    case rel => exact ⟨q + 1, by go_num, by omega, by omega, by rw [← Nat.add_assoc, HE.out]; exact hGV, hbV'⟩
                    case measure => simp [intOf]; omega
                · have e96 : k * 96 + q = (k + 1) * 96 := by omega
                  rw [e96] at hG
                  have hq3 : ¬ (q : Int) + 1 ≤ 96 := by omega
                  clear e96
                  go_wp2
                  go_roundw
                  case rel => exact ⟨k + 1, by go_num, by omega, hG, hb⟩
                  case measure => simp [intOf]; omega
        · have e8 : D.pM S (k * 96) = D.cM S := by rw [show k * 96 = 768 by omega]; exact D.pM_end S
          obtain ⟨hBr, A1, c1, hC1, hR1⟩ := hG
          rw [e8] at hC1 hR1
          have HUk : Hid (∀ j, j < 8 → upTo S k j = D.cU S j) := Lib.hid (fun j hj => by unfold upTo; rw [if_pos (by omega)])
          obtain ⟨z0, z1, z2, z3, z4, z5, z6, z7, z8⟩ := set9 hC1
          have hResq := hRes3.below hb (by omega)
          have hne := hR1.blo hResq (by decide)
          obtain ⟨Mz, HMz⟩ : ∃ V, Hid (D.cM S = V) := ⟨_, Lib.hid rfl⟩
          obtain ⟨Uz, hUz⟩ : ∃ V, V = upTo S k := ⟨_, rfl⟩
          rw [HMz.out] at hC1 hR1 z8 hne
          rw [← hUz] at hC1 z0 z1 z2 z3 z4 z5 z6 z7 HUk
          have hbw : Below w.heap.size w wr := hb03.trans (hb.mono (by omega))
          clear e8 hUz
          go_wp2_with (refine wpList_setv _ rfl 51 _ _ rfl Try.sizeRef w.heap.size _ rfl Uz A1 Mz.length c1 rfl hResq rfl ?_)
          intro w5 hR5 hg5
          have hR6 : DRow w5 r (.slice A1 Mz.length c1) Mz := hR1.grown hg5 (fun b hb e => hne (hb.trans e))
          have hb5 : Below w.heap.size w w5 := hbw.grown hg5 hbw.size (fun k hk => by injection hk with hk; omega)
          obtain ⟨y0, y1, y2, y3, y4, y5, y6, y7, y8⟩ := set9 hR5
          clear z0 z1 z2 z3 z4 z5 z6 z7 z8
          go_wp2
          refine bodyPost_ret (v := sv Uz A1 Mz.length c1) ?_ rfl ?_
          · simp [results, Try.results47, go_sem, y0, y1, y2, y3, y4, y5, y6, y7, y8]
          unfold SetPost
          rw [HUE.out, HME.out, HMz.out]
          exact ⟨A1, c1, by rw [sv_congr HUk.out], hR6.mono (by omega), hb5⟩
end Go.Proofs.Ytedcgfcmhaeldaa
end

section
namespace Go.Proofs.Ytedcgfcmhaeldaa
set_option linter.unusedVariables false
set_option linter.unusedSimpArgs false
open Go.ChangeShapes Go.WideShapes Go.ChangeAt Go.RowKit

/-- A call answers a copy of a set. -/
def CopyPost (U : Nat → Int) (M : List D.Dot) (w : World) (e : Ending) (w' : World) : Prop :=
  ∃ A c, e = .returned (sv U A M.length c) ∧ Copy w' w.heap.size A c M ∧ Below w.heap.size w w'
theorem Copy.grown {w w' : World} {B g : Nat} {A : Option Addr} {c : Nat} {l : List D.Dot} (h : Copy w B A c l) (hg : w.grownBy w' (some g)) (hB : g < B) : Copy w' B A c l :=
  ⟨h.1, h.2.imp id fun h => h.grown hg (fun b hb e => by have := (h.lt b hb).1; injection e with e; omega)⟩
/-- An empty literal; a copy of dots; of a set: in a region that draws its order. -/
def litV : StG := ⟨fun u _ => ∃ p, u = .slice (some p) 0 0, fun _ _ _ _ h => h⟩
def copyV (B n : Nat) (M : List D.Dot) : StG := ⟨fun u w => ∃ A c, u = .slice A n c ∧ Copy w B A c M, fun _ _ _ h ⟨A, c, e, k⟩ => ⟨A, c, e, k.new h⟩⟩
def copyS (U : Nat → Int) (B n : Nat) (M : List D.Dot) : StG := ⟨fun u w => ∃ A c, u = sv U A n c ∧ Copy w B A c M, fun _ _ _ h ⟨A, c, e, k⟩ => ⟨A, c, e, k.new h⟩⟩
theorem Try.sizeLaw : (Try.prog.info? 26).map (·.size) = some 9 := by kernel_rfl

set_option maxRecDepth 100000 in
set_option maxHeartbeats 2000000 in
theorem to_any (S : Nat → Prop) (U : Nat → Int) (A : Option Addr) (n c : Nat) (M : List D.Dot) (w : World) (hn : M.length = n) (hr : Rds w S A (dvs M)) (hl : n ≤ 1000000) :
    Calls Try.prog 27 #[sv U A n c] w (CopyPost U M w) := by
  obtain ⟨w1, hw1⟩ : ∃ W, (w.alloc (.cells (scs U A n c) 26)).alloc (.cells (scs (fun _ => 0) none 0 0) 53) = W := ⟨_, rfl⟩
  have hb1 : Below w.heap.size w w1 := by rw [← hw1]; exact b_alloc2 _ _ _
  have hz1 : w1.heap.size = w.heap.size + 2 := by rw [← hw1]; simp
  have hX : Blo w1 w.heap.size 26 (scs U A n c) := by rw [← hw1]; exact (Blo.made _ _ _).alloc _
  have hZ : Blo w1 (w.heap.size + 1) 53 (scs (fun _ => 0) none 0 0) := by
    rw [← hw1]
    have := Blo.made (w.alloc (.cells (scs U A n c) 26)) 53 (scs (fun _ => 0) none 0 0)
    simpa using this
  have hr1 := hr.new hb1
  have HC : Hid (∀ V, Grows w1 V → _) := Lib.hid (fun V hV => set9 (hX.new hV))
  have HA : Hid (∀ (V : World) (p : Addr), Grows w1 V → _) := Lib.hid (fun V p hV => run_dapp0 V 24 p S A n c M hn (hr1.new hV) hl)
  have HW := Lib.hid hw1
  have HN := Lib.hid hn
  clear hw1 hn
  go_enter Try.func27, Try.ntmps27
  go_wp2_with fail
  rw [HW.out]
  refine wp_fam (n := 7) (size := 10) (D := [3, 4, 5, 6, 7, 8, 9]) [(3, isV (.pointer (some ⟨w.heap.size, 0, none⟩))), (4, isV (av U)), (5, litV), (6, isV (.pointer (some ⟨w.heap.size, 8, none⟩))), (7, isV (.slice A n c)), (8, copyV w1.heap.size n M), (9, copyS U w1.heap.size n M)] (by kernel_rfl) (by rfl) (by kernel_rfl) ?_ ?_
  · simp only [List.take_succ_cons, List.take_zero, famAll]
    repeat' apply And.intro
    · intro f V hg hl
      simp [Oper.looksAt, Op.operands, Call.operands, famAt, famOf, isV] at hl
      simp [famWants, execOp, rho, go_sem, hl, famUpon, famOf, isV, Grows.refl]
    · intro f V hg hl
      obtain ⟨z0, z1, z2, z3, z4, z5, z6, z7, z8⟩ := HC.out V hg
      simp [Oper.looksAt, Op.operands, Call.operands, famAt, famOf, isV] at hl
      simp [famWants, execOp, rho, go_sem, hl, z0, z1, z2, z3, z4, z5, z6, z7, z8, famUpon, famOf, isV, Grows.refl]
    · intro f V hg hl
      simp [Oper.looksAt, Op.operands, Call.operands, famAt, famOf, isV] at hl
      simp [famWants, execOp, rho, go_sem, hl, famUpon, famOf, isV, Grows.alloc]
      exact ⟨_, rfl⟩
    · intro f V hg hl
      simp [Oper.looksAt, Op.operands, Call.operands, famAt, famOf, isV] at hl
      simp [famWants, execOp, rho, go_sem, hl, famUpon, famOf, isV, Grows.refl]
    · intro f V hg hl
      obtain ⟨z0, z1, z2, z3, z4, z5, z6, z7, z8⟩ := HC.out V hg
      simp [Oper.looksAt, Op.operands, Call.operands, famAt, famOf, isV] at hl
      simp [famWants, execOp, rho, go_sem, hl, z0, z1, z2, z3, z4, z5, z6, z7, z8, famUpon, famOf, isV, Grows.refl]
    · intro f V hg hl
      simp [Oper.looksAt, Op.operands, Call.operands, famAt, famOf, isV] at hl
      obtain ⟨⟨p, e5⟩, e7⟩ := hl
      obtain ⟨A', c', W', hrun, hcp, hb⟩ := HA.out V p hg
      refine ⟨fun _ => ?_, fun h => by cases h⟩
      simp only [execOp, resolve, invoke, builtin, Sem.run_bind, Sem.run_pure, Result.andThen_ok, List.map_toArray, List.map_cons, List.map_nil, rho, e5, e7, hrun, famUpon]
      refine ⟨hb, fun d hd => ?_⟩
      cases hd
      exact ⟨A', c', rfl, hcp.mono (Below.size hg)⟩
    · intro f V hg hl
      simp [Oper.looksAt, Op.operands, Call.operands, famAt, famOf, isV] at hl
      obtain ⟨e4, A', c', e8, hcp⟩ := hl
      simp [famWants, execOp, rho, go_sem, e4, e8, famUpon, famOf, isV, Grows.refl]
      exact ⟨A', c', rfl, hcp⟩
    · trivial
  · intro u V hg hu
    obtain ⟨A', c', e9, hcp⟩ : ∃ A' c', u 9 = sv U A' n c' ∧ Copy V w1.heap.size A' c' M := hu 9 (by decide)
    simp only [List.drop_succ_cons, List.drop_zero, fill, Act.put, List.setIfInBounds_toArray, List.set_cons_zero, List.set_cons_succ, e9]
    have hZV := hZ.new hg
    have hb0V := below_new hb1 hg
    clear hu e9
    go_wp2_with (refine wpList_setv _ rfl 53 _ _ rfl Try.sizeSet (w.heap.size + 1) _ rfl U A' n c' rfl hZV rfl ?_)
    intro w5 hZ5 hg5
    have hcp5 : Copy w5 w1.heap.size A' c' M := hcp.grown hg5 (by omega)
    have hb5 : Below w.heap.size w w5 := hb0V.grown hg5 hb0V.size (fun k hk => by injection hk with hk; omega)
    obtain ⟨y0, y1, y2, y3, y4, y5, y6, y7, y8⟩ := set9 hZ5
    go_wp2
    refine bodyPost_ret (v := sv U A' n c') ?_ rfl ?_
    · simp [results, Try.results27, go_sem, y0, y1, y2, y3, y4, y5, y6, y7, y8]
    unfold CopyPost
    rw [HN.out]
    exact ⟨A', c', rfl, hcp5.mono (by omega), hb5⟩

set_option maxRecDepth 100000 in
set_option maxHeartbeats 2000000 in
theorem ref_any (S : Nat → Prop) (U : Nat → Int) (A : Option Addr) (n c : Nat) (M : List D.Dot) (w : World) (hn : M.length = n) (hr : Rds w S A (dvs M)) (hl : n ≤ 1000000) :
    Calls Try.prog 29 #[sv U A n c] w (CopyPost U M w) := by
  obtain ⟨w1, hw1⟩ : ∃ W, (w.alloc (.cells (scs U A n c) 26)).alloc (.cells (scs (fun _ => 0) none 0 0) 51) = W := ⟨_, rfl⟩
  have hb1 : Below w.heap.size w w1 := by rw [← hw1]; exact b_alloc2 _ _ _
  have hz1 : w1.heap.size = w.heap.size + 2 := by rw [← hw1]; simp
  have hX : Blo w1 w.heap.size 26 (scs U A n c) := by rw [← hw1]; exact (Blo.made _ _ _).alloc _
  have hZ : Blo w1 (w.heap.size + 1) 51 (scs (fun _ => 0) none 0 0) := by
    rw [← hw1]
    have := Blo.made (w.alloc (.cells (scs U A n c) 26)) 51 (scs (fun _ => 0) none 0 0)
    simpa using this
  have hr1 := hr.new hb1
  have HC : Hid (∀ V, Grows w1 V → _) := Lib.hid (fun V hV => set9 (hX.new hV))
  have HA : Hid (∀ (V : World) (p : Addr), Grows w1 V → _) := Lib.hid (fun V p hV => run_dapp0 V 24 p S A n c M hn (hr1.new hV) hl)
  have HW := Lib.hid hw1
  have HN := Lib.hid hn
  clear hw1 hn
  go_enter Try.func29, Try.ntmps29
  go_wp2_with fail
  rw [HW.out]
  refine wp_fam (n := 7) (size := 10) (D := [3, 4, 5, 6, 7, 8, 9]) [(3, isV (.pointer (some ⟨w.heap.size, 0, none⟩))), (4, isV (av U)), (5, litV), (6, isV (.pointer (some ⟨w.heap.size, 8, none⟩))), (7, isV (.slice A n c)), (8, copyV w1.heap.size n M), (9, copyS U w1.heap.size n M)] (by kernel_rfl) (by rfl) (by kernel_rfl) ?_ ?_
  · simp only [List.take_succ_cons, List.take_zero, famAll]
    repeat' apply And.intro
    · intro f V hg hl
      simp [Oper.looksAt, Op.operands, Call.operands, famAt, famOf, isV] at hl
      simp [famWants, execOp, rho, go_sem, hl, famUpon, famOf, isV, Grows.refl]
    · intro f V hg hl
      obtain ⟨z0, z1, z2, z3, z4, z5, z6, z7, z8⟩ := HC.out V hg
      simp [Oper.looksAt, Op.operands, Call.operands, famAt, famOf, isV] at hl
      simp [famWants, execOp, rho, go_sem, hl, z0, z1, z2, z3, z4, z5, z6, z7, z8, famUpon, famOf, isV, Grows.refl]
    · intro f V hg hl
      simp [Oper.looksAt, Op.operands, Call.operands, famAt, famOf, isV] at hl
      simp [famWants, execOp, rho, go_sem, hl, famUpon, famOf, isV, Grows.alloc]
      exact ⟨_, rfl⟩
    · intro f V hg hl
      simp [Oper.looksAt, Op.operands, Call.operands, famAt, famOf, isV] at hl
      simp [famWants, execOp, rho, go_sem, hl, famUpon, famOf, isV, Grows.refl]
    · intro f V hg hl
      obtain ⟨z0, z1, z2, z3, z4, z5, z6, z7, z8⟩ := HC.out V hg
      simp [Oper.looksAt, Op.operands, Call.operands, famAt, famOf, isV] at hl
      simp [famWants, execOp, rho, go_sem, hl, z0, z1, z2, z3, z4, z5, z6, z7, z8, famUpon, famOf, isV, Grows.refl]
    · intro f V hg hl
      simp [Oper.looksAt, Op.operands, Call.operands, famAt, famOf, isV] at hl
      obtain ⟨⟨p, e5⟩, e7⟩ := hl
      obtain ⟨A', c', W', hrun, hcp, hb⟩ := HA.out V p hg
      refine ⟨fun _ => ?_, fun h => by cases h⟩
      simp only [execOp, resolve, invoke, builtin, Sem.run_bind, Sem.run_pure, Result.andThen_ok, List.map_toArray, List.map_cons, List.map_nil, rho, e5, e7, hrun, famUpon]
      refine ⟨hb, fun d hd => ?_⟩
      cases hd
      exact ⟨A', c', rfl, hcp.mono (Below.size hg)⟩
    · intro f V hg hl
      simp [Oper.looksAt, Op.operands, Call.operands, famAt, famOf, isV] at hl
      obtain ⟨e4, A', c', e8, hcp⟩ := hl
      simp [famWants, execOp, rho, go_sem, e4, e8, famUpon, famOf, isV, Grows.refl]
      exact ⟨A', c', rfl, hcp⟩
    · trivial
  · intro u V hg hu
    obtain ⟨A', c', e9, hcp⟩ : ∃ A' c', u 9 = sv U A' n c' ∧ Copy V w1.heap.size A' c' M := hu 9 (by decide)
    simp only [List.drop_succ_cons, List.drop_zero, fill, Act.put, List.setIfInBounds_toArray, List.set_cons_zero, List.set_cons_succ, e9]
    have hZV := hZ.new hg
    have hb0V := below_new hb1 hg
    clear hu e9
    go_wp2_with (refine wpList_setv _ rfl 51 _ _ rfl Try.sizeRef (w.heap.size + 1) _ rfl U A' n c' rfl hZV rfl ?_)
    intro w5 hZ5 hg5
    have hcp5 : Copy w5 w1.heap.size A' c' M := hcp.grown hg5 (by omega)
    have hb5 : Below w.heap.size w w5 := hb0V.grown hg5 hb0V.size (fun k hk => by injection hk with hk; omega)
    obtain ⟨y0, y1, y2, y3, y4, y5, y6, y7, y8⟩ := set9 hZ5
    go_wp2
    refine bodyPost_ret (v := sv U A' n c') ?_ rfl ?_
    · simp [results, Try.results29, go_sem, y0, y1, y2, y3, y4, y5, y6, y7, y8]
    unfold CopyPost
    rw [HN.out]
    exact ⟨A', c', rfl, hcp5.mono (by omega), hb5⟩

set_option maxRecDepth 100000 in
set_option maxHeartbeats 2000000 in
theorem from_any (S : Nat → Prop) (U : Nat → Int) (A : Option Addr) (n c : Nat) (M : List D.Dot) (w : World) (hn : M.length = n) (hr : Rds w S A (dvs M)) (hl : n ≤ 1000000) :
    Calls Try.prog 18 #[sv U A n c] w (CopyPost U M w) := by
  obtain ⟨w1, hw1⟩ : ∃ W, (w.alloc (.cells (scs U A n c) 53)).alloc (.cells (scs (fun _ => 0) none 0 0) 51) = W := ⟨_, rfl⟩
  have hb1 : Below w.heap.size w w1 := by rw [← hw1]; exact b_alloc2 _ _ _
  have hz1 : w1.heap.size = w.heap.size + 2 := by rw [← hw1]; simp
  have hX : Blo w1 w.heap.size 53 (scs U A n c) := by rw [← hw1]; exact (Blo.made _ _ _).alloc _
  have hZ : Blo w1 (w.heap.size + 1) 51 (scs (fun _ => 0) none 0 0) := by
    rw [← hw1]
    have := Blo.made (w.alloc (.cells (scs U A n c) 53)) 51 (scs (fun _ => 0) none 0 0)
    simpa using this
  have hr1 := hr.new hb1
  have HC : Hid (∀ V, Grows w1 V → _) := Lib.hid (fun V hV => set9 (hX.new hV))
  have HA : Hid (∀ (V : World) (p : Addr), Grows w1 V → _) := Lib.hid (fun V p hV => run_dapp0 V 24 p S A n c M hn (hr1.new hV) hl)
  have HW := Lib.hid hw1
  have HN := Lib.hid hn
  clear hw1 hn
  go_enter Try.func18, Try.ntmps18
  go_wp2_with fail
  rw [HW.out]
  refine wp_fam (n := 7) (size := 10) (D := [3, 4, 5, 6, 7, 8, 9]) [(3, isV (.pointer (some ⟨w.heap.size, 0, none⟩))), (4, isV (av U)), (5, litV), (6, isV (.pointer (some ⟨w.heap.size, 8, none⟩))), (7, isV (.slice A n c)), (8, copyV w1.heap.size n M), (9, copyS U w1.heap.size n M)] (by kernel_rfl) (by rfl) (by kernel_rfl) ?_ ?_
  · simp only [List.take_succ_cons, List.take_zero, famAll]
    repeat' apply And.intro
    · intro f V hg hl
      simp [Oper.looksAt, Op.operands, Call.operands, famAt, famOf, isV] at hl
      simp [famWants, execOp, rho, go_sem, hl, famUpon, famOf, isV, Grows.refl]
    · intro f V hg hl
      obtain ⟨z0, z1, z2, z3, z4, z5, z6, z7, z8⟩ := HC.out V hg
      simp [Oper.looksAt, Op.operands, Call.operands, famAt, famOf, isV] at hl
      simp [famWants, execOp, rho, go_sem, hl, z0, z1, z2, z3, z4, z5, z6, z7, z8, famUpon, famOf, isV, Grows.refl]
    · intro f V hg hl
      simp [Oper.looksAt, Op.operands, Call.operands, famAt, famOf, isV] at hl
      simp [famWants, execOp, rho, go_sem, hl, famUpon, famOf, isV, Grows.alloc]
      exact ⟨_, rfl⟩
    · intro f V hg hl
      simp [Oper.looksAt, Op.operands, Call.operands, famAt, famOf, isV] at hl
      simp [famWants, execOp, rho, go_sem, hl, famUpon, famOf, isV, Grows.refl]
    · intro f V hg hl
      obtain ⟨z0, z1, z2, z3, z4, z5, z6, z7, z8⟩ := HC.out V hg
      simp [Oper.looksAt, Op.operands, Call.operands, famAt, famOf, isV] at hl
      simp [famWants, execOp, rho, go_sem, hl, z0, z1, z2, z3, z4, z5, z6, z7, z8, famUpon, famOf, isV, Grows.refl]
    · intro f V hg hl
      simp [Oper.looksAt, Op.operands, Call.operands, famAt, famOf, isV] at hl
      obtain ⟨⟨p, e5⟩, e7⟩ := hl
      obtain ⟨A', c', W', hrun, hcp, hb⟩ := HA.out V p hg
      refine ⟨fun _ => ?_, fun h => by cases h⟩
      simp only [execOp, resolve, invoke, builtin, Sem.run_bind, Sem.run_pure, Result.andThen_ok, List.map_toArray, List.map_cons, List.map_nil, rho, e5, e7, hrun, famUpon]
      refine ⟨hb, fun d hd => ?_⟩
      cases hd
      exact ⟨A', c', rfl, hcp.mono (Below.size hg)⟩
    · intro f V hg hl
      simp [Oper.looksAt, Op.operands, Call.operands, famAt, famOf, isV] at hl
      obtain ⟨e4, A', c', e8, hcp⟩ := hl
      simp [famWants, execOp, rho, go_sem, e4, e8, famUpon, famOf, isV, Grows.refl]
      exact ⟨A', c', rfl, hcp⟩
    · trivial
  · intro u V hg hu
    obtain ⟨A', c', e9, hcp⟩ : ∃ A' c', u 9 = sv U A' n c' ∧ Copy V w1.heap.size A' c' M := hu 9 (by decide)
    simp only [List.drop_succ_cons, List.drop_zero, fill, Act.put, List.setIfInBounds_toArray, List.set_cons_zero, List.set_cons_succ, e9]
    have hZV := hZ.new hg
    have hb0V := below_new hb1 hg
    clear hu e9
    go_wp2_with (refine wpList_setv _ rfl 51 _ _ rfl Try.sizeRef (w.heap.size + 1) _ rfl U A' n c' rfl hZV rfl ?_)
    intro w5 hZ5 hg5
    have hcp5 : Copy w5 w1.heap.size A' c' M := hcp.grown hg5 (by omega)
    have hb5 : Below w.heap.size w w5 := hb0V.grown hg5 hb0V.size (fun k hk => by injection hk with hk; omega)
    obtain ⟨y0, y1, y2, y3, y4, y5, y6, y7, y8⟩ := set9 hZ5
    go_wp2
    refine bodyPost_ret (v := sv U A' n c') ?_ rfl ?_
    · simp [results, Try.results18, go_sem, y0, y1, y2, y3, y4, y5, y6, y7, y8]
    unfold CopyPost
    rw [HN.out]
    exact ⟨A', c', rfl, hcp5.mono (by omega), hb5⟩

end Go.Proofs.Ytedcgfcmhaeldaa
end

