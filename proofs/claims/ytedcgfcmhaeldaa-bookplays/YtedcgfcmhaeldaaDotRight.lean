/- Layer 6: Right, the program's. -/
import Derived.Test.YtedcgfcmhaeldaaDotRowI
import Derived.Test.YtedcgfcmhaeldaaFam
import Derived.IntWalk
namespace Go.Proofs.Ytedcgfcmhaeldaa
set_option linter.unusedVariables false
set_option linter.unusedSimpArgs false
open Go.ChangeShapes Go.WideShapes Go.ChangeAt Go.RowKit

def UpTo (U : Nat → Int) (k : Nat) : Prop := ∀ j, j < k → 0 ≤ U j ∧ U j ≤ 96
def OkTo (U : Nat → Int) (M : List D.Dot) (k : Nat) : Prop := ∀ j, j < k → D.ok1 U M j = true
theorem UpTo.more {U : Nat → Int} {k : Nat} (h : UpTo U k) (h1 : 0 ≤ U k) (h2 : U k ≤ 96) : UpTo U (k + 1) := fun j hj => by
  rcases Nat.lt_or_ge j k with h3 | h3
  · exact h j h3
  · obtain rfl : j = k := by omega
    exact ⟨h1, h2⟩
theorem OkTo.more {U : Nat → Int} {M : List D.Dot} {k : Nat} (h : OkTo U M k) (h1 : D.ok1 U M k = true) : OkTo U M (k + 1) := fun j hj => by
  rcases Nat.lt_or_ge j k with h3 | h3
  · exact h j h3
  · obtain rfl : j = k := by omega
    exact h1

theorem ok1_eq {U : Nat → Int} {M : List D.Dot} {i : Nat} (hi : i < M.length) : D.ok1 U M i = (D.may M[i] && decide (U M[i].1.toNat + 1 < M[i].2) && (decide (i = 0) || D.bef (M.getD (i - 1) (0, 0)) M[i])) := by
  unfold D.ok1
  simp only [List.getD_eq_getElem?_getD, List.getElem?_eq_getElem hi, Option.getD_some]

set_option maxHeartbeats 4000000 in
theorem right_any (S : Nat → Prop) (U : Nat → Int) (A : Option Addr) (n c : Nat) (M : List D.Dot) (w : World) (hn : M.length = n) (hr : Rds w S A (dvs M)) (hl : n ≤ 1000000) :
    Calls Try.prog 62 #[sv U A n c] w fun e w' => e = .returned (.bool (D.rt U M)) ∧ Below w.heap.size w w' := by
  have HN := Lib.hid hn
  clear hn
  have hb0 := b_alloc w (.cells (scs U A n c) 53)
  have hB0 := Blo.made w 53 (scs U A n c)
  have hr0 := hr.alloc (.cells (scs U A n c) 53)
  have hz0 : (w.alloc (.cells (scs U A n c) 53)).heap.size = w.heap.size + 1 := by simp
  go_enter Try.func62, Try.ntmps62
  go_wp2_with fail
  generalize w.alloc (.cells (scs U A n c) 53) = w1 at *
  go_loop [9] (fun iv => ∃ k : Nat, iv = .int .i64 k ∧ k ≤ 8 ∧ Hid (UpTo U k)) (fun iv => 8 - (intOf iv).toNat)
  case atStart => exact ⟨0, rfl, by omega, Lib.hid (fun j hj => by omega)⟩
  case round =>
    obtain ⟨k, rfl, hk, HU⟩ := hrel
    by_cases hlt : k < 8
    · have q := fun W => av_at U hlt W
      by_cases h1 : 0 ≤ U k
      · by_cases h2 : U k ≤ 96
        · have HU' := Lib.hid (HU.out.more h1 h2)
          generalize U k = x at *
          go_wp2
          go_round
          case rel => exact ⟨k + 1, by go_num, by omega, HU'⟩
          case measure => simp [intOf]; omega
        · have HF := Lib.hid (D.rt_up (M := M) hlt (fun h => h2 h.2))
          generalize U k = x at *
          go_wp2
          go_ret
          exact ⟨ret_bool HF.out.symm, hb0⟩
      · have HF := Lib.hid (D.rt_up (M := M) hlt (fun h => h1 h.1))
        generalize U k = x at *
        go_wp2
        go_ret
        exact ⟨ret_bool HF.out.symm, hb0⟩
    · have HU8 : Hid (UpTo U 8) := Lib.hid (by have e : k = 8 := by omega
                                               rw [← e]; exact HU.out)
      have k8 : w1.cell? ⟨w.heap.size, 8, none⟩ = some (.slice A n c) := by simpa using hB0.cell 8
      clear HU
      go_wp2
      go_loopw [22] (fun iv wr => ∃ i : Nat, iv = .int .i64 i ∧ i ≤ n ∧ Hid (OkTo U M i) ∧ Below w1.heap.size w1 wr) (fun iv _ => n - (intOf iv).toNat)
      case atStart => exact ⟨0, rfl, by omega, Lib.hid (fun j hj => by omega), Below.refl _ _⟩
      case round =>
        obtain ⟨i, rfl, hi, HO, hb⟩ := hrel
        by_cases hlt : i < n
        · have hlt' : i < M.length := by rw [HN.out]; exact hlt
          obtain ⟨ad, rfl, _, c1, c2⟩ := (hr0.new hb).dot hlt'
          obtain ⟨x, hx⟩ : ∃ x, x = M[i] := ⟨_, rfl⟩
          rw [← hx] at c1 c2
          obtain ⟨x1, x2⟩ := x
          have HX := Lib.hid hx
          clear hx
          simp only at c1 c2
          have hgs := hb.size
          obtain ⟨w2, hw2⟩ : ∃ W, wr.alloc (.cells #[.int .i64 x1, .int .i64 x2] 39) = W := ⟨_, rfl⟩
          have hb2 : Below wr.heap.size wr w2 := by rw [← hw2]; exact b_alloc _ _
          have hD : Blo w2 wr.heap.size 39 #[.int .i64 x1, .int .i64 x2] := by rw [← hw2]; exact Blo.made _ _ _
          have hSt : Blo w2 w.heap.size 53 (scs U (some ad) n c) := (hB0.new hb).new hb2
          have hrd := (hr0.new hb).new hb2
          have hball : Below w.heap.size w w2 := hb0.trans ((hb.mono (by omega)).trans (hb2.mono (by omega)))
          have hball1 : Below w1.heap.size w1 w2 := hb.trans (hb2.mono hgs)
          have HW2 := Lib.hid hw2
          have K0 : ∀ W, Grows w2 W → W.cell? ⟨wr.heap.size, 0, none⟩ = some (.int .i64 x1) := fun W hW => by simpa using (hD.new hW).cell 0
          have K1 : ∀ W, Grows w2 W → W.cell? ⟨wr.heap.size, 1, none⟩ = some (.int .i64 x2) := fun W hW => by simpa using (hD.new hW).cell 1
          clear hw2 hb2 hb hB0 hr0
          cases hm : D.may (x1, x2) with
          | false =>
            have HF : Hid (D.rt U M = false) := Lib.hid (D.rt_more hlt' (by
              unfold D.ok1
              simp only [List.getD_eq_getElem?_getD, List.getElem?_eq_getElem hlt', Option.getD_some, ← HX.out, hm, Bool.false_and]))
            have hcall := fun W => maybe_any x1 x2 W
            rw [hm] at hcall
            have HC := Lib.hid hcall
            clear hcall hm hSt hrd hD
            go_wp2_with fail
            rw [HW2.out]
            refine wp_fam (n := 14) (size := 55) (D := [27, 28, 29, 30, 31, 32, 33, 34, 35, 36, 37, 38, 39, 40]) [(27, isV (.agg #[.int .i64 x1, .int .i64 x2])), (28, isV (.bool false)), (29, isV (.bool true)), (30, isV (.bool true)), (31, isV undef), (32, isV undef), (33, isV undef), (34, isV undef), (35, isV undef), (36, isV undef), (37, isV undef), (38, isV undef), (39, isV undef), (40, isV (.bool true))] (by kernel_rfl) (by rfl) (by kernel_rfl) ?_ ?_
            · simp only [List.take_succ_cons, List.take_zero, famAll]
              repeat' apply And.intro
              all_goals first
                | trivial
                | (intro f W hg hl
                   have k0 := K0 W hg
                   have k1 := K1 W hg
                   simp [Oper.looksAt, Op.operands, Call.operands, famAt, famOf, isV] at hl
                   simp [famWants, boolIs_bool, boolIs_undef, execOp, rho, go_sem, hl, k0, k1, famUpon, famOf, isV, Grows.refl]
                   try exact HC.out W)
            · intro u W hg hu
              have h40 : u 40 = .bool true := hu 40 (by decide)
              simp only [List.drop_succ_cons, List.drop_zero, fill, Act.put, List.setIfInBounds_toArray, List.set_cons_zero, List.set_cons_succ, h40]
              refine wpList_nil ?_
              clear hu h40 K0 K1
              go_wp2
              go_ret
              exact ⟨ret_bool HF.out.symm, hball.trans (Below.mono hg hball.size)⟩
          | true =>
            have hm' := D.may_iff.1 hm
            simp only at hm'
            obtain ⟨nd, rfl⟩ := Int.eq_ofNat_of_zero_le hm'.1
            have hnd : nd < 8 := by omega
            have hndI : (nd : Int) < 8 := by omega
            have hU := HU8.out nd hnd
            have KU : ∀ W, Grows w2 W → W.cell? ⟨w.heap.size, nd, none⟩ = some (.int .i64 (U nd)) := fun W hW => ((hSt.new hW).cell nd).trans (scs_at U _ _ _ hnd)
            have K8 : ∀ W, Grows w2 W → W.cell? ⟨w.heap.size, 8, none⟩ = some (.slice (some ad) n c) := fun W hW => by simpa using (hSt.new hW).cell 8
            have hcall := fun W => maybe_any (nd : Int) x2 W
            rw [hm] at hcall
            have HC := Lib.hid hcall
            have HUn : Hid (U (((nd : Int), x2) : D.Dot).1.toNat = U nd) := Lib.hid (by simp)
            have hw1 : IntKind.i64.wrap (U nd + 1) = U nd + 1 := IntWalk.i64_in _ (by omega)
            have hM : Hid (D.may ((nd : Int), x2) = true) := Lib.hid hm
            have hx2 : 1 ≤ x2 ∧ x2 ≤ 96 := ⟨hm'.2.2.1, hm'.2.2.2⟩
            clear hcall hm hD hm'
            go_wp2_with fail
            rw [HW2.out]
            refine wp_fam (n := 14) (size := 55) (D := [27, 28, 29, 30, 31, 32, 33, 34, 35, 36, 37, 38, 39, 40]) [(27, isV (.agg #[.int .i64 nd, .int .i64 x2])), (28, isV (.bool true)), (29, isV (.bool false)), (30, isV (.bool false)), (31, isV (.pointer (some ⟨wr.heap.size, 1, none⟩))), (32, isV (.int .i64 x2)), (33, isV (.pointer (some ⟨wr.heap.size, 0, none⟩))), (34, isV (.int .i64 nd)), (35, isV (.pointer (some ⟨w.heap.size, 0, none⟩))), (36, isV (.pointer (some ⟨w.heap.size, nd, none⟩))), (37, isV (.int .i64 (U nd))), (38, isV (.int .i64 (U nd + 1))), (39, isV (.bool (decide (x2 ≤ U nd + 1)))), (40, isV (.bool (decide (x2 ≤ U nd + 1))))] (by kernel_rfl) (by rfl) (by kernel_rfl) ?_ ?_
            · simp only [List.take_succ_cons, List.take_zero, famAll]
              repeat' apply And.intro
              all_goals first
                | trivial
                | (intro f W hg hl
                   have k0 := K0 W hg
                   have k1 := K1 W hg
                   have ku := KU W hg
                   simp [Oper.looksAt, Op.operands, Call.operands, famAt, famOf, isV] at hl
                   simp [famWants, boolIs_bool, boolIs_undef, execOp, rho, go_sem, hl, k0, k1, ku, famUpon, famOf, isV, Grows.refl, hw1, hndI]
                   try exact HC.out W)
            · intro u W hg hu
              have h40 : u 40 = .bool (decide (x2 ≤ U nd + 1)) := hu 40 (by decide)
              simp only [List.drop_succ_cons, List.drop_zero, fill, Act.put, List.setIfInBounds_toArray, List.set_cons_zero, List.set_cons_succ, h40]
              refine wpList_nil ?_
              clear hu h40
              have hWall : Below w.heap.size w W := hball.trans (Below.mono hg hball.size)
              have hWall1 : Below w1.heap.size w1 W := hball1.trans (Below.mono hg hball1.size)
              have L0 : ∀ V, Grows W V → V.cell? ⟨wr.heap.size, 0, none⟩ = some (.int .i64 nd) := fun V hV => K0 V (Grows.trans hg hV)
              have L1 : ∀ V, Grows W V → V.cell? ⟨wr.heap.size, 1, none⟩ = some (.int .i64 x2) := fun V hV => K1 V (Grows.trans hg hV)
              have L8 : ∀ V, Grows W V → V.cell? ⟨w.heap.size, 8, none⟩ = some (.slice (some ad) n c) := fun V hV => K8 V (Grows.trans hg hV)
              have hrW := hrd.new hg
              clear K0 K1 K8 KU hSt hrd hw1
              by_cases hup : x2 ≤ U nd + 1
              · have HF : Hid (D.rt U M = false) := Lib.hid (D.rt_more hlt' (by
                  rw [ok1_eq hlt', ← HX.out]
                  have : decide (U (((nd : Int), x2) : D.Dot).1.toNat + 1 < (((nd : Int), x2) : D.Dot).2) = false := by rw [HUn.out]; simp; omega
                  rw [this]; simp))
                clear L0 L1 L8
                go_wp2
                go_ret
                exact ⟨ret_bool HF.out.symm, hWall⟩
              · have HP : Hid (D.ok1 U M i = (decide (i = 0) || D.bef (M.getD (i - 1) (0, 0)) ((nd : Int), x2))) := Lib.hid (by
                  rw [ok1_eq hlt', ← HX.out, hM.out]
                  have : decide (U (((nd : Int), x2) : D.Dot).1.toNat + 1 < (((nd : Int), x2) : D.Dot).2) = true := by rw [HUn.out]; simp; omega
                  rw [this]; simp)
                have hupd : decide (x2 ≤ U nd + 1) = false := by simpa using hup
                by_cases hi0 : 0 < i
                · have hi1' : i - 1 < M.length := by omega
                  obtain ⟨ad', e, _, p1, p2⟩ := hrW.dot hi1'
                  injection e with e
                  subst e
                  obtain ⟨y, hy⟩ : ∃ y, y = M[i - 1] := ⟨_, rfl⟩
                  rw [← hy] at p1 p2
                  obtain ⟨y1, y2⟩ := y
                  have HY : Hid (M.getD (i - 1) (0, 0) = (y1, y2)) := Lib.hid (by rw [List.getD_eq_getElem?_getD, List.getElem?_eq_getElem hi1', Option.getD_some, ← hy])
                  simp only at p1 p2
                  have P1 : ∀ V, Grows W V → V.cell? (ad.add ((i - 1) * 2)) = some (.int .i64 y1) := fun V hV => cell_up p1 hV
                  have P2 : ∀ V, Grows W V → V.cell? ⟨(ad.add ((i - 1) * 2)).block, (ad.add ((i - 1) * 2)).off + 1, none⟩ = some (.int .i64 y2) := fun V hV => cell_up p2 hV
                  have hiI : (0 : Int) < (i : Int) := by omega
                  have hw2 : IntKind.i64.wrap ((i : Int) - 1) = (i : Int) - 1 := IntWalk.i64_in _ (by omega)
                  have hi3 : (i : Int) - 1 < (n : Int) := by omega
                  have hi4 : (1 : Int) ≤ (i : Int) := by omega
                  have hi5 : ((i : Int) - 1).toNat = i - 1 := by omega
                  have HC2 := Lib.hid (fun V => ahead_any y1 y2 (nd : Int) x2 V)
                  obtain ⟨b, hb⟩ : ∃ b, b = D.bef (y1, y2) ((nd : Int), x2) := ⟨_, rfl⟩
                  rw [← hb] at HC2
                  have HBE := Lib.hid hb
                  clear hb hy p1 p2 hrW
                  go_wp2_with fail
                  refine wp_fam (n := 13) (size := 55) (D := [41, 42, 43, 44, 45, 46, 47, 48, 49, 50, 51, 52, 53]) [(41, isV (.int .i64 i)), (42, isV (.bool true)), (43, isV (.bool true)), (44, isV (.pointer (some ⟨w.heap.size, 8, none⟩))), (45, isV (.slice (some ad) n c)), (46, isV (.int .i64 i)), (47, isV (.int .i64 ((i : Int) - 1))), (48, isV (.pointer (some (ad.add ((i - 1) * 2))))), (49, isV (.agg #[.int .i64 y1, .int .i64 y2])), (50, isV (.agg #[.int .i64 nd, .int .i64 x2])), (51, isV (.bool b)), (52, isV (.bool (!b))), (53, isV (.bool (!b)))] (by kernel_rfl) (by rfl) (by kernel_rfl) ?_ ?_
                  · simp only [List.take_succ_cons, List.take_zero, famAll]
                    repeat' apply And.intro
                    all_goals first
                      | trivial
                      | (intro f V hg hl
                         have k0 := L0 V hg
                         have k1 := L1 V hg
                         have k8 := L8 V hg
                         have p1 := P1 V hg
                         have p2 := P2 V hg
                         simp [Oper.looksAt, Op.operands, Call.operands, famAt, famOf, isV] at hl
                         simp [famWants, boolIs_bool, boolIs_undef, execOp, rho, go_sem, hl, k0, k1, k8, p1, p2, famUpon, famOf, isV, Grows.refl, hiI, hi0, hw2, hi3, hi4, hi5]
                         try exact HC2.out V)
                  · intro u V hg hu
                    have h53 : u 53 = .bool (!b) := hu 53 (by decide)
                    simp only [List.drop_succ_cons, List.drop_zero, fill, Act.put, List.setIfInBounds_toArray, List.set_cons_zero, List.set_cons_succ, h53]
                    refine wpList_nil ?_
                    clear hu h53 P1 P2 L0 L1 L8
                    cases b with
                    | false =>
                      have HF : Hid (D.rt U M = false) := Lib.hid (D.rt_more hlt' (by rw [HP.out, HY.out, ← HBE.out]; simp; omega))
                      go_wp2
                      go_ret
                      exact ⟨ret_bool HF.out.symm, hWall.trans (Below.mono hg hWall.size)⟩
                    | true =>
                      have HO' := Lib.hid (HO.out.more (by rw [HP.out, HY.out, ← HBE.out]; simp))
                      go_wp2
                      go_roundw
                      case rel => exact ⟨i + 1, by go_num, by omega, HO', hWall1.trans (Below.mono hg hWall1.size)⟩
                      case measure => simp [intOf]; omega
                · have HO' := Lib.hid (HO.out.more (by rw [HP.out]; simp; left; omega))
                  clear hrW
                  go_wp2_with fail
                  refine wp_fam (n := 13) (size := 55) (D := [41, 42, 43, 44, 45, 46, 47, 48, 49, 50, 51, 52, 53]) [(41, isV (.int .i64 i)), (42, isV (.bool false)), (43, isV (.bool false)), (44, isV undef), (45, isV undef), (46, isV undef), (47, isV undef), (48, isV undef), (49, isV undef), (50, isV undef), (51, isV undef), (52, isV undef), (53, isV (.bool false))] (by kernel_rfl) (by rfl) (by kernel_rfl) ?_ ?_
                  · simp only [List.take_succ_cons, List.take_zero, famAll]
                    repeat' apply And.intro
                    all_goals first
                      | trivial
                      | (intro f V hg hl
                         simp [Oper.looksAt, Op.operands, Call.operands, famAt, famOf, isV] at hl
                         simp [famWants, boolIs_bool, boolIs_undef, execOp, rho, go_sem, hl, famUpon, famOf, isV, Grows.refl, hi0])
                  · intro u V hg hu
                    have h53 : u 53 = .bool false := hu 53 (by decide)
                    simp only [List.drop_succ_cons, List.drop_zero, fill, Act.put, List.setIfInBounds_toArray, List.set_cons_zero, List.set_cons_succ, h53]
                    refine wpList_nil ?_
                    clear hu h53 L0 L1 L8
                    go_wp2
                    go_roundw
                    case rel => exact ⟨i + 1, by go_num, by omega, HO', hWall1.trans (Below.mono hg hWall1.size)⟩
                    case measure => simp [intOf]; omega
        · have HT : Hid (D.rt U M = true) := Lib.hid (D.rt_yes HU8.out (by
            have e : i = M.length := by rw [HN.out]; omega
            rw [← e]; exact HO.out))
          go_wp2
          go_ret
          exact ⟨ret_bool HT.out.symm, hb0.trans (Below.mono hb (by omega))⟩
end Go.Proofs.Ytedcgfcmhaeldaa
