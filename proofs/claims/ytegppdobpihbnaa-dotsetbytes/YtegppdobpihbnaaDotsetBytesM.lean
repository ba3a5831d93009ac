/- The walk of DotsetBytes. -/
import Derived.Test.YtegppdobpihbnaaDotLawS
import Derived.Test.YtegppdobpihbnaaDotRefPut
import Derived.Test.YtegppdobpihbnaaDotRefGet
import Derived.Test.YtegppdobpihbnaaVintEq
namespace Go.Proofs.Ytegppdobpihbnaa
set_option linter.unusedVariables false
set_option linter.unusedSimpArgs false
open Go.ChangeShapes Go.WideShapes Go.ChangeAt Go.RowKit

theorem big_1 (n : Nat) : anyBig (fun _ => n) 1 = decide (1000 < n) := by simp [anyBig]
theorem setAt_1 (w : World) (U : Nat → Int) (A : Option Addr) (n c : Nat) (t : TypeId) : SetAt (w.alloc (.cells (scs U A n c) t)) w.heap.size 0 U A n c := fun j v hv => by
  rw [show 0 * 9 + j = j by omega]
  exact ((Blo.made w t (scs U A n c)).cell j).trans hv
theorem putB_len (U : Nat → Int) (M : List D.Dot) : (D.putB U M).length ≤ 2000 := by
  unfold D.putB
  split
  · exact D.encS_len (by assumption)
  · simp

set_option maxRecDepth 100000 in
set_option maxHeartbeats 4000000 in
theorem bytes_main (U : Nat → Int) (A : Option Addr) (n c : Nat) (M : List D.Dot) (Ab : Option Addr) (Nb cb : Nat) (B : List Int) (w : World) (hS : SetIn w U A n c M) (hNb : Nb = B.length) (hNc : Nb ≤ cb) (hcb : cb ≤ maxLen) (hrb : Rds w (· < w.heap.size) Ab (u8s B)) (hBy : Byt B) :
    Calls Try.prog 5 #[sv U A n c, .slice Ab Nb cb] w fun e w' => e = .returned (.bool true) ∧ Below w.heap.size w w' := by
  obtain ⟨hn, hnc, hcm, hr⟩ := hS
  have hnm : n ≤ maxLen := by omega
  unfold maxLen at hcm hcb
  obtain ⟨i0, hi, hz0, hz1, hz2⟩ := info_parts Try.rowU8
  obtain ⟨w1, hw1⟩ : ∃ W, w.alloc (.cells (scs U A n c) 25) = W := ⟨_, rfl⟩
  have hb1 : Below w.heap.size w w1 := by rw [← hw1]; exact b_alloc _ _
  obtain ⟨g0, hg0⟩ : ∃ g, g = w.heap.size := ⟨_, rfl⟩
  have hX1 : Blo w1 g0 25 (scs U A n c) := by rw [hg0, ← hw1]; exact Blo.made _ _ _
  have hA := alive_yes w1
  have HW := Lib.hid hw1
  have HN := Lib.hid hn
  have HG0 := Lib.hid hg0
  have HNB := Lib.hid hNb
  clear hw1 hn hg0 hNb
  go_enter Try.func5, Try.ntmps5
  go_wp2_with fail
  rw [HW.out, ← HG0.out]
  refine hA.mono ?_
  rintro e w2 ⟨rfl, hb2⟩
  have hX2 := hX1.new hb2
  have hr2 := (hr.new hb1).new hb2
  have hrb2 := (hrb.new hb1).new hb2
  have hb02 := below_new hb1 hb2
  clear hA hX1 hb1 hb2 hr hrb
  obtain ⟨z0, z1, z2, z3, z4, z5, z6, z7, z8⟩ := set9 hX2
  have hG := great_any 1 w2.heap.size (fun _ => U) (fun _ => A) (fun _ => n) (fun _ => c) (w2.alloc (.cells (scs U A n c) 25)) (by omega) (fun i hi => by have e : i = 0 := (by omega); subst e; exact setAt_1 w2 U A n c _) (fun _ _ => hnm)
  rw [big_1] at hG
  clear hnm
  by_cases hbig : 1000 < n
  · have hd : decide (1000 < n) = true := by simpa using hbig
    rw [hd] at hG
    clear hd
    go_wp2_with fail
    refine hG.mono ?_
    rintro e w3 ⟨rfl, hb3⟩
    clear hG z0 z1 z2 z3 z4 z5 z6 z7 z8
    go_wp2
    go_ret
    exact ⟨rfl, below_new (below_new hb02 (b_alloc _ _)) hb3⟩
  have hd : decide (1000 < n) = false := by simpa using hbig
  rw [hd] at hG
  clear hd
  have hl : n ≤ 1000000 := by omega
  by_cases hbb : 3000 < Nb
  · have hbi : (3000 : Int) < (Nb : Int) := by omega
    go_wp2_with fail
    refine hG.mono ?_
    rintro e w3 ⟨rfl, hb3⟩
    clear hG z0 z1 z2 z3 z4 z5 z6 z7 z8
    go_wp2
    go_ret
    exact ⟨rfl, below_new (below_new hb02 (b_alloc _ _)) hb3⟩
  have hbi : ¬ (3000 : Int) < (Nb : Int) := by omega
  go_wp2_with fail
  refine hG.mono ?_
  rintro e w3 ⟨rfl, hb3⟩
  have hX3 := (hX2.alloc (.cells (scs U A n c) 25)).new hb3
  have hr3 := (hr2.alloc (.cells (scs U A n c) 25)).new hb3
  have hrb3 := (hrb2.alloc (.cells (scs U A n c) 25)).new hb3
  have hb03 := below_new (below_new hb02 (b_alloc _ _)) hb3
  clear hG z0 z1 z2 z3 z4 z5 z6 z7 z8 hX2 hr2 hb02 hb3 hrb2
  obtain ⟨z0, z1, z2, z3, z4, z5, z6, z7, z8⟩ := set9 hX3
  have hTo := to_any _ U A n c M w3 HN.out hr3 hl
  unfold CopyPost at hTo
  rw [HN.out] at hTo
  go_wp2_with fail
  clear hbb hbi hbig
  refine hTo.mono ?_
  rintro e w4 ⟨A4, c4, rfl, hC4, hb4⟩
  have hX4 := hX3.new hb4
  have hr4 := hr3.new hb4
  have hrb4 := hrb3.new hb4
  have hb04 := below_new hb03 hb4
  clear hTo z0 z1 z2 z3 z4 z5 z6 z7 z8 hX3 hr3 hrb3 hb03 hb4
  have hPu := dPut_any _ U A4 n c4 M w4 HN.out hC4.at hl
  obtain ⟨PB, hPB⟩ : ∃ x, x = D.putB U M := ⟨_, rfl⟩
  obtain ⟨PE, hPE⟩ : ∃ x, x = D.putE U M := ⟨_, rfl⟩
  have hPl : PB.length ≤ 2000 := by rw [hPB]; exact putB_len U M
  rw [← hPB, ← hPE] at hPu
  unfold BytesPost at hPu
  have HPB := Lib.hid hPB
  have HPE := Lib.hid hPE
  clear hPB hPE
  go_wp2_with fail
  refine hPu.mono ?_
  rintro e w5 ⟨A5, N5, c5, rfl, hN5, ho5, hb5⟩
  have HN5 := Lib.hid hN5
  have hX5 := hX4.new hb5
  have hr5 := hr4.new hb5
  have hrb5 := hrb4.new hb5
  have hb05 := below_new hb04 hb5
  have hrx5 := own_rds ho5
  clear hPu hX4 hr4 hrb4 hb04 hb5 hC4 hN5 ho5
  obtain ⟨z0, z1, z2, z3, z4, z5, z6, z7, z8⟩ := set9 hX5
  have hRe := ref_any _ U A n c M w5 HN.out hr5 hl
  unfold CopyPost at hRe
  rw [HN.out] at hRe
  go_wp2_with fail
  refine hRe.mono ?_
  rintro e w6 ⟨A6, c6, rfl, hC6, hb6⟩
  have hrb6 := hrb5.new hb6
  have hrx6 := hrx5.new hb6
  have hb06 := below_new hb05 hb6
  clear hRe z0 z1 z2 z3 z4 z5 z6 z7 z8 hX5 hr5 hrb5 hb05 hb6 hrx5
  have hRP := rPut_any _ U A6 n c6 M w6 HN.out hC6.at hl
  rw [← HPB.out, ← HPE.out] at hRP
  unfold BytesPost at hRP
  go_wp2_with fail
  refine hRP.mono ?_
  rintro e w7 ⟨A7, N7, c7, rfl, hN7, ho7, hb7⟩
  have HN7 := Lib.hid hN7
  have hrb7 := hrb6.new hb7
  have hrx7 := hrx6.new hb7
  have hry7 := own_rds ho7
  have hb07 := below_new hb06 hb7
  clear hRP hrb6 hrx6 hb06 hb7 hC6 hN7 ho7
  have hown0 : (w7.alloc (.cells #[] 5)).ownsRow w7.heap.size 5 1 (.slice (some ⟨w7.heap.size, 0, none⟩) 0 0) 0 [] := World.ownsRow_lit w7 #[] 0 (Nat.le_refl _) (by unfold maxLen; omega) rfl
  have hBl : B.length ≤ 3000 := by rw [← HNB.out]; omega
  go_wp2_with (at_builtin; refine wpList_app _ rfl _ _ 55 rfl w7.heap.size 5 i0 (.int .u8 0) 1 Try.underlying55 hi hz0 hz1 hz2 rfl _ _ _ rfl hown0 _ Ab Nb cb (u8s B) rfl (by rw [HNB.out]; simp) (hrb7.alloc _) (one_ints _ _) (by unfold maxLen; omega) (by omega) (by simp) ?_)
  intro v8 w8 hown8 hg8 _
  have hown8' : w8.ownsRow w7.heap.size 5 1 v8 Nb (u8s B) := by simpa using hown8
  obtain ⟨A8, c8, rfl, hc8, _⟩ := own_form hown8'
  have hb8 : Below w7.heap.size w7 w8 := (b_alloc w7 (.cells #[] 5)).grown hg8 (by simp) (fun k hk => by simp [Value.ownBlock] at hk; omega)
  have hrb8 := hrb7.new hb8
  have hrx8 := hrx7.new hb8
  have hry8 := hry7.new hb8
  have hb08 := below_new hb07 hb8
  have hGe := get_any _ A8 Nb c8 B w8 HNB.out (own_rds hown8') (by omega) hBy
  unfold GetPost at hGe
  obtain ⟨GU, hGU⟩ : ∃ x, x = D.getU B := ⟨_, rfl⟩
  obtain ⟨GM, hGM⟩ : ∃ x, x = D.getM B := ⟨_, rfl⟩
  obtain ⟨GE, hGE⟩ : ∃ x, x = D.gE B := ⟨_, rfl⟩
  have hGl : GM.length ≤ 768 := by rw [hGM]; exact D.getM_len B
  rw [← hGU, ← hGM, ← hGE] at hGe
  obtain ⟨m, hm⟩ : ∃ m, GM.length = m := ⟨_, rfl⟩
  rw [hm] at hGe hGl
  have HGU := Lib.hid hGU
  have HGM := Lib.hid hGM
  have HGE := Lib.hid hGE
  have HM := Lib.hid hm
  clear hown8 hown8' hg8 hown0 hrb7 hrx7 hry7 hb07 hb8 hGU hGM hGE hm hc8
  go_wp2_with fail
  refine hGe.mono ?_
  rintro e w9 ⟨A9, c9, rfl, hR9, hb9⟩
  obtain ⟨w10, hw10⟩ : ∃ W, w9.alloc (.cells (scs GU A9 m c9) 30) = W := ⟨_, rfl⟩
  obtain ⟨gu, hgu⟩ : ∃ g, g = w9.heap.size := ⟨_, rfl⟩
  have hb10 : Below w9.heap.size w9 w10 := by rw [← hw10]; exact b_alloc _ _
  have hU10 : Blo w10 gu 30 (scs GU A9 m c9) := by rw [← hw10, hgu]; exact Blo.made _ _ _
  have hR10 := hR9.new hb10
  have hrb10 := (hrb8.new hb9).new hb10
  have hrx10 := (hrx8.new hb9).new hb10
  have hry10 := (hry8.new hb9).new hb10
  have hb010 := below_new (below_new hb08 hb9) hb10
  have HW10 := Lib.hid hw10
  have HGU0 := Lib.hid hgu
  have hRG := rget_any _ Ab Nb cb B w10 HNB.out hNc hrb10 (by omega) hBy
  unfold GetPost at hRG
  rw [← HGU.out, ← HGM.out, ← HGE.out, HM.out] at hRG
  clear hGe hR9 hb9 hb10 hrb8 hrx8 hry8 hb08 hw10 hgu
  go_wp2_with fail
  rw [HW10.out, ← HGU0.out]
  refine hRG.mono ?_
  rintro e w11 ⟨A11, c11, rfl, hR11, hb11⟩
  obtain ⟨w12, hw12⟩ : ∃ W, w11.alloc (.cells (scs GU A11 m c11) 35) = W := ⟨_, rfl⟩
  obtain ⟨gv, hgv⟩ : ∃ g, g = w11.heap.size := ⟨_, rfl⟩
  have hb12 : Below w11.heap.size w11 w12 := by rw [← hw12]; exact b_alloc _ _
  have hV12 : Blo w12 gv 35 (scs GU A11 m c11) := by rw [← hw12, hgv]; exact Blo.made _ _ _
  have hU12 := (hU10.new hb11).new hb12
  have hRv12 := (hR11.new hb12).rdsT
  have hRu12 := ((hR10.new hb11).new hb12).rdsT
  have hrx12 := (hrx10.new hb11).new hb12
  have hry12 := (hry10.new hb11).new hb12
  have hb012 := below_new (below_new hb010 hb11) hb12
  have HW12 := Lib.hid hw12
  have HGV0 := Lib.hid hgv
  clear hRG hR11 hb11 hb12 hU10 hR10 hrx10 hry10 hrb10 hb010 hw12 hgv
  have hml : m ≤ 1000000 := by omega
  have HCU : Hid (∀ V, Grows w12 V → _) := Lib.hid (fun V hV => set9 (hU12.new hV))
  have HCV : Hid (∀ V, Grows w12 V → _) := Lib.hid (fun V hV => set9 (hV12.new hV))
  have HSB : Hid (∀ V, Grows w12 V → Calls Try.prog 32 #[.slice A5 N5 c5, .slice A7 N7 c7] V fun e w' => e = .returned (.bool true) ∧ Grows V w') := Lib.hid (fun V hV => by
    rw [HN5.out, HN7.out]
    exact (same_yes _ _ A5 A7 c5 c7 PB V (hrx12.new hV) (hry12.new hV) (by omega)).mono fun _ _ ⟨h1, h2⟩ => ⟨h1, h2.below _⟩)
  have HFr : Hid (∀ V, Grows w12 V → Calls Try.prog 20 #[sv GU A9 m c9] V fun e w' => ∃ A' c', e = .returned (sv GU A' m c') ∧ Copy w' V.heap.size A' c' GM ∧ Below V.heap.size V w') := Lib.hid (fun V hV => by
    have := from_any _ GU A9 m c9 GM V HM.out (hRu12.new hV) hml
    unfold CopyPost at this
    rw [HM.out] at this
    exact this)
  have HSa : Hid (∀ (V : World) (B1 : Option Addr) (d1 : Nat), Grows w12 V → Copy V w12.heap.size B1 d1 GM → Calls Try.prog 19 #[sv GU B1 m d1, sv GU A11 m c11] V fun e w' => e = .returned (.bool true) ∧ Grows V w') := Lib.hid (fun V B1 d1 hV h1 => rsame_yes _ _ GU B1 A11 m d1 c11 GM V HM.out h1.at (hRv12.new hV) hml)
  clear hU12 hV12 hRv12 hRu12 hrx12 hry12
  go_wp2_with fail
  rw [HW12.out, ← HGV0.out]
  refine wp_fam (n := 20) (size := 66) (D := [47, 48, 49, 50, 51, 52, 53, 54, 55, 56, 57, 58, 59, 60, 61, 62, 63, 64, 65, 4]) [(47, isV (.slice A5 N5 c5)), (48, isV (.slice A7 N7 c7)), (49, isV (.bool true)), (50, isV (.bool true)), (51, isV (.int .i64 PE)), (52, isV (.int .i64 PE)), (53, isV (.bool true)), (54, isV (.bool true)), (55, isV (.bool true)), (56, isV (sv GU A9 m c9)), (57, copyS GU w12.heap.size m GM), (58, isV (sv GU A11 m c11)), (59, isV (.bool true)), (60, isV (.bool true)), (61, isV (.bool true)), (62, isV (.int .i64 GE)), (63, isV (.int .i64 GE)), (64, isV (.bool true)), (65, isV (.bool true)), (4, isV (.bool true))] (by kernel_rfl) (by rfl) (by kernel_rfl) ?_ ?_
  · simp only [List.take_succ_cons, List.take_zero, famAll]
    repeat' apply And.intro
    · intro f V hg hl
      simp [Oper.looksAt, Op.operands, Call.operands, famAt, famOf, isV] at hl
      simp [famWants, boolIs_bool, boolIs_undef, execOp, rho, go_sem, hl, famUpon, famOf, isV, Grows.refl]
    · intro f V hg hl
      simp [Oper.looksAt, Op.operands, Call.operands, famAt, famOf, isV] at hl
      simp [famWants, boolIs_bool, boolIs_undef, execOp, rho, go_sem, hl, famUpon, famOf, isV, Grows.refl]
    · intro f V hg hl
      simp [Oper.looksAt, Op.operands, Call.operands, famAt, famOf, isV] at hl
      simp [famWants, boolIs_bool, boolIs_undef, execOp, rho, go_sem, hl, famUpon, famOf, isV, Grows.refl]
      exact HSB.out V hg
    · intro f V hg hl
      simp [Oper.looksAt, Op.operands, Call.operands, famAt, famOf, isV] at hl
      simp [famWants, boolIs_bool, boolIs_undef, execOp, rho, go_sem, hl, famUpon, famOf, isV, Grows.refl]
    · intro f V hg hl
      simp [Oper.looksAt, Op.operands, Call.operands, famAt, famOf, isV] at hl
      simp [famWants, boolIs_bool, boolIs_undef, execOp, rho, go_sem, hl, famUpon, famOf, isV, Grows.refl]
    · intro f V hg hl
      simp [Oper.looksAt, Op.operands, Call.operands, famAt, famOf, isV] at hl
      simp [famWants, boolIs_bool, boolIs_undef, execOp, rho, go_sem, hl, famUpon, famOf, isV, Grows.refl]
    · intro f V hg hl
      simp [Oper.looksAt, Op.operands, Call.operands, famAt, famOf, isV] at hl
      simp [famWants, boolIs_bool, boolIs_undef, execOp, rho, go_sem, hl, famUpon, famOf, isV, Grows.refl]
    · intro f V hg hl
      simp [Oper.looksAt, Op.operands, Call.operands, famAt, famOf, isV] at hl
      simp [famWants, boolIs_bool, boolIs_undef, execOp, rho, go_sem, hl, famUpon, famOf, isV, Grows.refl]
    · intro f V hg hl
      simp [Oper.looksAt, Op.operands, Call.operands, famAt, famOf, isV] at hl
      simp [famWants, boolIs_bool, boolIs_undef, execOp, rho, go_sem, hl, famUpon, famOf, isV, Grows.refl]
    · intro f V hg hl
      obtain ⟨z0, z1, z2, z3, z4, z5, z6, z7, z8⟩ := HCU.out V hg
      simp [Oper.looksAt, Op.operands, Call.operands, famAt, famOf, isV] at hl
      simp [famWants, boolIs_bool, boolIs_undef, execOp, rho, go_sem, hl, z0, z1, z2, z3, z4, z5, z6, z7, z8, famUpon, famOf, isV, Grows.refl]
    · intro f V hg hl
      simp [Oper.looksAt, Op.operands, Call.operands, famAt, famOf, isV] at hl
      simp [famWants, boolIs_bool, boolIs_undef, execOp, rho, go_sem, hl, famUpon, famOf, isV, Grows.refl]
      refine (HFr.out V hg).mono ?_
      rintro e w'' ⟨B, d, rfl, hc, hb⟩
      exact ⟨_, rfl, hb, B, d, rfl, hc.mono (Below.size hg)⟩
    · intro f V hg hl
      obtain ⟨z0, z1, z2, z3, z4, z5, z6, z7, z8⟩ := HCV.out V hg
      simp [Oper.looksAt, Op.operands, Call.operands, famAt, famOf, isV] at hl
      simp [famWants, boolIs_bool, boolIs_undef, execOp, rho, go_sem, hl, z0, z1, z2, z3, z4, z5, z6, z7, z8, famUpon, famOf, isV, Grows.refl]
    · intro f V hg hl
      simp [Oper.looksAt, Op.operands, Call.operands, famAt, famOf, isV] at hl
      obtain ⟨⟨B1, d1, e57, h1⟩, hl⟩ := hl
      simp [famWants, boolIs_bool, boolIs_undef, execOp, rho, go_sem, hl, e57, famUpon, famOf, isV, Grows.refl]
      exact HSa.out V B1 d1 hg h1
    · intro f V hg hl
      simp [Oper.looksAt, Op.operands, Call.operands, famAt, famOf, isV] at hl
      simp [famWants, boolIs_bool, boolIs_undef, execOp, rho, go_sem, hl, famUpon, famOf, isV, Grows.refl]
    · intro f V hg hl
      simp [Oper.looksAt, Op.operands, Call.operands, famAt, famOf, isV] at hl
      simp [famWants, boolIs_bool, boolIs_undef, execOp, rho, go_sem, hl, famUpon, famOf, isV, Grows.refl]
    · intro f V hg hl
      simp [Oper.looksAt, Op.operands, Call.operands, famAt, famOf, isV] at hl
      simp [famWants, boolIs_bool, boolIs_undef, execOp, rho, go_sem, hl, famUpon, famOf, isV, Grows.refl]
    · intro f V hg hl
      simp [Oper.looksAt, Op.operands, Call.operands, famAt, famOf, isV] at hl
      simp [famWants, boolIs_bool, boolIs_undef, execOp, rho, go_sem, hl, famUpon, famOf, isV, Grows.refl]
    · intro f V hg hl
      simp [Oper.looksAt, Op.operands, Call.operands, famAt, famOf, isV] at hl
      simp [famWants, boolIs_bool, boolIs_undef, execOp, rho, go_sem, hl, famUpon, famOf, isV, Grows.refl]
    · intro f V hg hl
      simp [Oper.looksAt, Op.operands, Call.operands, famAt, famOf, isV] at hl
      simp [famWants, boolIs_bool, boolIs_undef, execOp, rho, go_sem, hl, famUpon, famOf, isV, Grows.refl]
    · intro f V hg hl
      simp [Oper.looksAt, Op.operands, Call.operands, famAt, famOf, isV] at hl
      simp [famWants, boolIs_bool, boolIs_undef, execOp, rho, go_sem, hl, famUpon, famOf, isV, Grows.refl]
    · trivial
  · intro u V hg hu
    have h4 : u 4 = .bool true := hu 4 (by decide)
    simp only [List.drop_succ_cons, List.drop_zero, fill, Act.put, List.setIfInBounds_toArray, List.set_cons_zero, List.set_cons_succ, h4]
    refine wpList_nil ?_
    clear hu h4 HCU HCV HSB HFr HSa
    go_wp2
    go_ret
    exact ⟨rfl, below_new hb012 hg⟩
end Go.Proofs.Ytegppdobpihbnaa
