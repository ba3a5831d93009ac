/- The walk of DotsetAsks. -/
import Derived.Test.YtegppdobpihbnaaDotLawV
import Derived.Test.YtegppdobpihbnaaFamF
namespace Go.Proofs.Ytegppdobpihbnaa
set_option linter.unusedVariables false
set_option linter.unusedSimpArgs false
open Go.ChangeShapes Go.WideShapes Go.ChangeAt Go.RowKit

theorem big_one (n : Nat) : anyBig (fun _ => n) 1 = decide (1000 < n) := by simp [anyBig]
theorem setAt_one (w : World) (U : Nat → Int) (A : Option Addr) (n c : Nat) (t : TypeId) : SetAt (w.alloc (.cells (scs U A n c) t)) w.heap.size 0 U A n c := fun j v hv => by
  rw [show 0 * 9 + j = j by omega]
  exact ((Blo.made w t (scs U A n c)).cell j).trans hv

set_option maxRecDepth 100000 in
set_option maxHeartbeats 4000000 in
theorem asks_main (U : Nat → Int) (A : Option Addr) (n c : Nat) (M : List D.Dot) (a b : Int) (w : World) (hS : SetIn w U A n c M) :
    Calls Try.prog 3 #[sv U A n c, .agg #[.int .i64 a, .int .i64 b]] w fun e w' => e = .returned (.bool true) ∧ Below w.heap.size w w' := by
  obtain ⟨hn, hnc, hcm, hr⟩ := hS
  have hnm : n ≤ maxLen := by omega
  unfold maxLen at hcm
  obtain ⟨w1, hw1⟩ : ∃ W, (w.alloc (.cells (scs U A n c) 25)).alloc (.cells #[.int .i64 a, .int .i64 b] 27) = W := ⟨_, rfl⟩
  have hb1 : Below w.heap.size w w1 := by rw [← hw1]; exact b_alloc2 _ _ _
  have hX1 : Blo w1 w.heap.size 25 (scs U A n c) := by rw [← hw1]; exact (Blo.made _ _ _).alloc _
  have hY1 : Blo w1 (w.heap.size + 1) 27 #[.int .i64 a, .int .i64 b] := by
    rw [← hw1]
    have := Blo.made (w.alloc (.cells (scs U A n c) 25)) 27 #[.int .i64 a, .int .i64 b]
    simpa using this
  have hA := alive_yes w1
  have HW := Lib.hid hw1
  have HN := Lib.hid hn
  clear hw1 hn
  go_enter Try.func3, Try.ntmps3
  go_wp2_with fail
  rw [HW.out]
  refine hA.mono ?_
  rintro e w2 ⟨rfl, hb2⟩
  have hX2 := hX1.new hb2
  have hY2 := hY1.new hb2
  have hr2 := (hr.new hb1).new hb2
  have hb02 := below_new hb1 hb2
  clear hA hX1 hY1 hb1 hb2
  obtain ⟨z0, z1, z2, z3, z4, z5, z6, z7, z8⟩ := set9 hX2
  have hG := great_any 1 w2.heap.size (fun _ => U) (fun _ => A) (fun _ => n) (fun _ => c) (w2.alloc (.cells (scs U A n c) 25)) (by omega) (fun i hi => by have e : i = 0 := (by omega); subst e; exact setAt_one w2 U A n c _) (fun _ _ => hnm)
  rw [big_one] at hG
  clear hnm
  by_cases hbig : 1000 < n
  · have hd : decide (1000 < n) = true := by simpa using hbig
    rw [hd] at hG
    clear hd
    go_wp2_with fail
    refine hG.mono ?_
    rintro e w3 ⟨rfl, hb3⟩
    clear hG z0 z1 z2 z3 z4 z5 z6 z7 z8
    go_wp2
    go_ret
    exact ⟨rfl, below_new (below_new hb02 (b_alloc _ _)) hb3⟩
  have hd : decide (1000 < n) = false := by simpa using hbig
  rw [hd] at hG
  clear hd
  have hl : n ≤ 1000000 := by omega
  go_wp2_with fail
  refine hG.mono ?_
  rintro e w3 ⟨rfl, hb3⟩
  have hX3 := (hX2.alloc (.cells (scs U A n c) 25)).new hb3
  have hY3 := (hY2.alloc (.cells (scs U A n c) 25)).new hb3
  have hr3 := (hr2.alloc (.cells (scs U A n c) 25)).new hb3
  have hb03 := below_new (below_new hb02 (b_alloc _ _)) hb3
  clear hG z0 z1 z2 z3 z4 z5 z6 z7 z8 hX2 hY2 hr2 hb02 hb3
  obtain ⟨z0, z1, z2, z3, z4, z5, z6, z7, z8⟩ := set9 hX3
  have hTo := to_any _ U A n c M w3 HN.out hr3 hl
  unfold CopyPost at hTo
  rw [HN.out] at hTo
  go_wp2_with fail
  refine hTo.mono ?_
  rintro e w4 ⟨A4, c4, rfl, hC4, hb4⟩
  obtain ⟨w5, hw5⟩ : ∃ W, w4.alloc (.cells (scs U A4 n c4) 30) = W := ⟨_, rfl⟩
  have hb5 : Below w4.heap.size w4 w5 := by rw [← hw5]; exact b_alloc _ _
  have hY4 := hY3.new hb4
  have hyl := hY4.lt
  have k0 : w4.cell? ⟨w.heap.size + 1, 0, none⟩ = some (.int .i64 a) := by simpa using hY4.cell 0
  have k1 : w4.cell? ⟨w.heap.size + 1, 1, none⟩ = some (.int .i64 b) := by simpa using hY4.cell 1
  have hI5 : Blo w5 w4.heap.size 30 (scs U A4 n c4) := by rw [← hw5]; exact Blo.made _ _ _
  have hX5 := (hX3.new hb4).new hb5
  have hY5 := (hY3.new hb4).new hb5
  have hr5 := (hr3.new hb4).new hb5
  have hC5 := hC4.new hb5
  have hb05 := below_new (below_new hb03 hb4) hb5
  have HW5 := Lib.hid hw5
  obtain ⟨gi, hgi⟩ : ∃ g, g = w4.heap.size := ⟨_, rfl⟩
  rw [← hgi] at hI5
  have HGI := Lib.hid hgi
  clear hTo z0 z1 z2 z3 z4 z5 z6 z7 z8 hX3 hY3 hr3 hb03 hw5 hC4 hb4 hb5 hgi
  have hAd := dadd_any _ U A4 n c4 M a b w5 HN.out hC5.at hl
  obtain ⟨⟨Ua, Ma, ea⟩, hra⟩ : ∃ r, r = D.add U M (a, b) := ⟨_, rfl⟩
  have HRA := Lib.hid hra
  rw [← hra] at hAd
  unfold SetPost2 at hAd
  simp only at hAd
  have hMl : Ma.length ≤ 768 := by
    have : Ma = (D.add U M (a, b)).2.1 := by rw [← hra]
    rw [this]; unfold D.add; split
    · simp
    · split
      · simp
      · exact D.cM_len _
  obtain ⟨N, hNe⟩ : ∃ N, Ma.length = N := ⟨_, rfl⟩
  rw [hNe] at hAd hMl
  have HNA := Lib.hid hNe
  clear hra hNe
  go_wp2_with fail
  rw [HW5.out, ← HGI.out]
  refine hAd.mono ?_
  rintro e w6 ⟨A6, c6, rfl, hR6, hb6⟩
  obtain ⟨w7, hw7⟩ : ∃ W, w6.alloc (.cells (scs Ua A6 N c6) 30) = W := ⟨_, rfl⟩
  have hb7 : Below w6.heap.size w6 w7 := by rw [← hw7]; exact b_alloc _ _
  have hJ7 : Blo w7 w6.heap.size 30 (scs Ua A6 N c6) := by rw [← hw7]; exact Blo.made _ _ _
  have hX7 := (hX5.new hb6).new hb7
  have hY7 := (hY5.new hb6).new hb7
  have hI7 := (hI5.new hb6).new hb7
  have hr7 := (hr5.new hb6).new hb7
  have hC7 := (hC5.new hb6).new hb7
  have hR7 := hR6.new hb7
  have hb57 := below_new hb6 hb7
  have HW7 := Lib.hid hw7
  obtain ⟨gj, hgj⟩ : ∃ g, g = w6.heap.size := ⟨_, rfl⟩
  rw [← hgj] at hJ7
  have HGJ := Lib.hid hgj
  have hs57 := hb57.size
  clear hAd k0 k1 hw7 hR6 hb6 hb7 hgj hyl hY4
  have HCX : Hid (∀ V, Grows w7 V → _) := Lib.hid (fun V hV => set9 (hX7.new hV))
  have HCY : Hid (∀ V, Grows w7 V → V.cell? ⟨w.heap.size + 1, 0, none⟩ = some (.int .i64 a) ∧ V.cell? ⟨w.heap.size + 1, 1, none⟩ = some (.int .i64 b)) := Lib.hid (fun V hV => ⟨by simpa using (hY7.new hV).cell 0, by simpa using (hY7.new hV).cell 1⟩)
  have HRef : Hid (∀ V, Grows w7 V → Calls Try.prog 13 #[sv U A n c] V fun e w' => ∃ A' c', e = .returned (sv U A' n c') ∧ Copy w' V.heap.size A' c' M ∧ Below V.heap.size V w') := Lib.hid (fun V hV => by
    have := ref_any _ U A n c M V HN.out (hr7.new hV) hl
    unfold CopyPost at this
    rw [HN.out] at this
    exact this)
  have HRA2 : Hid (∀ (V : World) (A' : Option Addr) (c' : Nat), Copy V w7.heap.size A' c' M → Calls Try.prog 12 #[sv U A' n c', .agg #[.int .i64 a, .int .i64 b]] V fun e w' => ∃ A'' c'', e = .returned (.tuple #[sv Ua A'' N c'', .int .i64 ea]) ∧ DRow w' V.heap.size (.slice A'' N c'') Ma ∧ Below V.heap.size V w') := Lib.hid (fun V A' c' hc => by
    have := radd_any _ U A' n c' M a b V HN.out hc.at hl
    rw [← HRA.out] at this
    unfold SetPost2 at this
    simp only at this
    rw [HNA.out] at this
    exact this)
  go_wp2_with fail
  rw [HW7.out, ← HGJ.out]
  refine wp_famF (n := 8) (size := 94) (D := [26, 27, 28, 29, 25, 30, 31, 8]) [6] [(26, isV (sv U A n c)), (27, copyS U w7.heap.size n M), (28, isV (.agg #[.int .i64 a, .int .i64 b])), (29, pairV Ua w7.heap.size N Ma ea), (25, pairV Ua w7.heap.size N Ma ea), (30, ownS Ua w7.heap.size N Ma), (31, isV (.int .i64 ea)), (8, ptrV w7.heap.size 35 (scs (fun _ => 0) none 0 0))] (by kernel_rfl) (by rfl) (by kernel_rfl) (fun _ _ d _ _ h => by cases d <;> exact h) ?_ ?_
  · simp only [List.take_succ_cons, List.take_zero, famAllF]
    repeat' apply And.intro
    · rw [if_neg (by decide)]
      intro f V hg hl
      obtain ⟨z0, z1, z2, z3, z4, z5, z6, z7, z8⟩ := HCX.out V hg
      simp [Oper.looksAt, Op.operands, Call.operands, famAt, famOf, isV] at hl
      simp [famWants, boolIs_bool, boolIs_undef, execOp, rho, go_sem, hl, z0, z1, z2, z3, z4, z5, z6, z7, z8, famUpon, famOf, isV, isAlloc, Grows.refl]
    · rw [if_neg (by decide)]
      intro f V hg hl
      simp [Oper.looksAt, Op.operands, Call.operands, famAt, famOf, isV] at hl
      simp [famWants, boolIs_bool, boolIs_undef, execOp, rho, go_sem, hl, famUpon, famOf, isV, isAlloc, Grows.refl]
      refine (HRef.out V hg).mono ?_
      rintro e w'' ⟨B, d, rfl, hc, hb⟩
      exact ⟨_, rfl, hb, B, d, rfl, hc.mono (Below.size hg)⟩
    · rw [if_neg (by decide)]
      intro f V hg hl
      obtain ⟨k0, k1⟩ := HCY.out V hg
      simp [Oper.looksAt, Op.operands, Call.operands, famAt, famOf, isV] at hl
      simp [famWants, boolIs_bool, boolIs_undef, execOp, rho, go_sem, hl, k0, k1, famUpon, famOf, isV, isAlloc, Grows.refl]
    · rw [if_neg (by decide)]
      intro f V hg hl
      simp [Oper.looksAt, Op.operands, Call.operands, famAt, famOf, isV] at hl
      obtain ⟨⟨A', c', e27, hc⟩, hl⟩ := hl
      simp [famWants, boolIs_bool, boolIs_undef, execOp, rho, go_sem, hl, e27, famUpon, famOf, isV, isAlloc, Grows.refl]
      refine (HRA2.out V A' c' hc).mono ?_
      rintro e w'' ⟨B, d, rfl, hR, hb⟩
      exact ⟨_, rfl, hb, B, d, rfl, hR.mono (Below.size hg)⟩
    · rw [if_neg (by decide)]
      intro f V hg hl
      simp [Oper.looksAt, Op.operands, Call.operands, famAt, famOf, isV] at hl
      obtain ⟨A', c', e29, hR⟩ := hl
      have hl := e29
      simp [famWants, boolIs_bool, boolIs_undef, execOp, rho, go_sem, hl, e29, famUpon, famOf, isV, isAlloc, Grows.refl]
      exact ⟨A', c', rfl, hR⟩
    · rw [if_neg (by decide)]
      intro f V hg hl
      simp [Oper.looksAt, Op.operands, Call.operands, famAt, famOf, isV] at hl
      obtain ⟨A', c', e25, hR⟩ := hl
      have hl := e25
      simp [famWants, boolIs_bool, boolIs_undef, execOp, rho, go_sem, hl, e25, famUpon, famOf, isV, isAlloc, Grows.refl]
      exact ⟨A', c', rfl, hR⟩
    · rw [if_pos (by decide)]
      intro f V hg hl
      simp [Oper.looksAt, Op.operands, Call.operands, famAt, famOf, isV] at hl
      obtain ⟨A', c', e25, hR⟩ := hl
      refine ⟨by simp [famWants], .int .i64 ea, fun w' => by simp [execOp, rho, go_sem, e25], fun d hd => by cases hd; rfl⟩
    · rw [if_neg (by decide)]
      intro f V hg hl
      simp [Oper.looksAt, Op.operands, Call.operands, famAt, famOf, isV] at hl
      simp [famWants, boolIs_bool, boolIs_undef, execOp, rho, go_sem, hl, Grows.alloc, famUpon, famOf, isV, isAlloc, Grows.refl]
      exact ⟨_, rfl, Blo.made _ _ _, Below.size hg⟩
    · trivial
  · intro u V hg hu _
    obtain ⟨Ab, cb, e30, hRb⟩ : ∃ A c, u 30 = sv Ua A N c ∧ DRow V w7.heap.size (.slice A N c) Ma := hu 30 (by decide)
    have e31 : u 31 = .int .i64 ea := hu 31 (by decide)
    obtain ⟨gb, e8, hB8, hgb⟩ : ∃ g, u 8 = .pointer (some ⟨g, 0, none⟩) ∧ Blo V g 35 (scs (fun _ => 0) none 0 0) ∧ w7.heap.size ≤ g := hu 8 (by decide)
    simp only [List.drop_succ_cons, List.drop_zero, fill, Act.put, List.setIfInBounds_toArray, List.set_cons_zero, List.set_cons_succ, e30, e31, e8]
    have hne := hRb.blo hB8 (by decide)
    clear hu e30 e31 e8
    go_wp2_with (refine wpList_setv _ rfl 35 _ _ rfl Try.sizeRef gb _ rfl Ua Ab N cb rfl hB8 rfl ?_)
    intro w8 hB9 hg8
    have hR9 : DRow w8 w7.heap.size (.slice Ab N cb) Ma := hRb.grown hg8 (fun b hb e => hne (hb.trans e))
    have hb78 : Below w7.heap.size w7 w8 := Below.grown hg hg8 (Below.size hg) (fun k hk => by injection hk with hk; omega)
    have hX8 := hX7.new hb78
    have hY8 := hY7.new hb78
    have hI8 := hI7.new hb78
    have hJ8 := hJ7.new hb78
    have hr8 := hr7.new hb78
    have hC8 := hC7.new hb78
    have hR8 := hR7.new hb78
    have hb58 := hb57.trans (hb78.mono hs57)
    clear hg hg8 hB8 hRb hX7 hY7 hI7 hJ7 hr7 hC7 hR7 hne hb57 HCX HCY
    obtain ⟨z0, z1, z2, z3, z4, z5, z6, z7, z8⟩ := set9 hX8
    have hRf := HRef.out w8 hb78
    go_wp2_with fail
    refine hRf.mono ?_
    rintro e w9 ⟨A9, c9, rfl, hC9, hb9⟩
    obtain ⟨L, hL⟩ : ∃ L, L = D.lst (D.has U M) := ⟨_, rfl⟩
    have hLs := rlist_any _ U A9 n c9 M w9 HN.out hC9.at hl
    rw [← hL] at hLs
    have hLl : L.length ≤ 768 := by rw [hL]; exact D.lst_len _
    have hcnt := D.cnt_eq U M
    rw [← hL] at hcnt
    unfold DotsPost at hLs
    obtain ⟨NL, hNL⟩ : ∃ N, L.length = N := ⟨_, rfl⟩
    rw [hNL] at hLs hLl hcnt
    have HNL := Lib.hid hNL
    have HLE := Lib.hid hL
    have HCNT := Lib.hid hcnt
    clear hRf z0 z1 z2 z3 z4 z5 z6 z7 z8 hL hNL hcnt
    go_wp2_with fail
    refine hLs.mono ?_
    rintro e wA ⟨AL, cL, rfl, hRL, hbA⟩
    have hb8A := below_new hb9 hbA
    have hXA := hX8.new hb8A
    have hYA := hY8.new hb8A
    have hIA := hI8.new hb8A
    have hJA := hJ8.new hb8A
    have hKA := hB9.new hb8A
    have hrA := hr8.new hb8A
    have hCA := hC8.new hb8A
    have hRA := hR8.new hb8A
    have hRbA := hR9.new hb8A
    have hb5A := hb58.trans (hb8A.mono (by have := hb58.size; omega))
    clear hLs hX8 hY8 hI8 hJ8 hB9 hr8 hC8 hR8 hR9 hC9 hb9 hbA hb8A hb58 hb78
    have HCX : Hid (∀ V, Grows wA V → _) := Lib.hid (fun V hV => set9 (hXA.new hV))
    have HCY : Hid (∀ V, Grows wA V → V.cell? ⟨w.heap.size + 1, 0, none⟩ = some (.int .i64 a) ∧ V.cell? ⟨w.heap.size + 1, 1, none⟩ = some (.int .i64 b)) := Lib.hid (fun V hV => ⟨by simpa using (hYA.new hV).cell 0, by simpa using (hYA.new hV).cell 1⟩)
    have HCI : Hid (∀ V, Grows wA V → _) := Lib.hid (fun V hV => set9 (hIA.new hV))
    have HCJ : Hid (∀ V, Grows wA V → _) := Lib.hid (fun V hV => set9 (hJA.new hV))
    have HCK : Hid (∀ V, Grows wA V → _) := Lib.hid (fun V hV => set9 (hKA.new hV))
    have HRef : Hid (∀ V, Grows wA V → Calls Try.prog 13 #[sv U A n c] V fun e w' => ∃ A' c', e = .returned (sv U A' n c') ∧ Copy w' V.heap.size A' c' M ∧ Below V.heap.size V w') := Lib.hid (fun V hV => by
      have := ref_any _ U A n c M V HN.out (hrA.new hV) hl
      unfold CopyPost at this
      rw [HN.out] at this
      exact this)
    obtain ⟨rt, hrt⟩ : ∃ x, x = D.rt U M := ⟨_, rfl⟩
    obtain ⟨hs, hhs⟩ : ∃ x, x = D.has U M (a, b) := ⟨_, rfl⟩
    have HR1 : Hid (∀ V, Grows wA V → Calls Try.prog 15 #[sv U A4 n c4] V fun e w' => e = .returned (.bool rt) ∧ Grows V w') := Lib.hid (fun V hV => by rw [hrt]; exact right_any _ U A4 n c4 M V HN.out (hCA.at.new hV) hl)
    have HR2 : Hid (∀ (V : World) (A' : Option Addr) (c' : Nat), Copy V wA.heap.size A' c' M → Calls Try.prog 16 #[sv U A' n c'] V fun e w' => e = .returned (.bool rt) ∧ Grows V w') := Lib.hid (fun V A' c' hc => by rw [hrt]; exact rright_any _ U A' n c' M V HN.out hc.at hl)
    have HH1 : Hid (∀ V, Grows wA V → Calls Try.prog 17 #[sv U A4 n c4, .agg #[.int .i64 a, .int .i64 b]] V fun e w' => e = .returned (.bool hs) ∧ Grows V w') := Lib.hid (fun V hV => by rw [hhs]; exact has_any _ U A4 n c4 M a b V HN.out (hCA.at.new hV) hl)
    have HH2 : Hid (∀ (V : World) (A' : Option Addr) (c' : Nat), Copy V wA.heap.size A' c' M → Calls Try.prog 18 #[sv U A' n c', .agg #[.int .i64 a, .int .i64 b]] V fun e w' => e = .returned (.bool hs) ∧ Grows V w') := Lib.hid (fun V A' c' hc => by rw [hhs]; exact rhas_any _ U A' n c' M a b V HN.out hc.at hl)
    have HFr : Hid (∀ V, Grows wA V → Calls Try.prog 20 #[sv Ua A6 N c6] V fun e w' => ∃ A' c', e = .returned (sv Ua A' N c') ∧ Copy w' V.heap.size A' c' Ma ∧ Below V.heap.size V w') := Lib.hid (fun V hV => by
      have := from_any _ Ua A6 N c6 Ma V HNA.out (hRA.rdsT.new hV) (by omega)
      unfold CopyPost at this
      rw [HNA.out] at this
      exact this)
    have HSa : Hid (∀ (V : World) (A' : Option Addr) (c' : Nat), Grows wA V → Copy V wA.heap.size A' c' Ma → Calls Try.prog 19 #[sv Ua A' N c', sv Ua Ab N cb] V fun e w' => e = .returned (.bool true) ∧ Grows V w') := Lib.hid (fun V A' c' hV hc => rsame_yes _ _ Ua A' Ab N c' cb Ma V HNA.out hc.at (hRbA.rdsT.new hV) (by omega))
    have HCo : Hid (∀ V, Grows wA V → Calls Try.prog 21 #[sv U A4 n c4] V fun e w' => e = .returned (.int .i64 (NL : Int)) ∧ Grows V w') := Lib.hid (fun V hV => by have := count_any _ U A4 n c4 M V HN.out (hCA.at.new hV) hl; rwa [HCNT.out] at this)
    have HLi : Hid (∀ V, Grows wA V → Calls Try.prog 23 #[sv U A4 n c4] V fun e w' => ∃ A' c', e = .returned (.slice A' NL c') ∧ DRow w' V.heap.size (.slice A' NL c') L ∧ Below V.heap.size V w') := Lib.hid (fun V hV => by
      have := dlist_any _ U A4 n c4 M V HN.out (hCA.at.new hV) hl
      rw [← HLE.out] at this
      unfold DotsPost at this
      rw [HNL.out] at this
      exact this)
    have HDo : Hid (∀ (V : World) (A' : Option Addr) (c' : Nat), Grows wA V → DRow V wA.heap.size (.slice A' NL c') L → Calls Try.prog 22 #[.slice A' NL c', .slice AL NL cL] V fun e w' => e = .returned (.bool true) ∧ Grows V w') := Lib.hid (fun V A' c' hV hR => (dots_yes _ _ A' AL NL c' cL L V HNL.out hR.rdsT (hRL.rdsT.new hV) (by omega)).mono fun _ _ h => ⟨h.1, h.2.below _⟩)
    clear hrt hhs
    go_wp2_with fail
    refine wp_fam (n := 42) (size := 94) (D := [35, 36, 37, 38, 39, 40, 41, 42, 43, 44, 45, 46, 47, 48, 49, 50, 51, 52, 53, 54, 55, 56, 57, 58, 59, 60, 61, 62, 63, 64, 65, 66, 67, 68, 69, 70, 71, 72, 73, 74, 75, 76]) [(35, isV (sv U A4 n c4)), (36, isV (.bool rt)), (37, isV (sv U A n c)), (38, copyS U wA.heap.size n M), (39, isV (.bool rt)), (40, isV (.bool false)), (41, isV (.bool false)), (42, isV (sv U A4 n c4)), (43, isV (.agg #[.int .i64 a, .int .i64 b])), (44, isV (.bool hs)), (45, isV (sv U A n c)), (46, copyS U wA.heap.size n M), (47, isV (.agg #[.int .i64 a, .int .i64 b])), (48, isV (.bool hs)), (49, isV (.bool false)), (50, isV (.bool false)), (51, isV (.bool false)), (52, isV (.int .i64 ea)), (53, isV (.int .i64 ea)), (54, isV (.bool false)), (55, isV (.bool false)), (56, isV (.bool false)), (57, isV (sv Ua A6 N c6)), (58, copyS Ua wA.heap.size N Ma), (59, isV (sv Ua Ab N cb)), (60, isV (.bool true)), (61, isV (.bool false)), (62, isV (.bool false)), (63, isV (.bool false)), (64, isV (sv U A4 n c4)), (65, isV (.int .i64 (NL : Int))), (66, isV (.slice AL NL cL)), (67, isV (.int .i64 (NL : Int))), (68, isV (.bool false)), (69, isV (.bool false)), (70, isV (.bool false)), (71, isV (sv U A4 n c4)), (72, ownD wA.heap.size NL L), (73, isV (.slice AL NL cL)), (74, isV (.bool true)), (75, isV (.bool false)), (76, isV (.bool false))] (by kernel_rfl) (by rfl) (by kernel_rfl) ?_ ?_
    · simp only [List.take_succ_cons, List.take_zero, famAll]
      repeat' apply And.intro
      · intro f V hg hl
        obtain ⟨z0, z1, z2, z3, z4, z5, z6, z7, z8⟩ := HCI.out V hg
        simp [Oper.looksAt, Op.operands, Call.operands, famAt, famOf, isV] at hl
        simp [famWants, boolIs_bool, boolIs_undef, execOp, rho, go_sem, hl, z0, z1, z2, z3, z4, z5, z6, z7, z8, famUpon, famOf, isV, Grows.refl]
      · intro f V hg hl
        simp [Oper.looksAt, Op.operands, Call.operands, famAt, famOf, isV] at hl
        simp [famWants, boolIs_bool, boolIs_undef, execOp, rho, go_sem, hl, famUpon, famOf, isV, Grows.refl]
        exact HR1.out V hg
      · intro f V hg hl
        obtain ⟨z0, z1, z2, z3, z4, z5, z6, z7, z8⟩ := HCX.out V hg
        simp [Oper.looksAt, Op.operands, Call.operands, famAt, famOf, isV] at hl
        simp [famWants, boolIs_bool, boolIs_undef, execOp, rho, go_sem, hl, z0, z1, z2, z3, z4, z5, z6, z7, z8, famUpon, famOf, isV, Grows.refl]
      · intro f V hg hl
        simp [Oper.looksAt, Op.operands, Call.operands, famAt, famOf, isV] at hl
        simp [famWants, boolIs_bool, boolIs_undef, execOp, rho, go_sem, hl, famUpon, famOf, isV, Grows.refl]
        refine (HRef.out V hg).mono ?_
        rintro e w'' ⟨B, d, rfl, hc, hb⟩
        exact ⟨_, rfl, hb, B, d, rfl, hc.mono (Below.size hg)⟩
      · intro f V hg hl
        simp [Oper.looksAt, Op.operands, Call.operands, famAt, famOf, isV] at hl
        obtain ⟨A', c', e38, hc⟩ := hl
        have hl := e38
        simp [famWants, boolIs_bool, boolIs_undef, execOp, rho, go_sem, hl, e38, famUpon, famOf, isV, Grows.refl]
        exact HR2.out V A' c' hc
      · intro f V hg hl
        simp [Oper.looksAt, Op.operands, Call.operands, famAt, famOf, isV] at hl
        simp [famWants, boolIs_bool, boolIs_undef, execOp, rho, go_sem, hl, famUpon, famOf, isV, Grows.refl]
      · intro f V hg hl
        simp [Oper.looksAt, Op.operands, Call.operands, famAt, famOf, isV] at hl
        simp [famWants, boolIs_bool, boolIs_undef, execOp, rho, go_sem, hl, famUpon, famOf, isV, Grows.refl]
      · intro f V hg hl
        obtain ⟨z0, z1, z2, z3, z4, z5, z6, z7, z8⟩ := HCI.out V hg
        simp [Oper.looksAt, Op.operands, Call.operands, famAt, famOf, isV] at hl
        simp [famWants, boolIs_bool, boolIs_undef, execOp, rho, go_sem, hl, z0, z1, z2, z3, z4, z5, z6, z7, z8, famUpon, famOf, isV, Grows.refl]
      · intro f V hg hl
        obtain ⟨k0, k1⟩ := HCY.out V hg
        simp [Oper.looksAt, Op.operands, Call.operands, famAt, famOf, isV] at hl
        simp [famWants, boolIs_bool, boolIs_undef, execOp, rho, go_sem, hl, k0, k1, famUpon, famOf, isV, Grows.refl]
      · intro f V hg hl
        simp [Oper.looksAt, Op.operands, Call.operands, famAt, famOf, isV] at hl
        simp [famWants, boolIs_bool, boolIs_undef, execOp, rho, go_sem, hl, famUpon, famOf, isV, Grows.refl]
        exact HH1.out V hg
      · intro f V hg hl
        obtain ⟨z0, z1, z2, z3, z4, z5, z6, z7, z8⟩ := HCX.out V hg
        simp [Oper.looksAt, Op.operands, Call.operands, famAt, famOf, isV] at hl
        simp [famWants, boolIs_bool, boolIs_undef, execOp, rho, go_sem, hl, z0, z1, z2, z3, z4, z5, z6, z7, z8, famUpon, famOf, isV, Grows.refl]
      · intro f V hg hl
        simp [Oper.looksAt, Op.operands, Call.operands, famAt, famOf, isV] at hl
        simp [famWants, boolIs_bool, boolIs_undef, execOp, rho, go_sem, hl, famUpon, famOf, isV, Grows.refl]
        refine (HRef.out V hg).mono ?_
        rintro e w'' ⟨B, d, rfl, hc, hb⟩
        exact ⟨_, rfl, hb, B, d, rfl, hc.mono (Below.size hg)⟩
      · intro f V hg hl
        obtain ⟨k0, k1⟩ := HCY.out V hg
        simp [Oper.looksAt, Op.operands, Call.operands, famAt, famOf, isV] at hl
        simp [famWants, boolIs_bool, boolIs_undef, execOp, rho, go_sem, hl, k0, k1, famUpon, famOf, isV, Grows.refl]
      · intro f V hg hl
        simp [Oper.looksAt, Op.operands, Call.operands, famAt, famOf, isV] at hl
        obtain ⟨⟨A', c', e46, hc⟩, e47, hl⟩ := hl
        simp [famWants, boolIs_bool, boolIs_undef, execOp, rho, go_sem, hl, e46, e47, famUpon, famOf, isV, Grows.refl]
        exact HH2.out V A' c' hc
      · intro f V hg hl
        simp [Oper.looksAt, Op.operands, Call.operands, famAt, famOf, isV] at hl
        simp [famWants, boolIs_bool, boolIs_undef, execOp, rho, go_sem, hl, famUpon, famOf, isV, Grows.refl]
      · intro f V hg hl
        simp [Oper.looksAt, Op.operands, Call.operands, famAt, famOf, isV] at hl
        simp [famWants, boolIs_bool, boolIs_undef, execOp, rho, go_sem, hl, famUpon, famOf, isV, Grows.refl]
      · intro f V hg hl
        simp [Oper.looksAt, Op.operands, Call.operands, famAt, famOf, isV] at hl
        simp [famWants, boolIs_bool, boolIs_undef, execOp, rho, go_sem, hl, famUpon, famOf, isV, Grows.refl]
      · intro f V hg hl
        simp [Oper.looksAt, Op.operands, Call.operands, famAt, famOf, isV] at hl
        simp [famWants, boolIs_bool, boolIs_undef, execOp, rho, go_sem, hl, famUpon, famOf, isV, Grows.refl]
      · intro f V hg hl
        simp [Oper.looksAt, Op.operands, Call.operands, famAt, famOf, isV] at hl
        simp [famWants, boolIs_bool, boolIs_undef, execOp, rho, go_sem, hl, famUpon, famOf, isV, Grows.refl]
      · intro f V hg hl
        simp [Oper.looksAt, Op.operands, Call.operands, famAt, famOf, isV] at hl
        simp [famWants, boolIs_bool, boolIs_undef, execOp, rho, go_sem, hl, famUpon, famOf, isV, Grows.refl]
      · intro f V hg hl
        simp [Oper.looksAt, Op.operands, Call.operands, famAt, famOf, isV] at hl
        simp [famWants, boolIs_bool, boolIs_undef, execOp, rho, go_sem, hl, famUpon, famOf, isV, Grows.refl]
      · intro f V hg hl
        simp [Oper.looksAt, Op.operands, Call.operands, famAt, famOf, isV] at hl
        simp [famWants, boolIs_bool, boolIs_undef, execOp, rho, go_sem, hl, famUpon, famOf, isV, Grows.refl]
      · intro f V hg hl
        obtain ⟨z0, z1, z2, z3, z4, z5, z6, z7, z8⟩ := HCJ.out V hg
        simp [Oper.looksAt, Op.operands, Call.operands, famAt, famOf, isV] at hl
        simp [famWants, boolIs_bool, boolIs_undef, execOp, rho, go_sem, hl, z0, z1, z2, z3, z4, z5, z6, z7, z8, famUpon, famOf, isV, Grows.refl]
      · intro f V hg hl
        simp [Oper.looksAt, Op.operands, Call.operands, famAt, famOf, isV] at hl
        simp [famWants, boolIs_bool, boolIs_undef, execOp, rho, go_sem, hl, famUpon, famOf, isV, Grows.refl]
        refine (HFr.out V hg).mono ?_
        rintro e w'' ⟨B, d, rfl, hc, hb⟩
        exact ⟨_, rfl, hb, B, d, rfl, hc.mono (Below.size hg)⟩
      · intro f V hg hl
        obtain ⟨z0, z1, z2, z3, z4, z5, z6, z7, z8⟩ := HCK.out V hg
        simp [Oper.looksAt, Op.operands, Call.operands, famAt, famOf, isV] at hl
        simp [famWants, boolIs_bool, boolIs_undef, execOp, rho, go_sem, hl, z0, z1, z2, z3, z4, z5, z6, z7, z8, famUpon, famOf, isV, Grows.refl]
      · intro f V hg hl
        simp [Oper.looksAt, Op.operands, Call.operands, famAt, famOf, isV] at hl
        obtain ⟨⟨A', c', e58, hc⟩, e59, hl⟩ := hl
        simp [famWants, boolIs_bool, boolIs_undef, execOp, rho, go_sem, hl, e58, e59, famUpon, famOf, isV, Grows.refl]
        exact HSa.out V A' c' hg hc
      · intro f V hg hl
        simp [Oper.looksAt, Op.operands, Call.operands, famAt, famOf, isV] at hl
        simp [famWants, boolIs_bool, boolIs_undef, execOp, rho, go_sem, hl, famUpon, famOf, isV, Grows.refl]
      · intro f V hg hl
        simp [Oper.looksAt, Op.operands, Call.operands, famAt, famOf, isV] at hl
        simp [famWants, boolIs_bool, boolIs_undef, execOp, rho, go_sem, hl, famUpon, famOf, isV, Grows.refl]
      · intro f V hg hl
        simp [Oper.looksAt, Op.operands, Call.operands, famAt, famOf, isV] at hl
        simp [famWants, boolIs_bool, boolIs_undef, execOp, rho, go_sem, hl, famUpon, famOf, isV, Grows.refl]
      · intro f V hg hl
        obtain ⟨z0, z1, z2, z3, z4, z5, z6, z7, z8⟩ := HCI.out V hg
        simp [Oper.looksAt, Op.operands, Call.operands, famAt, famOf, isV] at hl
        simp [famWants, boolIs_bool, boolIs_undef, execOp, rho, go_sem, hl, z0, z1, z2, z3, z4, z5, z6, z7, z8, famUpon, famOf, isV, Grows.refl]
      · intro f V hg hl
        simp [Oper.looksAt, Op.operands, Call.operands, famAt, famOf, isV] at hl
        simp [famWants, boolIs_bool, boolIs_undef, execOp, rho, go_sem, hl, famUpon, famOf, isV, Grows.refl]
        exact HCo.out V hg
      · intro f V hg hl
        simp [Oper.looksAt, Op.operands, Call.operands, famAt, famOf, isV] at hl
        simp [famWants, boolIs_bool, boolIs_undef, execOp, rho, go_sem, hl, famUpon, famOf, isV, Grows.refl]
      · intro f V hg hl
        simp [Oper.looksAt, Op.operands, Call.operands, famAt, famOf, isV] at hl
        simp [famWants, boolIs_bool, boolIs_undef, execOp, rho, go_sem, hl, famUpon, famOf, isV, Grows.refl]
      · intro f V hg hl
        simp [Oper.looksAt, Op.operands, Call.operands, famAt, famOf, isV] at hl
        simp [famWants, boolIs_bool, boolIs_undef, execOp, rho, go_sem, hl, famUpon, famOf, isV, Grows.refl]
      · intro f V hg hl
        simp [Oper.looksAt, Op.operands, Call.operands, famAt, famOf, isV] at hl
        simp [famWants, boolIs_bool, boolIs_undef, execOp, rho, go_sem, hl, famUpon, famOf, isV, Grows.refl]
      · intro f V hg hl
        simp [Oper.looksAt, Op.operands, Call.operands, famAt, famOf, isV] at hl
        simp [famWants, boolIs_bool, boolIs_undef, execOp, rho, go_sem, hl, famUpon, famOf, isV, Grows.refl]
      · intro f V hg hl
        obtain ⟨z0, z1, z2, z3, z4, z5, z6, z7, z8⟩ := HCI.out V hg
        simp [Oper.looksAt, Op.operands, Call.operands, famAt, famOf, isV] at hl
        simp [famWants, boolIs_bool, boolIs_undef, execOp, rho, go_sem, hl, z0, z1, z2, z3, z4, z5, z6, z7, z8, famUpon, famOf, isV, Grows.refl]
      · intro f V hg hl
        simp [Oper.looksAt, Op.operands, Call.operands, famAt, famOf, isV] at hl
        simp [famWants, boolIs_bool, boolIs_undef, execOp, rho, go_sem, hl, famUpon, famOf, isV, Grows.refl]
        refine (HLi.out V hg).mono ?_
        rintro e w'' ⟨B, d, rfl, hR, hb⟩
        exact ⟨_, rfl, hb, B, d, rfl, hR.mono (Below.size hg)⟩
      · intro f V hg hl
        simp [Oper.looksAt, Op.operands, Call.operands, famAt, famOf, isV] at hl
        simp [famWants, boolIs_bool, boolIs_undef, execOp, rho, go_sem, hl, famUpon, famOf, isV, Grows.refl]
      · intro f V hg hl
        simp [Oper.looksAt, Op.operands, Call.operands, famAt, famOf, isV] at hl
        obtain ⟨⟨A', c', e72, hR⟩, e73, hl⟩ := hl
        simp [famWants, boolIs_bool, boolIs_undef, execOp, rho, go_sem, hl, e72, e73, famUpon, famOf, isV, Grows.refl]
        exact HDo.out V A' c' hg hR
      · intro f V hg hl
        simp [Oper.looksAt, Op.operands, Call.operands, famAt, famOf, isV] at hl
        simp [famWants, boolIs_bool, boolIs_undef, execOp, rho, go_sem, hl, famUpon, famOf, isV, Grows.refl]
      · intro f V hg hl
        simp [Oper.looksAt, Op.operands, Call.operands, famAt, famOf, isV] at hl
        simp [famWants, boolIs_bool, boolIs_undef, execOp, rho, go_sem, hl, famUpon, famOf, isV, Grows.refl]
      · trivial
    · intro u V hgV hu
      have h76 : u 76 = .bool false := hu 76 (by decide)
      simp only [List.drop_succ_cons, List.drop_zero, fill, Act.put, List.setIfInBounds_toArray, List.set_cons_zero, List.set_cons_succ, h76]
      refine wpList_nil ?_
      have hXV := hXA.new hgV
      have hIV := hIA.new hgV
      have hJV := hJA.new hgV
      have hrV := hrA.new hgV
      have hCV := hCA.new hgV
      have hRV := hRA.new hgV
      have hb5V := hb5A.trans (Below.mono hgV (by have := hb5A.size; omega))
      have hsV := hb5V.size
      clear hu h76 HCX HCY HCI HCJ HCK HRef HR1 HR2 HH1 HH2 HFr HSa HCo HLi HDo hXA hYA hIA hJA hKA hrA hCA hRA hRbA hRL hb5A hgV
      have j8 : V.cell? ⟨gj, 8, none⟩ = some (.slice A6 N c6) := by simpa using hJV.cell 8
      have hjl := hJV.lt
      have hrowj := hRV.blo hJV (by decide)
      go_wp2
      clear j8
      go_loopw [80] (fun iv wr => ∃ i : Nat, iv = .int .i64 i ∧ i ≤ N ∧ DSoft V wr A6 N) (fun iv _ => N - (intOf iv).toNat)
      case atStart => exact ⟨0, rfl, by omega, DSoft.start hRV HNA.out⟩
      case round =>
        obtain ⟨i, rfl, hi, hD⟩ := hrel
        have hJr : Blo wr gj 30 (scs Ua A6 N c6) := hJV.grown hD.1 (fun e => hrowj (by rw [ownBlock_any A6 N c6 N 0]; exact e.symm))
        have j8 : wr.cell? ⟨gj, 8, none⟩ = some (.slice A6 N c6) := by simpa using hJr.cell 8
        by_cases hlt : i < N
        · obtain ⟨g, v, rfl, q1, q2, q3⟩ := hD.at hlt
          have q4 := q3 (.int .i64 (-1))
          have e1 : (⟨g, 0, none⟩ : Addr).add (i * 2) = ⟨g, i * 2, none⟩ := by rw [Go.Proofs.Ytegppdobpihbnaa.M.addMk]; simp
          clear q3
          go_wp2
          go_roundw
          case rel => exact ⟨i + 1, by go_num, by omega, q4⟩
          case measure => simp [intOf]; omega
        · have hbr : Below w5.heap.size V wr := hD.below hRV hsV
          have hb5r := hb5V.trans hbr
          have hXr := hX5.new hb5r
          have hIr := hI5.new hb5r
          have hrr := hr5.new hb5r
          have hCr := hC5.new hb5r
          have hball := below_new hb05 hb5r
          clear hD hJr j8 hXV hIV hJV hrV hCV hRV hX5 hI5 hr5 hC5
          have HCX : Hid (∀ V, Grows wr V → _) := Lib.hid (fun V hV => set9 (hXr.new hV))
          have HCI : Hid (∀ V, Grows wr V → _) := Lib.hid (fun V hV => set9 (hIr.new hV))
          have HRef : Hid (∀ V, Grows wr V → Calls Try.prog 13 #[sv U A n c] V fun e w' => ∃ A' c', e = .returned (sv U A' n c') ∧ Copy w' V.heap.size A' c' M ∧ Below V.heap.size V w') := Lib.hid (fun V hV => by
            have := ref_any _ U A n c M V HN.out (hrr.new hV) hl
            unfold CopyPost at this
            rw [HN.out] at this
            exact this)
          have HFr : Hid (∀ V, Grows wr V → Calls Try.prog 20 #[sv U A4 n c4] V fun e w' => ∃ A' c', e = .returned (sv U A' n c') ∧ Copy w' V.heap.size A' c' M ∧ Below V.heap.size V w') := Lib.hid (fun V hV => by
            have := from_any _ U A4 n c4 M V HN.out (hCr.at.new hV) hl
            unfold CopyPost at this
            rw [HN.out] at this
            exact this)
          have HSa : Hid (∀ (V : World) (A' A'' : Option Addr) (c' c'' : Nat), Copy V wr.heap.size A' c' M → Copy V wr.heap.size A'' c'' M → Calls Try.prog 19 #[sv U A' n c', sv U A'' n c''] V fun e w' => e = .returned (.bool true) ∧ Grows V w') := Lib.hid (fun V A' A'' c' c'' hc hc' => rsame_yes _ _ U A' A'' n c' c'' M V HN.out hc.at hc'.at hl)
          go_wp2_with fail
          refine wp_fam (n := 6) (size := 94) (D := [89, 90, 91, 92, 93, 4]) [(89, isV (sv U A4 n c4)), (90, copyS U wr.heap.size n M), (91, isV (sv U A n c)), (92, copyS U wr.heap.size n M), (93, isV (.bool true)), (4, isV (.bool true))] (by kernel_rfl) (by rfl) (by kernel_rfl) ?_ ?_
          · simp only [List.take_succ_cons, List.take_zero, famAll]
            repeat' apply And.intro
            · intro f V hg hl
              obtain ⟨z0, z1, z2, z3, z4, z5, z6, z7, z8⟩ := HCI.out V hg
              simp [Oper.looksAt, Op.operands, Call.operands, famAt, famOf, isV] at hl
              simp [famWants, boolIs_bool, boolIs_undef, execOp, rho, go_sem, hl, z0, z1, z2, z3, z4, z5, z6, z7, z8, famUpon, famOf, isV, Grows.refl]
            · intro f V hg hl
              simp [Oper.looksAt, Op.operands, Call.operands, famAt, famOf, isV] at hl
              simp [famWants, boolIs_bool, boolIs_undef, execOp, rho, go_sem, hl, famUpon, famOf, isV, Grows.refl]
              refine (HFr.out V hg).mono ?_
              rintro e w'' ⟨B, d, rfl, hc, hb⟩
              exact ⟨_, rfl, hb, B, d, rfl, hc.mono (Below.size hg)⟩
            · intro f V hg hl
              obtain ⟨z0, z1, z2, z3, z4, z5, z6, z7, z8⟩ := HCX.out V hg
              simp [Oper.looksAt, Op.operands, Call.operands, famAt, famOf, isV] at hl
              simp [famWants, boolIs_bool, boolIs_undef, execOp, rho, go_sem, hl, z0, z1, z2, z3, z4, z5, z6, z7, z8, famUpon, famOf, isV, Grows.refl]
            · intro f V hg hl
              simp [Oper.looksAt, Op.operands, Call.operands, famAt, famOf, isV] at hl
              simp [famWants, boolIs_bool, boolIs_undef, execOp, rho, go_sem, hl, famUpon, famOf, isV, Grows.refl]
              refine (HRef.out V hg).mono ?_
              rintro e w'' ⟨B, d, rfl, hc, hb⟩
              exact ⟨_, rfl, hb, B, d, rfl, hc.mono (Below.size hg)⟩
            · intro f V hg hl
              simp [Oper.looksAt, Op.operands, Call.operands, famAt, famOf, isV] at hl
              obtain ⟨⟨A', c', e90, hc⟩, A'', c'', e92, hc'⟩ := hl
              have hl := e90
              simp [famWants, boolIs_bool, boolIs_undef, execOp, rho, go_sem, hl, e90, e92, famUpon, famOf, isV, Grows.refl]
              exact HSa.out V A' A'' c' c'' hc hc'
            · intro f V hg hl
              simp [Oper.looksAt, Op.operands, Call.operands, famAt, famOf, isV] at hl
              simp [famWants, boolIs_bool, boolIs_undef, execOp, rho, go_sem, hl, famUpon, famOf, isV, Grows.refl]
            · trivial
          · intro u V2 hg2 hu
            have h4 : u 4 = .bool true := hu 4 (by decide)
            simp only [List.drop_succ_cons, List.drop_zero, fill, Act.put, List.setIfInBounds_toArray, List.set_cons_zero, List.set_cons_succ, h4]
            refine wpList_nil ?_
            clear hu h4 HCX HCI HRef HFr HSa
            go_wp2
            go_ret
            exact ⟨rfl, below_new hball hg2⟩
end Go.Proofs.Ytegppdobpihbnaa
