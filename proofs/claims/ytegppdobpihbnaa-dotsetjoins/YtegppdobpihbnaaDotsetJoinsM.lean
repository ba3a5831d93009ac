/- The walk of DotsetJoins. -/
import Derived.Test.YtegppdobpihbnaaDotLawJ2
import Derived.Test.YtegppdobpihbnaaDotArgs3
import Derived.Test.YtegppdobpihbnaaFamX
namespace Go.Proofs.Ytegppdobpihbnaa
set_option linter.unusedVariables false
set_option linter.unusedSimpArgs false
open Go.ChangeShapes Go.WideShapes Go.ChangeAt Go.RowKit

theorem set29 {w : World} {r : Nat} {t : TypeId} {U : Nat → Int} {A : Option Addr} {n c : Nat} {U' : Nat → Int} {A' : Option Addr} {n' c' : Nat} {U'' : Nat → Int} {A'' : Option Addr} {n'' c'' : Nat} {a b : Int} (h : Blo w r t (scs3d U A n c U' A' n' c' U'' A'' n'' c'' a b)) :
    w.cell? ⟨r, 0, none⟩ = some (.int .i64 (U 0)) ∧ w.cell? ⟨r, 1, none⟩ = some (.int .i64 (U 1)) ∧ w.cell? ⟨r, 2, none⟩ = some (.int .i64 (U 2)) ∧ w.cell? ⟨r, 3, none⟩ = some (.int .i64 (U 3)) ∧ w.cell? ⟨r, 4, none⟩ = some (.int .i64 (U 4)) ∧ w.cell? ⟨r, 5, none⟩ = some (.int .i64 (U 5)) ∧ w.cell? ⟨r, 6, none⟩ = some (.int .i64 (U 6)) ∧ w.cell? ⟨r, 7, none⟩ = some (.int .i64 (U 7)) ∧ w.cell? ⟨r, 8, none⟩ = some (.slice A n c) ∧ w.cell? ⟨r, 9, none⟩ = some (.int .i64 (U' 0)) ∧ w.cell? ⟨r, 10, none⟩ = some (.int .i64 (U' 1)) ∧ w.cell? ⟨r, 11, none⟩ = some (.int .i64 (U' 2)) ∧ w.cell? ⟨r, 12, none⟩ = some (.int .i64 (U' 3)) ∧ w.cell? ⟨r, 13, none⟩ = some (.int .i64 (U' 4)) ∧ w.cell? ⟨r, 14, none⟩ = some (.int .i64 (U' 5)) ∧ w.cell? ⟨r, 15, none⟩ = some (.int .i64 (U' 6)) ∧ w.cell? ⟨r, 16, none⟩ = some (.int .i64 (U' 7)) ∧ w.cell? ⟨r, 17, none⟩ = some (.slice A' n' c') ∧ w.cell? ⟨r, 18, none⟩ = some (.int .i64 (U'' 0)) ∧ w.cell? ⟨r, 19, none⟩ = some (.int .i64 (U'' 1)) ∧ w.cell? ⟨r, 20, none⟩ = some (.int .i64 (U'' 2)) ∧ w.cell? ⟨r, 21, none⟩ = some (.int .i64 (U'' 3)) ∧ w.cell? ⟨r, 22, none⟩ = some (.int .i64 (U'' 4)) ∧ w.cell? ⟨r, 23, none⟩ = some (.int .i64 (U'' 5)) ∧ w.cell? ⟨r, 24, none⟩ = some (.int .i64 (U'' 6)) ∧ w.cell? ⟨r, 25, none⟩ = some (.int .i64 (U'' 7)) ∧ w.cell? ⟨r, 26, none⟩ = some (.slice A'' n'' c'') ∧ w.cell? ⟨r, 27, none⟩ = some (.int .i64 a) ∧ w.cell? ⟨r, 28, none⟩ = some (.int .i64 b) :=
  ⟨by simpa using h.cell 0, by simpa using h.cell 1, by simpa using h.cell 2, by simpa using h.cell 3, by simpa using h.cell 4, by simpa using h.cell 5, by simpa using h.cell 6, by simpa using h.cell 7, by simpa using h.cell 8, by simpa using h.cell 9, by simpa using h.cell 10, by simpa using h.cell 11, by simpa using h.cell 12, by simpa using h.cell 13, by simpa using h.cell 14, by simpa using h.cell 15, by simpa using h.cell 16, by simpa using h.cell 17, by simpa using h.cell 18, by simpa using h.cell 19, by simpa using h.cell 20, by simpa using h.cell 21, by simpa using h.cell 22, by simpa using h.cell 23, by simpa using h.cell 24, by simpa using h.cell 25, by simpa using h.cell 26, by simpa using h.cell 27, by simpa using h.cell 28⟩

set_option maxRecDepth 100000 in
set_option maxHeartbeats 4000000 in
theorem joins_main (U : Nat → Int) (A : Option Addr) (n c : Nat) (M : List D.Dot) (U' : Nat → Int) (A' : Option Addr) (n' c' : Nat) (M' : List D.Dot) (U'' : Nat → Int) (A'' : Option Addr) (n'' c'' : Nat) (M'' : List D.Dot) (a b : Int) (w : World) (hS : SetIn w U A n c M) (hS' : SetIn w U' A' n' c' M') (hS'' : SetIn w U'' A'' n'' c'' M'') :
    Calls Try.prog 6 #[.agg (scs3d U A n c U' A' n' c' U'' A'' n'' c'' a b)] w fun e w' => e = .returned (.bool true) ∧ Below w.heap.size w w' := by
  obtain ⟨hn, hnc, hcm, hr⟩ := hS
  obtain ⟨hn', hnc', hcm', hr'⟩ := hS'
  obtain ⟨hn'', hnc'', hcm'', hr''⟩ := hS''
  have hnm : ∀ i, i < 3 → three n n' n'' i ≤ maxLen := fun i _ => by unfold three; split <;> first | omega | (split <;> omega)
  unfold maxLen at hcm hcm' hcm''
  obtain ⟨w1, hw1⟩ : ∃ W, w.alloc (.cells (scs3d U A n c U' A' n' c' U'' A'' n'' c'' a b) 65) = W := ⟨_, rfl⟩
  have hb1 : Below w.heap.size w w1 := by rw [← hw1]; exact b_alloc _ _
  obtain ⟨g0, hg0⟩ : ∃ g, g = w.heap.size := ⟨_, rfl⟩
  have hX1 : Blo w1 g0 65 (scs3d U A n c U' A' n' c' U'' A'' n'' c'' a b) := by rw [hg0, ← hw1]; exact Blo.made _ _ _
  have hA := alive_yes w1
  have HW := Lib.hid hw1
  have HG0 := Lib.hid hg0
  have HN := Lib.hid hn
  have HN' := Lib.hid hn'
  have HN'' := Lib.hid hn''
  clear hw1 hn hn' hn'' hg0
  go_enter Try.func6, Try.ntmps6
  go_wp2_with fail
  rw [HW.out, ← HG0.out]
  refine hA.mono ?_
  rintro e w2 ⟨rfl, hb2⟩
  have hX2 := hX1.new hb2
  have hr2 := (hr.new hb1).new hb2
  have hr2' := (hr'.new hb1).new hb2
  have hr2'' := (hr''.new hb1).new hb2
  have hb02 := below_new hb1 hb2
  clear hA hX1 hb1 hb2
  have HC : Hid (∀ V, Grows w2 V → _) := Lib.hid (fun V hV => set29 (hX2.new hV))
  clear hX2
  go_wp2_with fail
  refine wp_famX (size := 103) (D := [14, 15, 16, 17, 18, 19, 20, 21, 3, 4, 5, 6]) [⟨12, 8, 3, 25, (scs (fun _ => 0) none 0 0), (scs U A n c)⟩, ⟨13, 9, 4, 25, (scs (fun _ => 0) none 0 0), (scs U' A' n' c')⟩, ⟨14, 10, 5, 25, (scs (fun _ => 0) none 0 0), (scs U'' A'' n'' c'')⟩, ⟨15, 11, 6, 27, #[.int .i64 0, .int .i64 0], #[.int .i64 a, .int .i64 b]⟩] [(14, isV (.pointer (some ⟨g0, 0, none⟩))), (15, isV (sv U A n c)), (16, isV (.pointer (some ⟨g0, 9, none⟩))), (17, isV (sv U' A' n' c')), (18, isV (.pointer (some ⟨g0, 18, none⟩))), (19, isV (sv U'' A'' n'' c'')), (20, isV (.pointer (some ⟨g0, 27, none⟩))), (21, isV (.agg #[.int .i64 a, .int .i64 b]))] (Below.relX _ _) (by kernel_rfl) (by rfl) (by kernel_rfl) ?_ ?_
  · simp only [famAllX]
    repeat' apply And.intro
    · refine obX_no rfl ?_
      intro f V hg hl
      simp [Oper.looksAt, Op.operands, Call.operands, famAt, famOf, isV] at hl
      simp [famWants, boolIs_bool, boolIs_undef, execOp, rho, go_sem, hl, famUpon, famOf, isV, Grows.refl]
    · refine obX_no rfl ?_
      intro f V hg hl
      obtain ⟨z0, z1, z2, z3, z4, z5, z6, z7, z8, z9, z10, z11, z12, z13, z14, z15, z16, z17, z18, z19, z20, z21, z22, z23, z24, z25, z26, z27, z28⟩ := HC.out V hg
      simp [Oper.looksAt, Op.operands, Call.operands, famAt, famOf, isV] at hl
      simp [famWants, boolIs_bool, boolIs_undef, execOp, rho, go_sem, hl, z0, z1, z2, z3, z4, z5, z6, z7, z8, famUpon, famOf, isV, Grows.refl]
    · refine obX_no rfl ?_
      intro f V hg hl
      simp [Oper.looksAt, Op.operands, Call.operands, famAt, famOf, isV] at hl
      simp [famWants, boolIs_bool, boolIs_undef, execOp, rho, go_sem, hl, famUpon, famOf, isV, Grows.refl]
    · refine obX_no rfl ?_
      intro f V hg hl
      obtain ⟨z0, z1, z2, z3, z4, z5, z6, z7, z8, z9, z10, z11, z12, z13, z14, z15, z16, z17, z18, z19, z20, z21, z22, z23, z24, z25, z26, z27, z28⟩ := HC.out V hg
      simp [Oper.looksAt, Op.operands, Call.operands, famAt, famOf, isV] at hl
      simp [famWants, boolIs_bool, boolIs_undef, execOp, rho, go_sem, hl, z9, z10, z11, z12, z13, z14, z15, z16, z17, famUpon, famOf, isV, Grows.refl]
    · refine obX_no rfl ?_
      intro f V hg hl
      simp [Oper.looksAt, Op.operands, Call.operands, famAt, famOf, isV] at hl
      simp [famWants, boolIs_bool, boolIs_undef, execOp, rho, go_sem, hl, famUpon, famOf, isV, Grows.refl]
    · refine obX_no rfl ?_
      intro f V hg hl
      obtain ⟨z0, z1, z2, z3, z4, z5, z6, z7, z8, z9, z10, z11, z12, z13, z14, z15, z16, z17, z18, z19, z20, z21, z22, z23, z24, z25, z26, z27, z28⟩ := HC.out V hg
      simp [Oper.looksAt, Op.operands, Call.operands, famAt, famOf, isV] at hl
      simp [famWants, boolIs_bool, boolIs_undef, execOp, rho, go_sem, hl, z18, z19, z20, z21, z22, z23, z24, z25, z26, famUpon, famOf, isV, Grows.refl]
    · refine obX_no rfl ?_
      intro f V hg hl
      simp [Oper.looksAt, Op.operands, Call.operands, famAt, famOf, isV] at hl
      simp [famWants, boolIs_bool, boolIs_undef, execOp, rho, go_sem, hl, famUpon, famOf, isV, Grows.refl]
    · refine obX_no rfl ?_
      intro f V hg hl
      obtain ⟨z0, z1, z2, z3, z4, z5, z6, z7, z8, z9, z10, z11, z12, z13, z14, z15, z16, z17, z18, z19, z20, z21, z22, z23, z24, z25, z26, z27, z28⟩ := HC.out V hg
      simp [Oper.looksAt, Op.operands, Call.operands, famAt, famOf, isV] at hl
      simp [famWants, boolIs_bool, boolIs_undef, execOp, rho, go_sem, hl, z27, z28, famUpon, famOf, isV, Grows.refl]
    · refine obX_al 0 rfl rfl (show (12 : Nat) ≠ 8 by decide) rfl ?_
      intro f V hg
      simp [famWants, boolIs_bool, boolIs_undef, execOp, rho, go_sem, famOf]
    · refine obX_al 1 rfl rfl (show (13 : Nat) ≠ 9 by decide) rfl ?_
      intro f V hg
      simp [famWants, boolIs_bool, boolIs_undef, execOp, rho, go_sem, famOf]
    · refine obX_al 2 rfl rfl (show (14 : Nat) ≠ 10 by decide) rfl ?_
      intro f V hg
      simp [famWants, boolIs_bool, boolIs_undef, execOp, rho, go_sem, famOf]
    · refine obX_al 3 rfl rfl (show (15 : Nat) ≠ 11 by decide) rfl ?_
      intro f V hg
      simp [famWants, boolIs_bool, boolIs_undef, execOp, rho, go_sem, famOf]
    · refine obX_st 0 rfl rfl rfl ?_
      intro f V g hg hl hf hB
      have hf : f 3 = _ := hf
      simp [Oper.looksAt, Op.operands, Call.operands, famAt, famOf, isV] at hl
      obtain ⟨W, hrun, h2, h3⟩ := run_setv Try.sizeLaw V g _ hB rfl U A n c
      refine ⟨by simp [famWants], ?_⟩
      simp only [execOp, rho, hf, hl, Sem.run_bind, Sem.run_pure, Result.andThen_ok, hrun, famUpon]
      exact ⟨h3, h2⟩
    · refine obX_st 1 rfl rfl rfl ?_
      intro f V g hg hl hf hB
      have hf : f 4 = _ := hf
      simp [Oper.looksAt, Op.operands, Call.operands, famAt, famOf, isV] at hl
      obtain ⟨W, hrun, h2, h3⟩ := run_setv Try.sizeLaw V g _ hB rfl U' A' n' c'
      refine ⟨by simp [famWants], ?_⟩
      simp only [execOp, rho, hf, hl, Sem.run_bind, Sem.run_pure, Result.andThen_ok, hrun, famUpon]
      exact ⟨h3, h2⟩
    · refine obX_st 2 rfl rfl rfl ?_
      intro f V g hg hl hf hB
      have hf : f 5 = _ := hf
      simp [Oper.looksAt, Op.operands, Call.operands, famAt, famOf, isV] at hl
      obtain ⟨W, hrun, h2, h3⟩ := run_setv Try.sizeLaw V g _ hB rfl U'' A'' n'' c''
      refine ⟨by simp [famWants], ?_⟩
      simp only [execOp, rho, hf, hl, Sem.run_bind, Sem.run_pure, Result.andThen_ok, hrun, famUpon]
      exact ⟨h3, h2⟩
    · refine obX_st 3 rfl rfl rfl ?_
      intro f V g hg hl hf hB
      have hf : f 6 = _ := hf
      simp [Oper.looksAt, Op.operands, Call.operands, famAt, famOf, isV] at hl
      obtain ⟨W, hrun, h2, h3⟩ := run_dotv V g _ hB rfl a b
      refine ⟨by simp [famWants], ?_⟩
      simp only [execOp, rho, hf, hl, Sem.run_bind, Sem.run_pure, Result.andThen_ok, hrun, famUpon]
      exact ⟨h3, h2⟩
    · trivial
  · intro u v4 hb24 hu hmd hdis
    have e15 : u 15 = sv U A n c := hu 15 (by decide)
    have e17 : u 17 = sv U' A' n' c' := hu 17 (by decide)
    have e19 : u 19 = sv U'' A'' n'' c'' := hu 19 (by decide)
    have e21 : u 21 = .agg #[.int .i64 a, .int .i64 b] := hu 21 (by decide)
    have e14 : u 14 = .pointer (some ⟨g0, 0, none⟩) := hu 14 (by decide)
    have e16 : u 16 = .pointer (some ⟨g0, 9, none⟩) := hu 16 (by decide)
    have e18 : u 18 = .pointer (some ⟨g0, 18, none⟩) := hu 18 (by decide)
    have e20 : u 20 = .pointer (some ⟨g0, 27, none⟩) := hu 20 (by decide)
    simp only [List.forall_mem_cons, List.not_mem_nil, false_imp_iff, implies_true, and_true] at hmd
    obtain ⟨⟨ga, e3, hga, hA4⟩, ⟨gb, e4, hgb, hB4⟩, ⟨gc, e5, hgc, hC4⟩, ⟨gd, e6, hgd, hD4⟩⟩ := hmd
    simp only [List.drop_succ_cons, List.drop_zero, fill, Act.put, List.setIfInBounds_toArray, List.set_cons_zero, List.set_cons_succ, e15, e17, e19, e21, e3, e4, e5, e6, e14, e16, e18, e20]
    refine wpList_nil ?_
    clear hu hdis e15 e17 e19 e21 e3 e4 e5 e6 e14 e16 e18 e20
    have hr4 := hr2.new hb24
    have hr4' := hr2'.new hb24
    have hr4'' := hr2''.new hb24
    have hb04 := below_new hb02 hb24
    clear hga hgb hgc hgd hb24 hr2 hr2' hr2'' hb02 HC
    obtain ⟨x0, x1, x2, x3, x4, x5, x6, x7, x8⟩ := set9 hA4
    obtain ⟨y0, y1, y2, y3, y4, y5, y6, y7, y8⟩ := set9 hB4
    obtain ⟨z0, z1, z2, z3, z4, z5, z6, z7, z8⟩ := set9 hC4
    have hG := great_any 3 v4.heap.size (three U U' U'') (three A A' A'') (three n n' n'') (three c c' c'') (v4.alloc (.cells (scs3 U A n c U' A' n' c' U'' A'' n'' c'') 25)) (by omega) (setAt_three v4 U A n c U' A' n' c' U'' A'' n'' c'' _) hnm
    rw [big_three] at hG
    clear hnm
    by_cases hbig : 1000 < n ∨ 1000 < n' ∨ 1000 < n''
    · have hd : (decide (1000 < n) || decide (1000 < n') || decide (1000 < n'')) = true := by simpa [or_assoc] using hbig
      rw [hd] at hG
      clear hd
      go_wp2_with fail
      refine hG.mono ?_
      rintro e w3 ⟨rfl, hb3⟩
      clear hG x0 x1 x2 x3 x4 x5 x6 x7 x8 z0 z1 z2 z3 z4 z5 z6 z7 z8 y0 y1 y2 y3 y4 y5 y6 y7 y8
      go_wp2
      go_ret
      exact ⟨rfl, below_new (below_new hb04 (b_alloc _ _)) hb3⟩
    have hd : (decide (1000 < n) || decide (1000 < n') || decide (1000 < n'')) = false := by simpa [or_assoc, and_assoc] using hbig
    rw [hd] at hG
    clear hd
    have hl : n ≤ 1000000 := by omega
    have hl' : n' ≤ 1000000 := by omega
    have hl'' : n'' ≤ 1000000 := by omega
    go_wp2_with fail
    refine hG.mono ?_
    rintro e w3 ⟨rfl, hb3⟩
    have hA3 := (hA4.alloc (.cells (scs3 U A n c U' A' n' c' U'' A'' n'' c'') 25)).new hb3
    have hB3 := (hB4.alloc (.cells (scs3 U A n c U' A' n' c' U'' A'' n'' c'') 25)).new hb3
    have hC3 := (hC4.alloc (.cells (scs3 U A n c U' A' n' c' U'' A'' n'' c'') 25)).new hb3
    have hD3 := (hD4.alloc (.cells (scs3 U A n c U' A' n' c' U'' A'' n'' c'') 25)).new hb3
    have hr3 := (hr4.alloc (.cells (scs3 U A n c U' A' n' c' U'' A'' n'' c'') 25)).new hb3
    have hr3' := (hr4'.alloc (.cells (scs3 U A n c U' A' n' c' U'' A'' n'' c'') 25)).new hb3
    have hr3'' := (hr4''.alloc (.cells (scs3 U A n c U' A' n' c' U'' A'' n'' c'') 25)).new hb3
    have hb03 := below_new (below_new hb04 (b_alloc _ _)) hb3
    clear hG x0 x1 x2 x3 x4 x5 x6 x7 x8 z0 z1 z2 z3 z4 z5 z6 z7 z8 y0 y1 y2 y3 y4 y5 y6 y7 y8 hA4 hB4 hC4 hD4 hr4 hr4' hr4'' hb04 hb3
    have HCA : Hid (∀ V, Grows w3 V → _) := Lib.hid (fun V hV => set9 (hA3.new hV))
    have HCB : Hid (∀ V, Grows w3 V → _) := Lib.hid (fun V hV => set9 (hB3.new hV))
    have HCC : Hid (∀ V, Grows w3 V → _) := Lib.hid (fun V hV => set9 (hC3.new hV))
    have HT1 : Hid (∀ V, Grows w3 V → Calls Try.prog 10 #[sv U A n c] V fun e w' => ∃ A' c', e = .returned (sv U A' n c') ∧ Copy w' V.heap.size A' c' M ∧ Below V.heap.size V w') := Lib.hid (fun V hV => by
      have := to_any _ U A n c M V HN.out (hr3.new hV) hl
      unfold CopyPost at this
      rw [HN.out] at this
      exact this)
    have HT2 : Hid (∀ V, Grows w3 V → Calls Try.prog 10 #[sv U' A' n' c'] V fun e w' => ∃ A' c', e = .returned (sv U' A' n' c') ∧ Copy w' V.heap.size A' c' M' ∧ Below V.heap.size V w') := Lib.hid (fun V hV => by
      have := to_any _ U' A' n' c' M' V HN'.out (hr3'.new hV) hl'
      unfold CopyPost at this
      rw [HN'.out] at this
      exact this)
    have HT3 : Hid (∀ V, Grows w3 V → Calls Try.prog 10 #[sv U'' A'' n'' c''] V fun e w' => ∃ A' c', e = .returned (sv U'' A' n'' c') ∧ Copy w' V.heap.size A' c' M'' ∧ Below V.heap.size V w') := Lib.hid (fun V hV => by
      have := to_any _ U'' A'' n'' c'' M'' V HN''.out (hr3''.new hV) hl''
      unfold CopyPost at this
      rw [HN''.out] at this
      exact this)
    go_wp2_with fail
    refine wp_famF (n := 9) (size := 103) (D := [27, 28, 29, 30, 31, 32, 7, 8, 9]) [] [(27, isV (sv U A n c)), (28, copyS U w3.heap.size n M), (29, isV (sv U' A' n' c')), (30, copyS U' w3.heap.size n' M'), (31, isV (sv U'' A'' n'' c'')), (32, copyS U'' w3.heap.size n'' M''), (7, ptrV w3.heap.size 30 (scs (fun _ => 0) none 0 0)), (8, ptrV w3.heap.size 30 (scs (fun _ => 0) none 0 0)), (9, ptrV w3.heap.size 30 (scs (fun _ => 0) none 0 0))] (by kernel_rfl) (by rfl) (by kernel_rfl) (fun _ _ d _ _ h => by cases d <;> exact h) ?_ ?_
    · simp only [List.take_succ_cons, List.take_zero, famAllF]
      repeat' apply And.intro
      · rw [if_neg (by decide)]
        intro f V hg hl
        obtain ⟨z0, z1, z2, z3, z4, z5, z6, z7, z8⟩ := HCA.out V hg
        simp [Oper.looksAt, Op.operands, Call.operands, famAt, famOf, isV] at hl
        simp [famWants, boolIs_bool, boolIs_undef, execOp, rho, go_sem, hl, z0, z1, z2, z3, z4, z5, z6, z7, z8, famUpon, famOf, isV, isAlloc, Grows.refl]
      · rw [if_neg (by decide)]
        intro f V hg hl
        simp [Oper.looksAt, Op.operands, Call.operands, famAt, famOf, isV] at hl
        simp [famWants, boolIs_bool, boolIs_undef, execOp, rho, go_sem, hl, famUpon, famOf, isV, isAlloc, Grows.refl]
        refine (HT1.out V hg).mono ?_
        rintro e w'' ⟨B, d, rfl, hc, hb⟩
        exact ⟨_, rfl, hb, B, d, rfl, hc.mono (Below.size hg)⟩
      · rw [if_neg (by decide)]
        intro f V hg hl
        obtain ⟨z0, z1, z2, z3, z4, z5, z6, z7, z8⟩ := HCB.out V hg
        simp [Oper.looksAt, Op.operands, Call.operands, famAt, famOf, isV] at hl
        simp [famWants, boolIs_bool, boolIs_undef, execOp, rho, go_sem, hl, z0, z1, z2, z3, z4, z5, z6, z7, z8, famUpon, famOf, isV, isAlloc, Grows.refl]
      · rw [if_neg (by decide)]
        intro f V hg hl
        simp [Oper.looksAt, Op.operands, Call.operands, famAt, famOf, isV] at hl
        simp [famWants, boolIs_bool, boolIs_undef, execOp, rho, go_sem, hl, famUpon, famOf, isV, isAlloc, Grows.refl]
        refine (HT2.out V hg).mono ?_
        rintro e w'' ⟨B, d, rfl, hc, hb⟩
        exact ⟨_, rfl, hb, B, d, rfl, hc.mono (Below.size hg)⟩
      · rw [if_neg (by decide)]
        intro f V hg hl
        obtain ⟨z0, z1, z2, z3, z4, z5, z6, z7, z8⟩ := HCC.out V hg
        simp [Oper.looksAt, Op.operands, Call.operands, famAt, famOf, isV] at hl
        simp [famWants, boolIs_bool, boolIs_undef, execOp, rho, go_sem, hl, z0, z1, z2, z3, z4, z5, z6, z7, z8, famUpon, famOf, isV, isAlloc, Grows.refl]
      · rw [if_neg (by decide)]
        intro f V hg hl
        simp [Oper.looksAt, Op.operands, Call.operands, famAt, famOf, isV] at hl
        simp [famWants, boolIs_bool, boolIs_undef, execOp, rho, go_sem, hl, famUpon, famOf, isV, isAlloc, Grows.refl]
        refine (HT3.out V hg).mono ?_
        rintro e w'' ⟨B, d, rfl, hc, hb⟩
        exact ⟨_, rfl, hb, B, d, rfl, hc.mono (Below.size hg)⟩
      · rw [if_neg (by decide)]
        intro f V hg hl
        simp [Oper.looksAt, Op.operands, Call.operands, famAt, famOf, isV] at hl
        simp [famWants, boolIs_bool, boolIs_undef, execOp, rho, go_sem, hl, Grows.alloc, famUpon, famOf, isV, isAlloc, Grows.refl]
        exact ⟨_, rfl, Blo.made _ _ _, Below.size hg⟩
      · rw [if_neg (by decide)]
        intro f V hg hl
        simp [Oper.looksAt, Op.operands, Call.operands, famAt, famOf, isV] at hl
        simp [famWants, boolIs_bool, boolIs_undef, execOp, rho, go_sem, hl, Grows.alloc, famUpon, famOf, isV, isAlloc, Grows.refl]
        exact ⟨_, rfl, Blo.made _ _ _, Below.size hg⟩
      · rw [if_neg (by decide)]
        intro f V hg hl
        simp [Oper.looksAt, Op.operands, Call.operands, famAt, famOf, isV] at hl
        simp [famWants, boolIs_bool, boolIs_undef, execOp, rho, go_sem, hl, Grows.alloc, famUpon, famOf, isV, isAlloc, Grows.refl]
        exact ⟨_, rfl, Blo.made _ _ _, Below.size hg⟩
      · trivial
    · intro u V hg hu hdis
      obtain ⟨Ax, cx, e28, hCx⟩ : ∃ A c, u 28 = sv U A n c ∧ Copy V w3.heap.size A c M := hu 28 (by decide)
      obtain ⟨Ay, cy, e30, hCy⟩ : ∃ A c, u 30 = sv U' A n' c ∧ Copy V w3.heap.size A c M' := hu 30 (by decide)
      obtain ⟨Az, cz, e32, hCz⟩ : ∃ A c, u 32 = sv U'' A n'' c ∧ Copy V w3.heap.size A c M'' := hu 32 (by decide)
      obtain ⟨gx, e7, hBx, hgx⟩ : ∃ g, u 7 = .pointer (some ⟨g, 0, none⟩) ∧ Blo V g 30 (scs (fun _ => 0) none 0 0) ∧ w3.heap.size ≤ g := hu 7 (by decide)
      obtain ⟨gy, e8, hBy, hgy⟩ : ∃ g, u 8 = .pointer (some ⟨g, 0, none⟩) ∧ Blo V g 30 (scs (fun _ => 0) none 0 0) ∧ w3.heap.size ≤ g := hu 8 (by decide)
      obtain ⟨gz, e9, hBz, hgz⟩ : ∃ g, u 9 = .pointer (some ⟨g, 0, none⟩) ∧ Blo V g 30 (scs (fun _ => 0) none 0 0) ∧ w3.heap.size ≤ g := hu 9 (by decide)
      have hxy : gx ≠ gy := fun e => hdis 6 7 7 8 (by omega) (by omega) (by omega) (by rfl) (by rfl) (by rfl) (by rfl) (by rw [e7, e8, e])
      have hxz : gx ≠ gz := fun e => hdis 6 8 7 9 (by omega) (by omega) (by omega) (by rfl) (by rfl) (by rfl) (by rfl) (by rw [e7, e9, e])
      have hyz : gy ≠ gz := fun e => hdis 7 8 8 9 (by omega) (by omega) (by omega) (by rfl) (by rfl) (by rfl) (by rfl) (by rw [e8, e9, e])
      simp only [List.drop_succ_cons, List.drop_zero, fill, Act.put, List.setIfInBounds_toArray, List.set_cons_zero, List.set_cons_succ, e28, e30, e32, e7, e8, e9]
      clear hu hdis e28 e30 e32 e7 e8 e9 HCA HCB HCC HT1 HT2 HT3 hA3 hB3 hC3 hr3 hr3' hr3''
      go_wp2_with (refine wpList_setv _ rfl 30 _ _ rfl Try.sizeSet gx _ rfl U Ax n cx rfl hBx rfl ?_)
      intro v1 hBx1 hv1
      have hBy1 := hBy.grown hv1 (fun e => hxy (by injection e with e; exact e.symm))
      have hBz1 := hBz.grown hv1 (fun e => hxz (by injection e with e; exact e.symm))
      have hCx1 := hCx.far hBx (by decide) hv1
      have hCy1 := hCy.far hBx (by decide) hv1
      have hCz1 := hCz.far hBx (by decide) hv1
      have hb31 : Below w3.heap.size w3 v1 := Below.grown hg hv1 (Below.size hg) (fun k hk => by injection hk with hk; omega)
      have hs31 := hb31.size
      clear hBx hBy hBz hCx hCy hCz hv1 hg
      go_wp2_with (refine wpList_setv _ rfl 30 _ _ rfl Try.sizeSet gy _ rfl U' Ay n' cy rfl hBy1 rfl ?_)
      intro v2 hBy2 hv2
      have hBx2 := hBx1.grown hv2 (fun e => hxy (by injection e))
      have hBz2 := hBz1.grown hv2 (fun e => hyz (by injection e with e; exact e.symm))
      have hCx2 := hCx1.far hBy1 (by decide) hv2
      have hCy2 := hCy1.far hBy1 (by decide) hv2
      have hCz2 := hCz1.far hBy1 (by decide) hv2
      have hb32 : Below w3.heap.size w3 v2 := hb31.grown hv2 hs31 (fun k hk => by injection hk with hk; omega)
      have hs32 := hb32.size
      clear hBx1 hBy1 hBz1 hCx1 hCy1 hCz1 hv2 hb31 hs31
      go_wp2_with (refine wpList_setv _ rfl 30 _ _ rfl Try.sizeSet gz _ rfl U'' Az n'' cz rfl hBz2 rfl ?_)
      intro w5 hZ5 hv3
      have hX5 := hBx2.grown hv3 (fun e => hxz (by injection e))
      have hY5 := hBy2.grown hv3 (fun e => hyz (by injection e))
      have hCx5 := hCx2.far hBz2 (by decide) hv3
      have hCy5 := hCy2.far hBz2 (by decide) hv3
      have hCz5 := hCz2.far hBz2 (by decide) hv3
      have hb35 : Below w3.heap.size w3 w5 := hb32.grown hv3 hs32 (fun k hk => by injection hk with hk; omega)
      have hD5 := hD3.new hb35
      have hb05 := below_new hb03 hb35
      clear hBx2 hBy2 hBz2 hCx2 hCy2 hCz2 hv3 hb32 hs32 hb35 hD3 hb03 hgx hgy hgz hxy hxz hyz
      obtain ⟨x0, x1, x2, x3, x4, x5, x6, x7, x8⟩ := set9 hX5
      obtain ⟨y0, y1, y2, y3, y4, y5, y6, y7, y8⟩ := set9 hY5
      obtain ⟨TJ, hTJ⟩ : ∃ T, T = D.join U M U' M' := ⟨_, rfl⟩
      obtain ⟨UJ, hUJ⟩ : ∃ V, V = D.cU TJ := ⟨_, rfl⟩
      obtain ⟨MJ, hMJ⟩ : ∃ V, V = D.cM TJ := ⟨_, rfl⟩
      have hMl : MJ.length ≤ 768 := by rw [hMJ]; exact D.cM_len _
      obtain ⟨N, hNe⟩ : ∃ N, MJ.length = N := ⟨_, rfl⟩
      rw [hNe] at hMl
      have hJ := djoin_as hUJ hMJ hNe U Ax n cx M U' Ay n' cy M' w5 (fun d _ => by rw [hTJ]) HN.out hCx5.at hl HN'.out hCy5.at hl'
      have HTJ := Lib.hid hTJ
      have HUJ := Lib.hid hUJ
      have HMJ := Lib.hid hMJ
      have HNA := Lib.hid hNe
      clear hTJ hUJ hMJ hNe
      go_wp2_with fail
      refine hJ.mono ?_
      rintro e w6 ⟨A6, c6, rfl, hR6, hb6⟩
      obtain ⟨w7, hw7⟩ : ∃ W, w6.alloc (.cells (scs UJ A6 N c6) 30) = W := ⟨_, rfl⟩
      have hb7 : Below w6.heap.size w6 w7 := by rw [← hw7]; exact b_alloc _ _
      have hJ7 : Blo w7 w6.heap.size 30 (scs UJ A6 N c6) := by rw [← hw7]; exact Blo.made _ _ _
      have hb57 := below_new hb6 hb7
      have hX7 := hX5.new hb57
      have hY7 := hY5.new hb57
      have hZ7 := hZ5.new hb57
      have hD7 := hD5.new hb57
      have hCx7 := hCx5.new hb57
      have hCy7 := hCy5.new hb57
      have hCz7 := hCz5.new hb57
      have hR7 := hR6.new hb7
      have hb07 := below_new hb05 hb57
      have HW7 := Lib.hid hw7
      obtain ⟨gj, hgj⟩ : ∃ g, g = w6.heap.size := ⟨_, rfl⟩
      rw [← hgj] at hJ7
      have HGJ := Lib.hid hgj
      clear hJ x0 x1 x2 x3 x4 x5 x6 x7 x8 y0 y1 y2 y3 y4 y5 y6 y7 y8 hw7 hR6 hb6 hb7 hgj hX5 hY5 hZ5 hD5 hCx5 hCy5 hCz5 hb05 hb57
      have hRj := hR7.rdsT
      have HCX : Hid (∀ V, Grows w7 V → _) := Lib.hid (fun V hV => set9 (hX7.new hV))
      have HCY : Hid (∀ V, Grows w7 V → _) := Lib.hid (fun V hV => set9 (hY7.new hV))
      have HCZ : Hid (∀ V, Grows w7 V → _) := Lib.hid (fun V hV => set9 (hZ7.new hV))
      have HCJ : Hid (∀ V, Grows w7 V → _) := Lib.hid (fun V hV => set9 (hJ7.new hV))
      have HCD : Hid (∀ V, Grows w7 V → V.cell? ⟨gd, 0, none⟩ = some (.int .i64 a) ∧ V.cell? ⟨gd, 1, none⟩ = some (.int .i64 b)) := Lib.hid (fun V hV => ⟨by simpa using (hD7.new hV).cell 0, by simpa using (hD7.new hV).cell 1⟩)
      obtain ⟨T3, hT3⟩ : ∃ T, T = D.join UJ MJ U'' M'' := ⟨_, rfl⟩
      obtain ⟨U3, hU3⟩ : ∃ V, V = D.cU T3 := ⟨_, rfl⟩
      obtain ⟨M3, hM3⟩ : ∃ V, V = D.cM T3 := ⟨_, rfl⟩
      have hM3l : M3.length ≤ 768 := by rw [hM3]; exact D.cM_len _
      obtain ⟨N3, hN3⟩ : ∃ N, M3.length = N := ⟨_, rfl⟩
      rw [hN3] at hM3l
      obtain ⟨T2, hT2⟩ : ∃ T, T = D.join U' M' U'' M'' := ⟨_, rfl⟩
      obtain ⟨U2, hU2⟩ : ∃ V, V = D.cU T2 := ⟨_, rfl⟩
      obtain ⟨M2, hM2⟩ : ∃ V, V = D.cM T2 := ⟨_, rfl⟩
      have hM2l : M2.length ≤ 768 := by rw [hM2]; exact D.cM_len _
      obtain ⟨N2, hN2⟩ : ∃ N, M2.length = N := ⟨_, rfl⟩
      rw [hN2] at hM2l
      have HYX : Hid (∀ (V : World), Grows w7 V → Calls Try.prog 24 #[sv U' Ay n' cy, sv U Ax n cx] V fun e w' => ∃ B d, e = .returned (sv UJ B N d) ∧ DRow w' V.heap.size (.slice B N d) MJ ∧ Below V.heap.size V w') := Lib.hid (fun V hV => djoin_as HUJ.out HMJ.out HNA.out U' Ay n' cy M' U Ax n cx M V (fun d h => by rw [HTJ.out]; exact D.j_turn U M U' M' d h) HN'.out (hCy7.at.new hV) hl' HN.out (hCx7.at.new hV) hl)
      have HJZ : Hid (∀ (V : World), Grows w7 V → Calls Try.prog 24 #[sv UJ A6 N c6, sv U'' Az n'' cz] V fun e w' => ∃ B d, e = .returned (sv U3 B N3 d) ∧ DRow w' V.heap.size (.slice B N3 d) M3 ∧ Below V.heap.size V w') := Lib.hid (fun V hV => djoin_as hU3 hM3 hN3 UJ A6 N c6 MJ U'' Az n'' cz M'' V (fun d _ => by rw [hT3]) HNA.out (hRj.new hV) (by omega) HN''.out (hCz7.at.new hV) hl'')
      have HYZ : Hid (∀ (V : World), Grows w7 V → Calls Try.prog 24 #[sv U' Ay n' cy, sv U'' Az n'' cz] V fun e w' => ∃ B d, e = .returned (sv U2 B N2 d) ∧ DRow w' V.heap.size (.slice B N2 d) M2 ∧ Below V.heap.size V w') := Lib.hid (fun V hV => djoin_as hU2 hM2 hN2 U' Ay n' cy M' U'' Az n'' cz M'' V (fun d _ => by rw [hT2]) HN'.out (hCy7.at.new hV) hl' HN''.out (hCz7.at.new hV) hl'')
      have HX2 : Hid (∀ (V : World) (B2 : Option Addr) (d2 : Nat), Grows w7 V → DRow V w7.heap.size (.slice B2 N2 d2) M2 → Calls Try.prog 24 #[sv U Ax n cx, sv U2 B2 N2 d2] V fun e w' => ∃ B d, e = .returned (sv U3 B N3 d) ∧ DRow w' V.heap.size (.slice B N3 d) M3 ∧ Below V.heap.size V w') := Lib.hid (fun V B2 d2 hV h2 => djoin_as hU3 hM3 hN3 U Ax n cx M U2 B2 N2 d2 M2 V (fun d h => by rw [hT3, hU2, hM2, hT2, HUJ.out, HMJ.out, HTJ.out]; exact D.j_three U M U' M' U'' M'' d h) HN.out (hCx7.at.new hV) hl hN2 h2.rdsT (by omega))
      have HJX : Hid (∀ (V : World), Grows w7 V → Calls Try.prog 24 #[sv UJ A6 N c6, sv U Ax n cx] V fun e w' => ∃ B d, e = .returned (sv UJ B N d) ∧ DRow w' V.heap.size (.slice B N d) MJ ∧ Below V.heap.size V w') := Lib.hid (fun V hV => djoin_as HUJ.out HMJ.out HNA.out UJ A6 N c6 MJ U Ax n cx M V (fun d h => by rw [HUJ.out, HMJ.out, HTJ.out]; exact D.j_once U M U' M' d h) HNA.out (hRj.new hV) (by omega) HN.out (hCx7.at.new hV) hl)
      have HJJ : Hid (∀ (V : World), Grows w7 V → Calls Try.prog 24 #[sv UJ A6 N c6, sv UJ A6 N c6] V fun e w' => ∃ B d, e = .returned (sv UJ B N d) ∧ DRow w' V.heap.size (.slice B N d) MJ ∧ Below V.heap.size V w') := Lib.hid (fun V hV => djoin_as HUJ.out HMJ.out HNA.out UJ A6 N c6 MJ UJ A6 N c6 MJ V (fun d h => by rw [HUJ.out, HMJ.out, HTJ.out]; exact D.j_self U M U' M' d h) HNA.out (hRj.new hV) (by omega) HNA.out (hRj.new hV) (by omega))
      have HS1 : Hid (∀ (V : World) (B : Option Addr) (d : Nat), Grows w7 V → DRow V w7.heap.size (.slice B N d) MJ → Calls Try.prog 33 #[sv UJ A6 N c6, sv UJ B N d] V fun e w' => e = .returned (.bool true) ∧ Grows V w') := Lib.hid (fun V B d hV h => same1_any _ _ UJ A6 B N c6 d MJ V HNA.out (hRj.new hV) h.rdsT (by omega))
      have HS2 : Hid (∀ (V : World) (B : Option Addr) (d : Nat), Grows w7 V → DRow V w7.heap.size (.slice B N d) MJ → Calls Try.prog 33 #[sv UJ B N d, sv UJ A6 N c6] V fun e w' => e = .returned (.bool true) ∧ Grows V w') := Lib.hid (fun V B d hV h => same1_any _ _ UJ B A6 N d c6 MJ V HNA.out h.rdsT (hRj.new hV) (by omega))
      have HS3 : Hid (∀ (V : World) (B1 B2 : Option Addr) (d1 d2 : Nat), DRow V w7.heap.size (.slice B1 N3 d1) M3 → DRow V w7.heap.size (.slice B2 N3 d2) M3 → Calls Try.prog 33 #[sv U3 B1 N3 d1, sv U3 B2 N3 d2] V fun e w' => e = .returned (.bool true) ∧ Grows V w') := Lib.hid (fun V B1 B2 d1 d2 h1 h2 => same1_any _ _ U3 B1 B2 N3 d1 d2 M3 V hN3 h1.rdsT h2.rdsT (by omega))
      have HRt : Hid (∀ (V : World), Grows w7 V → Calls Try.prog 15 #[sv UJ A6 N c6] V fun e w' => e = .returned (.bool true) ∧ Grows V w') := Lib.hid (fun V hV => by
        have := right_any _ UJ A6 N c6 MJ V HNA.out (hRj.new hV) (by omega)
        rw [HUJ.out, HMJ.out, D.cl_rt, ← HUJ.out] at this
        exact this)
      clear hT3 hU3 hM3 hN3 hT2 hU2 hM2 hN2
      go_wp2_with fail
      rw [HW7.out, ← HGJ.out]
      refine wp_fam (n := 43) (size := 103) (D := [36, 37, 38, 39, 40, 41, 42, 43, 44, 45, 46, 47, 48, 49, 50, 51, 52, 53, 54, 55, 56, 57, 58, 59, 60, 61, 62, 63, 64, 65, 66, 67, 68, 69, 70, 71, 72, 73, 74, 75, 76, 77, 78]) [(36, isV (.func (.func 33) #[] #[])), (37, isV (sv UJ A6 N c6)), (38, isV (sv U' Ay n' cy)), (39, isV (sv U Ax n cx)), (40, ownS UJ w7.heap.size N MJ), (41, isV (.bool true)), (42, isV (.bool false)), (43, isV (.bool false)), (44, isV (.func (.func 33) #[] #[])), (45, isV (sv UJ A6 N c6)), (46, isV (sv U'' Az n'' cz)), (47, ownS U3 w7.heap.size N3 M3), (48, isV (sv U Ax n cx)), (49, isV (sv U' Ay n' cy)), (50, isV (sv U'' Az n'' cz)), (51, ownS U2 w7.heap.size N2 M2), (52, ownS U3 w7.heap.size N3 M3), (53, isV (.bool true)), (54, isV (.bool false)), (55, isV (.bool false)), (56, isV (.bool false)), (57, isV (.func (.func 33) #[] #[])), (58, isV (sv UJ A6 N c6)), (59, isV (sv U Ax n cx)), (60, ownS UJ w7.heap.size N MJ), (61, isV (sv UJ A6 N c6)), (62, isV (.bool true)), (63, isV (.bool false)), (64, isV (.bool false)), (65, isV (.bool false)), (66, isV (.func (.func 33) #[] #[])), (67, isV (sv UJ A6 N c6)), (68, isV (sv UJ A6 N c6)), (69, ownS UJ w7.heap.size N MJ), (70, isV (sv UJ A6 N c6)), (71, isV (.bool true)), (72, isV (.bool false)), (73, isV (.bool false)), (74, isV (.bool false)), (75, isV (sv UJ A6 N c6)), (76, isV (.bool true)), (77, isV (.bool false)), (78, isV (.bool false))] (by kernel_rfl) (by rfl) (by kernel_rfl) ?_ ?_
      · simp only [List.take_succ_cons, List.take_zero, famAll]
        repeat' apply And.intro
        · intro f V hg hl
          simp [Oper.looksAt, Op.operands, Call.operands, famAt, famOf, isV] at hl
          simp [famWants, boolIs_bool, boolIs_undef, execOp, rho, go_sem, hl, famUpon, famOf, isV, Grows.refl]
        · intro f V hg hl
          obtain ⟨z0, z1, z2, z3, z4, z5, z6, z7, z8⟩ := HCJ.out V hg
          simp [Oper.looksAt, Op.operands, Call.operands, famAt, famOf, isV] at hl
          simp [famWants, boolIs_bool, boolIs_undef, execOp, rho, go_sem, hl, z0, z1, z2, z3, z4, z5, z6, z7, z8, famUpon, famOf, isV, Grows.refl]
        · intro f V hg hl
          obtain ⟨z0, z1, z2, z3, z4, z5, z6, z7, z8⟩ := HCY.out V hg
          simp [Oper.looksAt, Op.operands, Call.operands, famAt, famOf, isV] at hl
          simp [famWants, boolIs_bool, boolIs_undef, execOp, rho, go_sem, hl, z0, z1, z2, z3, z4, z5, z6, z7, z8, famUpon, famOf, isV, Grows.refl]
        · intro f V hg hl
          obtain ⟨z0, z1, z2, z3, z4, z5, z6, z7, z8⟩ := HCX.out V hg
          simp [Oper.looksAt, Op.operands, Call.operands, famAt, famOf, isV] at hl
          simp [famWants, boolIs_bool, boolIs_undef, execOp, rho, go_sem, hl, z0, z1, z2, z3, z4, z5, z6, z7, z8, famUpon, famOf, isV, Grows.refl]
        · intro f V hg hl
          simp [Oper.looksAt, Op.operands, Call.operands, famAt, famOf, isV] at hl
          simp [famWants, boolIs_bool, boolIs_undef, execOp, rho, go_sem, hl, famUpon, famOf, isV, Grows.refl]
          refine (HYX.out V hg).mono ?_
          rintro e w'' ⟨B, d, rfl, hR, hb⟩
          exact ⟨_, rfl, hb, B, d, rfl, hR.mono (Below.size hg)⟩
        · intro f V hg hl
          simp [Oper.looksAt, Op.operands, Call.operands, famAt, famOf, isV] at hl
          obtain ⟨e36, e37, B, d, e40, h⟩ := hl
          have hl := e36
          simp [famWants, boolIs_bool, boolIs_undef, execOp, rho, go_sem, hl, e37, e40, famUpon, famOf, isV, Grows.refl]
          exact HS1.out V B d hg h
        · intro f V hg hl
          simp [Oper.looksAt, Op.operands, Call.operands, famAt, famOf, isV] at hl
          simp [famWants, boolIs_bool, boolIs_undef, execOp, rho, go_sem, hl, famUpon, famOf, isV, Grows.refl]
        · intro f V hg hl
          simp [Oper.looksAt, Op.operands, Call.operands, famAt, famOf, isV] at hl
          simp [famWants, boolIs_bool, boolIs_undef, execOp, rho, go_sem, hl, famUpon, famOf, isV, Grows.refl]
        · intro f V hg hl
          simp [Oper.looksAt, Op.operands, Call.operands, famAt, famOf, isV] at hl
          simp [famWants, boolIs_bool, boolIs_undef, execOp, rho, go_sem, hl, famUpon, famOf, isV, Grows.refl]
        · intro f V hg hl
          obtain ⟨z0, z1, z2, z3, z4, z5, z6, z7, z8⟩ := HCJ.out V hg
          simp [Oper.looksAt, Op.operands, Call.operands, famAt, famOf, isV] at hl
          simp [famWants, boolIs_bool, boolIs_undef, execOp, rho, go_sem, hl, z0, z1, z2, z3, z4, z5, z6, z7, z8, famUpon, famOf, isV, Grows.refl]
        · intro f V hg hl
          obtain ⟨z0, z1, z2, z3, z4, z5, z6, z7, z8⟩ := HCZ.out V hg
          simp [Oper.looksAt, Op.operands, Call.operands, famAt, famOf, isV] at hl
          simp [famWants, boolIs_bool, boolIs_undef, execOp, rho, go_sem, hl, z0, z1, z2, z3, z4, z5, z6, z7, z8, famUpon, famOf, isV, Grows.refl]
        · intro f V hg hl
          simp [Oper.looksAt, Op.operands, Call.operands, famAt, famOf, isV] at hl
          simp [famWants, boolIs_bool, boolIs_undef, execOp, rho, go_sem, hl, famUpon, famOf, isV, Grows.refl]
          refine (HJZ.out V hg).mono ?_
          rintro e w'' ⟨B, d, rfl, hR, hb⟩
          exact ⟨_, rfl, hb, B, d, rfl, hR.mono (Below.size hg)⟩
        · intro f V hg hl
          obtain ⟨z0, z1, z2, z3, z4, z5, z6, z7, z8⟩ := HCX.out V hg
          simp [Oper.looksAt, Op.operands, Call.operands, famAt, famOf, isV] at hl
          simp [famWants, boolIs_bool, boolIs_undef, execOp, rho, go_sem, hl, z0, z1, z2, z3, z4, z5, z6, z7, z8, famUpon, famOf, isV, Grows.refl]
        · intro f V hg hl
          obtain ⟨z0, z1, z2, z3, z4, z5, z6, z7, z8⟩ := HCY.out V hg
          simp [Oper.looksAt, Op.operands, Call.operands, famAt, famOf, isV] at hl
          simp [famWants, boolIs_bool, boolIs_undef, execOp, rho, go_sem, hl, z0, z1, z2, z3, z4, z5, z6, z7, z8, famUpon, famOf, isV, Grows.refl]
        · intro f V hg hl
          obtain ⟨z0, z1, z2, z3, z4, z5, z6, z7, z8⟩ := HCZ.out V hg
          simp [Oper.looksAt, Op.operands, Call.operands, famAt, famOf, isV] at hl
          simp [famWants, boolIs_bool, boolIs_undef, execOp, rho, go_sem, hl, z0, z1, z2, z3, z4, z5, z6, z7, z8, famUpon, famOf, isV, Grows.refl]
        · intro f V hg hl
          simp [Oper.looksAt, Op.operands, Call.operands, famAt, famOf, isV] at hl
          simp [famWants, boolIs_bool, boolIs_undef, execOp, rho, go_sem, hl, famUpon, famOf, isV, Grows.refl]
          refine (HYZ.out V hg).mono ?_
          rintro e w'' ⟨B, d, rfl, hR, hb⟩
          exact ⟨_, rfl, hb, B, d, rfl, hR.mono (Below.size hg)⟩
        · intro f V hg hl
          simp [Oper.looksAt, Op.operands, Call.operands, famAt, famOf, isV] at hl
          obtain ⟨e48, ⟨B2, d2, e51, h2⟩, hl⟩ := hl
          simp [famWants, boolIs_bool, boolIs_undef, execOp, rho, go_sem, hl, e48, e51, famUpon, famOf, isV, Grows.refl]
          refine (HX2.out V B2 d2 hg h2).mono ?_
          rintro e w'' ⟨B, d, rfl, hR, hb⟩
          exact ⟨_, rfl, hb, B, d, rfl, hR.mono (Below.size hg)⟩
        · intro f V hg hl
          simp [Oper.looksAt, Op.operands, Call.operands, famAt, famOf, isV] at hl
          obtain ⟨e44, ⟨B1, d1, e47, h1⟩, ⟨B2, d2, e52, h2⟩, hl⟩ := hl
          simp [famWants, boolIs_bool, boolIs_undef, execOp, rho, go_sem, hl, e44, e47, e52, famUpon, famOf, isV, Grows.refl]
          exact HS3.out V B1 B2 d1 d2 h1 h2
        · intro f V hg hl
          simp [Oper.looksAt, Op.operands, Call.operands, famAt, famOf, isV] at hl
          simp [famWants, boolIs_bool, boolIs_undef, execOp, rho, go_sem, hl, famUpon, famOf, isV, Grows.refl]
        · intro f V hg hl
          simp [Oper.looksAt, Op.operands, Call.operands, famAt, famOf, isV] at hl
          simp [famWants, boolIs_bool, boolIs_undef, execOp, rho, go_sem, hl, famUpon, famOf, isV, Grows.refl]
        · intro f V hg hl
          simp [Oper.looksAt, Op.operands, Call.operands, famAt, famOf, isV] at hl
          simp [famWants, boolIs_bool, boolIs_undef, execOp, rho, go_sem, hl, famUpon, famOf, isV, Grows.refl]
        · intro f V hg hl
          simp [Oper.looksAt, Op.operands, Call.operands, famAt, famOf, isV] at hl
          simp [famWants, boolIs_bool, boolIs_undef, execOp, rho, go_sem, hl, famUpon, famOf, isV, Grows.refl]
        · intro f V hg hl
          obtain ⟨z0, z1, z2, z3, z4, z5, z6, z7, z8⟩ := HCJ.out V hg
          simp [Oper.looksAt, Op.operands, Call.operands, famAt, famOf, isV] at hl
          simp [famWants, boolIs_bool, boolIs_undef, execOp, rho, go_sem, hl, z0, z1, z2, z3, z4, z5, z6, z7, z8, famUpon, famOf, isV, Grows.refl]
        · intro f V hg hl
          obtain ⟨z0, z1, z2, z3, z4, z5, z6, z7, z8⟩ := HCX.out V hg
          simp [Oper.looksAt, Op.operands, Call.operands, famAt, famOf, isV] at hl
          simp [famWants, boolIs_bool, boolIs_undef, execOp, rho, go_sem, hl, z0, z1, z2, z3, z4, z5, z6, z7, z8, famUpon, famOf, isV, Grows.refl]
        · intro f V hg hl
          simp [Oper.looksAt, Op.operands, Call.operands, famAt, famOf, isV] at hl
          simp [famWants, boolIs_bool, boolIs_undef, execOp, rho, go_sem, hl, famUpon, famOf, isV, Grows.refl]
          refine (HJX.out V hg).mono ?_
          rintro e w'' ⟨B, d, rfl, hR, hb⟩
          exact ⟨_, rfl, hb, B, d, rfl, hR.mono (Below.size hg)⟩
        · intro f V hg hl
          obtain ⟨z0, z1, z2, z3, z4, z5, z6, z7, z8⟩ := HCJ.out V hg
          simp [Oper.looksAt, Op.operands, Call.operands, famAt, famOf, isV] at hl
          simp [famWants, boolIs_bool, boolIs_undef, execOp, rho, go_sem, hl, z0, z1, z2, z3, z4, z5, z6, z7, z8, famUpon, famOf, isV, Grows.refl]
        · intro f V hg hl
          simp [Oper.looksAt, Op.operands, Call.operands, famAt, famOf, isV] at hl
          obtain ⟨e57, ⟨B, d, e60, h⟩, e61, hl⟩ := hl
          simp [famWants, boolIs_bool, boolIs_undef, execOp, rho, go_sem, hl, e57, e60, e61, famUpon, famOf, isV, Grows.refl]
          exact HS2.out V B d hg h
        · intro f V hg hl
          simp [Oper.looksAt, Op.operands, Call.operands, famAt, famOf, isV] at hl
          simp [famWants, boolIs_bool, boolIs_undef, execOp, rho, go_sem, hl, famUpon, famOf, isV, Grows.refl]
        · intro f V hg hl
          simp [Oper.looksAt, Op.operands, Call.operands, famAt, famOf, isV] at hl
          simp [famWants, boolIs_bool, boolIs_undef, execOp, rho, go_sem, hl, famUpon, famOf, isV, Grows.refl]
        · intro f V hg hl
          simp [Oper.looksAt, Op.operands, Call.operands, famAt, famOf, isV] at hl
          simp [famWants, boolIs_bool, boolIs_undef, execOp, rho, go_sem, hl, famUpon, famOf, isV, Grows.refl]
        · intro f V hg hl
          simp [Oper.looksAt, Op.operands, Call.operands, famAt, famOf, isV] at hl
          simp [famWants, boolIs_bool, boolIs_undef, execOp, rho, go_sem, hl, famUpon, famOf, isV, Grows.refl]
        · intro f V hg hl
          obtain ⟨z0, z1, z2, z3, z4, z5, z6, z7, z8⟩ := HCJ.out V hg
          simp [Oper.looksAt, Op.operands, Call.operands, famAt, famOf, isV] at hl
          simp [famWants, boolIs_bool, boolIs_undef, execOp, rho, go_sem, hl, z0, z1, z2, z3, z4, z5, z6, z7, z8, famUpon, famOf, isV, Grows.refl]
        · intro f V hg hl
          obtain ⟨z0, z1, z2, z3, z4, z5, z6, z7, z8⟩ := HCJ.out V hg
          simp [Oper.looksAt, Op.operands, Call.operands, famAt, famOf, isV] at hl
          simp [famWants, boolIs_bool, boolIs_undef, execOp, rho, go_sem, hl, z0, z1, z2, z3, z4, z5, z6, z7, z8, famUpon, famOf, isV, Grows.refl]
        · intro f V hg hl
          simp [Oper.looksAt, Op.operands, Call.operands, famAt, famOf, isV] at hl
          simp [famWants, boolIs_bool, boolIs_undef, execOp, rho, go_sem, hl, famUpon, famOf, isV, Grows.refl]
          refine (HJJ.out V hg).mono ?_
          rintro e w'' ⟨B, d, rfl, hR, hb⟩
          exact ⟨_, rfl, hb, B, d, rfl, hR.mono (Below.size hg)⟩
        · intro f V hg hl
          obtain ⟨z0, z1, z2, z3, z4, z5, z6, z7, z8⟩ := HCJ.out V hg
          simp [Oper.looksAt, Op.operands, Call.operands, famAt, famOf, isV] at hl
          simp [famWants, boolIs_bool, boolIs_undef, execOp, rho, go_sem, hl, z0, z1, z2, z3, z4, z5, z6, z7, z8, famUpon, famOf, isV, Grows.refl]
        · intro f V hg hl
          simp [Oper.looksAt, Op.operands, Call.operands, famAt, famOf, isV] at hl
          obtain ⟨e66, ⟨B, d, e69, h⟩, e70, hl⟩ := hl
          simp [famWants, boolIs_bool, boolIs_undef, execOp, rho, go_sem, hl, e66, e69, e70, famUpon, famOf, isV, Grows.refl]
          exact HS2.out V B d hg h
        · intro f V hg hl
          simp [Oper.looksAt, Op.operands, Call.operands, famAt, famOf, isV] at hl
          simp [famWants, boolIs_bool, boolIs_undef, execOp, rho, go_sem, hl, famUpon, famOf, isV, Grows.refl]
        · intro f V hg hl
          simp [Oper.looksAt, Op.operands, Call.operands, famAt, famOf, isV] at hl
          simp [famWants, boolIs_bool, boolIs_undef, execOp, rho, go_sem, hl, famUpon, famOf, isV, Grows.refl]
        · intro f V hg hl
          simp [Oper.looksAt, Op.operands, Call.operands, famAt, famOf, isV] at hl
          simp [famWants, boolIs_bool, boolIs_undef, execOp, rho, go_sem, hl, famUpon, famOf, isV, Grows.refl]
        · intro f V hg hl
          obtain ⟨z0, z1, z2, z3, z4, z5, z6, z7, z8⟩ := HCJ.out V hg
          simp [Oper.looksAt, Op.operands, Call.operands, famAt, famOf, isV] at hl
          simp [famWants, boolIs_bool, boolIs_undef, execOp, rho, go_sem, hl, z0, z1, z2, z3, z4, z5, z6, z7, z8, famUpon, famOf, isV, Grows.refl]
        · intro f V hg hl
          simp [Oper.looksAt, Op.operands, Call.operands, famAt, famOf, isV] at hl
          simp [famWants, boolIs_bool, boolIs_undef, execOp, rho, go_sem, hl, famUpon, famOf, isV, Grows.refl]
          exact HRt.out V hg
        · intro f V hg hl
          simp [Oper.looksAt, Op.operands, Call.operands, famAt, famOf, isV] at hl
          simp [famWants, boolIs_bool, boolIs_undef, execOp, rho, go_sem, hl, famUpon, famOf, isV, Grows.refl]
        · intro f V hg hl
          simp [Oper.looksAt, Op.operands, Call.operands, famAt, famOf, isV] at hl
          simp [famWants, boolIs_bool, boolIs_undef, execOp, rho, go_sem, hl, famUpon, famOf, isV, Grows.refl]
        · trivial
      · intro u w8 hg8 hu
        have h78 : u 78 = .bool false := hu 78 (by decide)
        simp only [List.drop_succ_cons, List.drop_zero, fill, Act.put, List.setIfInBounds_toArray, List.set_cons_zero, List.set_cons_succ, h78]
        refine wpList_nil ?_
        have hX8 := hX7.new hg8
        have hY8 := hY7.new hg8
        have hJ8 := hJ7.new hg8
        have hD8 := hD7.new hg8
        have hCx8 := hCx7.new hg8
        have hCy8 := hCy7.new hg8
        have hRj8 := hRj.new hg8
        have hb08 := below_new hb07 hg8
        clear hu h78 HCX HCY HCZ HCJ HCD HYX HJZ HYZ HX2 HJX HJJ HS1 HS2 HS3 HRt hX7 hY7 hZ7 hJ7 hD7 hCx7 hCy7 hCz7 hR7 hRj hg8 hb07
        have HCX : Hid (∀ V, Grows w8 V → _) := Lib.hid (fun V hV => set9 (hX8.new hV))
        have HCY : Hid (∀ V, Grows w8 V → _) := Lib.hid (fun V hV => set9 (hY8.new hV))
        have HCJ : Hid (∀ V, Grows w8 V → _) := Lib.hid (fun V hV => set9 (hJ8.new hV))
        have HCD : Hid (∀ V, Grows w8 V → V.cell? ⟨gd, 0, none⟩ = some (.int .i64 a) ∧ V.cell? ⟨gd, 1, none⟩ = some (.int .i64 b)) := Lib.hid (fun V hV => ⟨by simpa using (hD8.new hV).cell 0, by simpa using (hD8.new hV).cell 1⟩)
        obtain ⟨bx, hbx⟩ : ∃ q, q = D.has U M (a, b) := ⟨_, rfl⟩
        obtain ⟨bY, hbY⟩ : ∃ q, q = D.has U' M' (a, b) := ⟨_, rfl⟩
        obtain ⟨Ls, hLs⟩ : ∃ V, V = D.lst (D.less U' M' U M) := ⟨_, rfl⟩
        have hLl : Ls.length ≤ 768 := by rw [hLs]; exact D.lst_len _
        obtain ⟨NL, hNL⟩ : ∃ N, Ls.length = N := ⟨_, rfl⟩
        rw [hNL] at hLl
        obtain ⟨CX, hCX⟩ : ∃ q, q = D.cnt U M := ⟨_, rfl⟩
        obtain ⟨CJ, hCJ⟩ : ∃ q, q = D.cnt UJ MJ := ⟨_, rfl⟩
        have hsum : CJ = CX + (NL : Int) := by rw [hCJ, hCX, ← hNL, hLs, HUJ.out, HMJ.out, HTJ.out]; exact D.cnt_both U M U' M'
        have hCXi : 0 ≤ CX ∧ CX ≤ 768 := by
          rw [hCX, D.cnt_eq]
          have := D.lst_len (D.has U M)
          omega
        have hwr : IntKind.i64.wrap (CX + (NL : Int)) = CJ := by rw [hsum]; exact Go.IntWalk.i64_in _ (by omega)
        have HHJ : Hid (∀ (V : World), Grows w8 V → Calls Try.prog 17 #[sv UJ A6 N c6, .agg #[.int .i64 a, .int .i64 b]] V fun e w' => e = .returned (.bool (bx || bY)) ∧ Grows V w') := Lib.hid (fun V hV => by
          have := has_any _ UJ A6 N c6 MJ a b V HNA.out (hRj8.new hV) (by omega)
          have e : D.has UJ MJ (a, b) = (bx || bY) := by rw [HUJ.out, HMJ.out, HTJ.out, D.has_both, hbx, hbY]
          rw [e] at this
          exact this)
        have HHX : Hid (∀ (V : World), Grows w8 V → Calls Try.prog 17 #[sv U Ax n cx, .agg #[.int .i64 a, .int .i64 b]] V fun e w' => e = .returned (.bool bx) ∧ Grows V w') := Lib.hid (fun V hV => by
          have := has_any _ U Ax n cx M a b V HN.out (hCx8.at.new hV) hl
          rw [← hbx] at this
          exact this)
        have HHY : Hid (∀ (V : World), Grows w8 V → Calls Try.prog 17 #[sv U' Ay n' cy, .agg #[.int .i64 a, .int .i64 b]] V fun e w' => e = .returned (.bool bY) ∧ Grows V w') := Lib.hid (fun V hV => by
          have := has_any _ U' Ay n' cy M' a b V HN'.out (hCy8.at.new hV) hl'
          rw [← hbY] at this
          exact this)
        have HKJ : Hid (∀ (V : World), Grows w8 V → Calls Try.prog 21 #[sv UJ A6 N c6] V fun e w' => e = .returned (.int .i64 CJ) ∧ Grows V w') := Lib.hid (fun V hV => by
          have := count_any _ UJ A6 N c6 MJ V HNA.out (hRj8.new hV) (by omega)
          rw [← hCJ] at this
          exact this)
        have HKX : Hid (∀ (V : World), Grows w8 V → Calls Try.prog 21 #[sv U Ax n cx] V fun e w' => e = .returned (.int .i64 CX) ∧ Grows V w') := Lib.hid (fun V hV => by
          have := count_any _ U Ax n cx M V HN.out (hCx8.at.new hV) hl
          rw [← hCX] at this
          exact this)
        have HLe : Hid (∀ V, Grows w8 V → Calls Try.prog 26 #[sv U' Ay n' cy, sv U Ax n cx] V fun e w' => ∃ A' c', e = .returned (.slice A' NL c') ∧ DRow w' V.heap.size (.slice A' NL c') Ls ∧ Below V.heap.size V w') := Lib.hid (fun V hV => by
          have := dless_any _ _ U' Ay n' cy M' U Ax n cx M V HN'.out (hCy8.at.new hV) hl' HN.out (hCx8.at.new hV) hl
          rw [← hLs] at this
          unfold DotsPost at this
          rw [hNL] at this
          exact this)
        have HWr := Lib.hid hwr
        clear hbx hbY hLs hNL hCX hCJ hsum hwr hX8 hY8 hJ8 hD8 hCx8 hCy8 hRj8
        go_wp2_with fail
        cases bx with
        | true =>
          try simp only [Bool.true_or] at HHJ
          refine wp_fam (n := 25) (size := 103) (D := [79, 80, 81, 82, 83, 84, 85, 86, 87, 88, 89, 90, 91, 92, 93, 94, 95, 96, 97, 98, 99, 100, 101, 102, 2]) [(79, isV (sv UJ A6 N c6)), (80, isV (.agg #[.int .i64 a, .int .i64 b])), (81, isV (.bool true)), (82, isV (sv U Ax n cx)), (83, isV (.agg #[.int .i64 a, .int .i64 b])), (84, isV (.bool true)), (85, isV (.bool true)), (86, isV (undef)), (87, isV (undef)), (88, isV (undef)), (89, isV (.bool true)), (90, isV (.bool true)), (91, isV (.bool true)), (92, isV (sv UJ A6 N c6)), (93, isV (.int .i64 CJ)), (94, isV (sv U Ax n cx)), (95, isV (.int .i64 CX)), (96, isV (sv U' Ay n' cy)), (97, isV (sv U Ax n cx)), (98, ownD w8.heap.size NL Ls), (99, isV (.int .i64 (NL : Int))), (100, isV (.int .i64 CJ)), (101, isV (.bool true)), (102, isV (.bool true)), (2, isV (.bool true))] (by kernel_rfl) (by rfl) (by kernel_rfl) ?_ ?_
          · simp only [List.take_succ_cons, List.take_zero, famAll]
            repeat' apply And.intro
            · intro f V hg hl
              obtain ⟨z0, z1, z2, z3, z4, z5, z6, z7, z8⟩ := HCJ.out V hg
              simp [Oper.looksAt, Op.operands, Call.operands, famAt, famOf, isV] at hl
              simp [famWants, boolIs_bool, boolIs_undef, execOp, rho, go_sem, hl, z0, z1, z2, z3, z4, z5, z6, z7, z8, famUpon, famOf, isV, Grows.refl]
            · intro f V hg hl
              obtain ⟨z0, z1⟩ := HCD.out V hg
              simp [Oper.looksAt, Op.operands, Call.operands, famAt, famOf, isV] at hl
              simp [famWants, boolIs_bool, boolIs_undef, execOp, rho, go_sem, hl, z0, z1, famUpon, famOf, isV, Grows.refl]
            · intro f V hg hl
              simp [Oper.looksAt, Op.operands, Call.operands, famAt, famOf, isV] at hl
              simp [famWants, boolIs_bool, boolIs_undef, execOp, rho, go_sem, hl, famUpon, famOf, isV, Grows.refl]
              exact HHJ.out V hg
            · intro f V hg hl
              obtain ⟨z0, z1, z2, z3, z4, z5, z6, z7, z8⟩ := HCX.out V hg
              simp [Oper.looksAt, Op.operands, Call.operands, famAt, famOf, isV] at hl
              simp [famWants, boolIs_bool, boolIs_undef, execOp, rho, go_sem, hl, z0, z1, z2, z3, z4, z5, z6, z7, z8, famUpon, famOf, isV, Grows.refl]
            · intro f V hg hl
              obtain ⟨z0, z1⟩ := HCD.out V hg
              simp [Oper.looksAt, Op.operands, Call.operands, famAt, famOf, isV] at hl
              simp [famWants, boolIs_bool, boolIs_undef, execOp, rho, go_sem, hl, z0, z1, famUpon, famOf, isV, Grows.refl]
            · intro f V hg hl
              simp [Oper.looksAt, Op.operands, Call.operands, famAt, famOf, isV] at hl
              simp [famWants, boolIs_bool, boolIs_undef, execOp, rho, go_sem, hl, famUpon, famOf, isV, Grows.refl]
              exact HHX.out V hg
            · intro f V hg hl
              simp [Oper.looksAt, Op.operands, Call.operands, famAt, famOf, isV] at hl
              simp [famWants, boolIs_bool, boolIs_undef, execOp, rho, go_sem, hl, famUpon, famOf, isV, Grows.refl]
            · intro f V hg hl
              simp [Oper.looksAt, Op.operands, Call.operands, famAt, famOf, isV] at hl
              simp [famWants, boolIs_bool, boolIs_undef, execOp, rho, go_sem, hl, famUpon, famOf, isV, Grows.refl]
            · intro f V hg hl
              simp [Oper.looksAt, Op.operands, Call.operands, famAt, famOf, isV] at hl
              simp [famWants, boolIs_bool, boolIs_undef, execOp, rho, go_sem, hl, famUpon, famOf, isV, Grows.refl]
            · intro f V hg hl
              simp [Oper.looksAt, Op.operands, Call.operands, famAt, famOf, isV] at hl
              simp [famWants, boolIs_bool, boolIs_undef, execOp, rho, go_sem, hl, famUpon, famOf, isV, Grows.refl]
            · intro f V hg hl
              simp [Oper.looksAt, Op.operands, Call.operands, famAt, famOf, isV] at hl
              simp [famWants, boolIs_bool, boolIs_undef, execOp, rho, go_sem, hl, famUpon, famOf, isV, Grows.refl]
            · intro f V hg hl
              simp [Oper.looksAt, Op.operands, Call.operands, famAt, famOf, isV] at hl
              simp [famWants, boolIs_bool, boolIs_undef, execOp, rho, go_sem, hl, famUpon, famOf, isV, Grows.refl]
            · intro f V hg hl
              simp [Oper.looksAt, Op.operands, Call.operands, famAt, famOf, isV] at hl
              simp [famWants, boolIs_bool, boolIs_undef, execOp, rho, go_sem, hl, famUpon, famOf, isV, Grows.refl]
            · intro f V hg hl
              obtain ⟨z0, z1, z2, z3, z4, z5, z6, z7, z8⟩ := HCJ.out V hg
              simp [Oper.looksAt, Op.operands, Call.operands, famAt, famOf, isV] at hl
              simp [famWants, boolIs_bool, boolIs_undef, execOp, rho, go_sem, hl, z0, z1, z2, z3, z4, z5, z6, z7, z8, famUpon, famOf, isV, Grows.refl]
            · intro f V hg hl
              simp [Oper.looksAt, Op.operands, Call.operands, famAt, famOf, isV] at hl
              simp [famWants, boolIs_bool, boolIs_undef, execOp, rho, go_sem, hl, famUpon, famOf, isV, Grows.refl]
              exact HKJ.out V hg
            · intro f V hg hl
              obtain ⟨z0, z1, z2, z3, z4, z5, z6, z7, z8⟩ := HCX.out V hg
              simp [Oper.looksAt, Op.operands, Call.operands, famAt, famOf, isV] at hl
              simp [famWants, boolIs_bool, boolIs_undef, execOp, rho, go_sem, hl, z0, z1, z2, z3, z4, z5, z6, z7, z8, famUpon, famOf, isV, Grows.refl]
            · intro f V hg hl
              simp [Oper.looksAt, Op.operands, Call.operands, famAt, famOf, isV] at hl
              simp [famWants, boolIs_bool, boolIs_undef, execOp, rho, go_sem, hl, famUpon, famOf, isV, Grows.refl]
              exact HKX.out V hg
            · intro f V hg hl
              obtain ⟨z0, z1, z2, z3, z4, z5, z6, z7, z8⟩ := HCY.out V hg
              simp [Oper.looksAt, Op.operands, Call.operands, famAt, famOf, isV] at hl
              simp [famWants, boolIs_bool, boolIs_undef, execOp, rho, go_sem, hl, z0, z1, z2, z3, z4, z5, z6, z7, z8, famUpon, famOf, isV, Grows.refl]
            · intro f V hg hl
              obtain ⟨z0, z1, z2, z3, z4, z5, z6, z7, z8⟩ := HCX.out V hg
              simp [Oper.looksAt, Op.operands, Call.operands, famAt, famOf, isV] at hl
              simp [famWants, boolIs_bool, boolIs_undef, execOp, rho, go_sem, hl, z0, z1, z2, z3, z4, z5, z6, z7, z8, famUpon, famOf, isV, Grows.refl]
            · intro f V hg hl
              simp [Oper.looksAt, Op.operands, Call.operands, famAt, famOf, isV] at hl
              simp [famWants, boolIs_bool, boolIs_undef, execOp, rho, go_sem, hl, famUpon, famOf, isV, Grows.refl]
              refine (HLe.out V hg).mono ?_
              rintro e w'' ⟨B, d, rfl, hR, hb⟩
              exact ⟨_, rfl, hb, B, d, rfl, hR.mono (Below.size hg)⟩
            · intro f V hg hl
              simp [Oper.looksAt, Op.operands, Call.operands, famAt, famOf, isV] at hl
              obtain ⟨⟨B, d, e98, h⟩, hl⟩ := hl
              simp [famWants, boolIs_bool, boolIs_undef, execOp, rho, go_sem, hl, e98, famUpon, famOf, isV, Grows.refl]
            · intro f V hg hl
              simp [Oper.looksAt, Op.operands, Call.operands, famAt, famOf, isV] at hl
              simp [famWants, boolIs_bool, boolIs_undef, execOp, rho, go_sem, hl, HWr.out, famUpon, famOf, isV, Grows.refl]
            · intro f V hg hl
              simp [Oper.looksAt, Op.operands, Call.operands, famAt, famOf, isV] at hl
              simp [famWants, boolIs_bool, boolIs_undef, execOp, rho, go_sem, hl, famUpon, famOf, isV, Grows.refl]
            · intro f V hg hl
              simp [Oper.looksAt, Op.operands, Call.operands, famAt, famOf, isV] at hl
              simp [famWants, boolIs_bool, boolIs_undef, execOp, rho, go_sem, hl, famUpon, famOf, isV, Grows.refl]
            · intro f V hg hl
              simp [Oper.looksAt, Op.operands, Call.operands, famAt, famOf, isV] at hl
              simp [famWants, boolIs_bool, boolIs_undef, execOp, rho, go_sem, hl, famUpon, famOf, isV, Grows.refl]
            · trivial
          · intro u V hg hu
            have h2 : u 2 = .bool true := hu 2 (by decide)
            simp only [List.drop_succ_cons, List.drop_zero, fill, Act.put, List.setIfInBounds_toArray, List.set_cons_zero, List.set_cons_succ, h2]
            refine wpList_nil ?_
            clear hu h2 HCX HCY HCJ HCD HHJ HHX HHY HKJ HKX HLe HWr
            go_wp2
            go_ret
            exact ⟨rfl, below_new hb08 hg⟩
        | false =>
          try simp only [Bool.false_or] at HHJ
          refine wp_fam (n := 25) (size := 103) (D := [79, 80, 81, 82, 83, 84, 85, 86, 87, 88, 89, 90, 91, 92, 93, 94, 95, 96, 97, 98, 99, 100, 101, 102, 2]) [(79, isV (sv UJ A6 N c6)), (80, isV (.agg #[.int .i64 a, .int .i64 b])), (81, isV (.bool bY)), (82, isV (sv U Ax n cx)), (83, isV (.agg #[.int .i64 a, .int .i64 b])), (84, isV (.bool false)), (85, isV (.bool false)), (86, isV (sv U' Ay n' cy)), (87, isV (.agg #[.int .i64 a, .int .i64 b])), (88, isV (.bool bY)), (89, isV (.bool bY)), (90, isV (.bool true)), (91, isV (.bool true)), (92, isV (sv UJ A6 N c6)), (93, isV (.int .i64 CJ)), (94, isV (sv U Ax n cx)), (95, isV (.int .i64 CX)), (96, isV (sv U' Ay n' cy)), (97, isV (sv U Ax n cx)), (98, ownD w8.heap.size NL Ls), (99, isV (.int .i64 (NL : Int))), (100, isV (.int .i64 CJ)), (101, isV (.bool true)), (102, isV (.bool true)), (2, isV (.bool true))] (by kernel_rfl) (by rfl) (by kernel_rfl) ?_ ?_
          · simp only [List.take_succ_cons, List.take_zero, famAll]
            repeat' apply And.intro
            · intro f V hg hl
              obtain ⟨z0, z1, z2, z3, z4, z5, z6, z7, z8⟩ := HCJ.out V hg
              simp [Oper.looksAt, Op.operands, Call.operands, famAt, famOf, isV] at hl
              simp [famWants, boolIs_bool, boolIs_undef, execOp, rho, go_sem, hl, z0, z1, z2, z3, z4, z5, z6, z7, z8, famUpon, famOf, isV, Grows.refl]
            · intro f V hg hl
              obtain ⟨z0, z1⟩ := HCD.out V hg
              simp [Oper.looksAt, Op.operands, Call.operands, famAt, famOf, isV] at hl
              simp [famWants, boolIs_bool, boolIs_undef, execOp, rho, go_sem, hl, z0, z1, famUpon, famOf, isV, Grows.refl]
            · intro f V hg hl
              simp [Oper.looksAt, Op.operands, Call.operands, famAt, famOf, isV] at hl
              simp [famWants, boolIs_bool, boolIs_undef, execOp, rho, go_sem, hl, famUpon, famOf, isV, Grows.refl]
              exact HHJ.out V hg
            · intro f V hg hl
              obtain ⟨z0, z1, z2, z3, z4, z5, z6, z7, z8⟩ := HCX.out V hg
              simp [Oper.looksAt, Op.operands, Call.operands, famAt, famOf, isV] at hl
              simp [famWants, boolIs_bool, boolIs_undef, execOp, rho, go_sem, hl, z0, z1, z2, z3, z4, z5, z6, z7, z8, famUpon, famOf, isV, Grows.refl]
            · intro f V hg hl
              obtain ⟨z0, z1⟩ := HCD.out V hg
              simp [Oper.looksAt, Op.operands, Call.operands, famAt, famOf, isV] at hl
              simp [famWants, boolIs_bool, boolIs_undef, execOp, rho, go_sem, hl, z0, z1, famUpon, famOf, isV, Grows.refl]
            · intro f V hg hl
              simp [Oper.looksAt, Op.operands, Call.operands, famAt, famOf, isV] at hl
              simp [famWants, boolIs_bool, boolIs_undef, execOp, rho, go_sem, hl, famUpon, famOf, isV, Grows.refl]
              exact HHX.out V hg
            · intro f V hg hl
              simp [Oper.looksAt, Op.operands, Call.operands, famAt, famOf, isV] at hl
              simp [famWants, boolIs_bool, boolIs_undef, execOp, rho, go_sem, hl, famUpon, famOf, isV, Grows.refl]
            · intro f V hg hl
              obtain ⟨z0, z1, z2, z3, z4, z5, z6, z7, z8⟩ := HCY.out V hg
              simp [Oper.looksAt, Op.operands, Call.operands, famAt, famOf, isV] at hl
              simp [famWants, boolIs_bool, boolIs_undef, execOp, rho, go_sem, hl, z0, z1, z2, z3, z4, z5, z6, z7, z8, famUpon, famOf, isV, Grows.refl]
            · intro f V hg hl
              obtain ⟨z0, z1⟩ := HCD.out V hg
              simp [Oper.looksAt, Op.operands, Call.operands, famAt, famOf, isV] at hl
              simp [famWants, boolIs_bool, boolIs_undef, execOp, rho, go_sem, hl, z0, z1, famUpon, famOf, isV, Grows.refl]
            · intro f V hg hl
              simp [Oper.looksAt, Op.operands, Call.operands, famAt, famOf, isV] at hl
              simp [famWants, boolIs_bool, boolIs_undef, execOp, rho, go_sem, hl, famUpon, famOf, isV, Grows.refl]
              exact HHY.out V hg
            · intro f V hg hl
              simp [Oper.looksAt, Op.operands, Call.operands, famAt, famOf, isV] at hl
              simp [famWants, boolIs_bool, boolIs_undef, execOp, rho, go_sem, hl, famUpon, famOf, isV, Grows.refl]
            · intro f V hg hl
              simp [Oper.looksAt, Op.operands, Call.operands, famAt, famOf, isV] at hl
              simp [famWants, boolIs_bool, boolIs_undef, execOp, rho, go_sem, hl, famUpon, famOf, isV, Grows.refl]
            · intro f V hg hl
              simp [Oper.looksAt, Op.operands, Call.operands, famAt, famOf, isV] at hl
              simp [famWants, boolIs_bool, boolIs_undef, execOp, rho, go_sem, hl, famUpon, famOf, isV, Grows.refl]
            · intro f V hg hl
              obtain ⟨z0, z1, z2, z3, z4, z5, z6, z7, z8⟩ := HCJ.out V hg
              simp [Oper.looksAt, Op.operands, Call.operands, famAt, famOf, isV] at hl
              simp [famWants, boolIs_bool, boolIs_undef, execOp, rho, go_sem, hl, z0, z1, z2, z3, z4, z5, z6, z7, z8, famUpon, famOf, isV, Grows.refl]
            · intro f V hg hl
              simp [Oper.looksAt, Op.operands, Call.operands, famAt, famOf, isV] at hl
              simp [famWants, boolIs_bool, boolIs_undef, execOp, rho, go_sem, hl, famUpon, famOf, isV, Grows.refl]
              exact HKJ.out V hg
            · intro f V hg hl
              obtain ⟨z0, z1, z2, z3, z4, z5, z6, z7, z8⟩ := HCX.out V hg
              simp [Oper.looksAt, Op.operands, Call.operands, famAt, famOf, isV] at hl
              simp [famWants, boolIs_bool, boolIs_undef, execOp, rho, go_sem, hl, z0, z1, z2, z3, z4, z5, z6, z7, z8, famUpon, famOf, isV, Grows.refl]
            · intro f V hg hl
              simp [Oper.looksAt, Op.operands, Call.operands, famAt, famOf, isV] at hl
              simp [famWants, boolIs_bool, boolIs_undef, execOp, rho, go_sem, hl, famUpon, famOf, isV, Grows.refl]
              exact HKX.out V hg
            · intro f V hg hl
              obtain ⟨z0, z1, z2, z3, z4, z5, z6, z7, z8⟩ := HCY.out V hg
              simp [Oper.looksAt, Op.operands, Call.operands, famAt, famOf, isV] at hl
              simp [famWants, boolIs_bool, boolIs_undef, execOp, rho, go_sem, hl, z0, z1, z2, z3, z4, z5, z6, z7, z8, famUpon, famOf, isV, Grows.refl]
            · intro f V hg hl
              obtain ⟨z0, z1, z2, z3, z4, z5, z6, z7, z8⟩ := HCX.out V hg
              simp [Oper.looksAt, Op.operands, Call.operands, famAt, famOf, isV] at hl
              simp [famWants, boolIs_bool, boolIs_undef, execOp, rho, go_sem, hl, z0, z1, z2, z3, z4, z5, z6, z7, z8, famUpon, famOf, isV, Grows.refl]
            · intro f V hg hl
              simp [Oper.looksAt, Op.operands, Call.operands, famAt, famOf, isV] at hl
              simp [famWants, boolIs_bool, boolIs_undef, execOp, rho, go_sem, hl, famUpon, famOf, isV, Grows.refl]
              refine (HLe.out V hg).mono ?_
              rintro e w'' ⟨B, d, rfl, hR, hb⟩
              exact ⟨_, rfl, hb, B, d, rfl, hR.mono (Below.size hg)⟩
            · intro f V hg hl
              simp [Oper.looksAt, Op.operands, Call.operands, famAt, famOf, isV] at hl
              obtain ⟨⟨B, d, e98, h⟩, hl⟩ := hl
              simp [famWants, boolIs_bool, boolIs_undef, execOp, rho, go_sem, hl, e98, famUpon, famOf, isV, Grows.refl]
            · intro f V hg hl
              simp [Oper.looksAt, Op.operands, Call.operands, famAt, famOf, isV] at hl
              simp [famWants, boolIs_bool, boolIs_undef, execOp, rho, go_sem, hl, HWr.out, famUpon, famOf, isV, Grows.refl]
            · intro f V hg hl
              simp [Oper.looksAt, Op.operands, Call.operands, famAt, famOf, isV] at hl
              simp [famWants, boolIs_bool, boolIs_undef, execOp, rho, go_sem, hl, famUpon, famOf, isV, Grows.refl]
            · intro f V hg hl
              simp [Oper.looksAt, Op.operands, Call.operands, famAt, famOf, isV] at hl
              simp [famWants, boolIs_bool, boolIs_undef, execOp, rho, go_sem, hl, famUpon, famOf, isV, Grows.refl]
            · intro f V hg hl
              simp [Oper.looksAt, Op.operands, Call.operands, famAt, famOf, isV] at hl
              simp [famWants, boolIs_bool, boolIs_undef, execOp, rho, go_sem, hl, famUpon, famOf, isV, Grows.refl]
            · trivial
          · intro u V hg hu
            have h2 : u 2 = .bool true := hu 2 (by decide)
            simp only [List.drop_succ_cons, List.drop_zero, fill, Act.put, List.setIfInBounds_toArray, List.set_cons_zero, List.set_cons_succ, h2]
            refine wpList_nil ?_
            clear hu h2 HCX HCY HCJ HCD HHJ HHX HHY HKJ HKX HLe HWr
            go_wp2
            go_ret
            exact ⟨rfl, below_new hb08 hg⟩
end Go.Proofs.Ytegppdobpihbnaa
