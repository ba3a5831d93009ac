/- The walk of DotsetPairs. -/
import Derived.Test.YtegppdobpihbnaaDotLawV
import Derived.Test.YtegppdobpihbnaaFamF
namespace Go.Proofs.Ytegppdobpihbnaa
set_option linter.unusedVariables false
set_option linter.unusedSimpArgs false
open Go.ChangeShapes Go.WideShapes Go.ChangeAt Go.RowKit

/-- One of two. -/
def two {α : Type} (x y : α) : Nat → α := fun i => if i = 0 then x else y
theorem big_two (n n' : Nat) : anyBig (two n n') 2 = (decide (1000 < n) || decide (1000 < n')) := by simp [anyBig, two]
/-- Two sets' cells, one behind the other. -/
abbrev scs2 (U : Nat → Int) (A : Option Addr) (n c : Nat) (U' : Nat → Int) (A' : Option Addr) (n' c' : Nat) : Array Value := #[.int .i64 (U 0), .int .i64 (U 1), .int .i64 (U 2), .int .i64 (U 3), .int .i64 (U 4), .int .i64 (U 5), .int .i64 (U 6), .int .i64 (U 7), .slice A n c,
  .int .i64 (U' 0), .int .i64 (U' 1), .int .i64 (U' 2), .int .i64 (U' 3), .int .i64 (U' 4), .int .i64 (U' 5), .int .i64 (U' 6), .int .i64 (U' 7), .slice A' n' c']
theorem setAt_two (w : World) (U : Nat → Int) (A : Option Addr) (n c : Nat) (U' : Nat → Int) (A' : Option Addr) (n' c' : Nat) (t : TypeId) : ∀ i, i < 2 → SetAt (w.alloc (.cells (scs2 U A n c U' A' n' c') t)) w.heap.size i (two U U' i) (two A A' i) (two n n' i) (two c c' i) := fun i hi j v hv => by
  refine ((Blo.made w t (scs2 U A n c U' A' n' c')).cell (i * 9 + j)).trans (Eq.trans ?_ hv)
  have hj : j < 9 := by
    rcases Nat.lt_or_ge j 9 with h | h
    · exact h
    · rw [Array.getElem?_eq_none (by simpa using h)] at hv; cases hv
  rcases i with _ | _ | i
  · rcases j with _ | _ | _ | _ | _ | _ | _ | _ | _ | j
    all_goals first | rfl | omega
  · rcases j with _ | _ | _ | _ | _ | _ | _ | _ | _ | j
    all_goals first | rfl | omega
  · omega

set_option maxRecDepth 100000 in
set_option maxHeartbeats 4000000 in
theorem pairs_main (U : Nat → Int) (A : Option Addr) (n c : Nat) (M : List D.Dot) (U' : Nat → Int) (A' : Option Addr) (n' c' : Nat) (M' : List D.Dot) (w : World) (hS : SetIn w U A n c M) (hS' : SetIn w U' A' n' c' M') :
    Calls Try.prog 4 #[sv U A n c, sv U' A' n' c'] w fun e w' => e = .returned (.bool true) ∧ Below w.heap.size w w' := by
  obtain ⟨hn, hnc, hcm, hr⟩ := hS
  obtain ⟨hn', hnc', hcm', hr'⟩ := hS'
  have hnm : ∀ i, i < 2 → two n n' i ≤ maxLen := fun i _ => by unfold two; split <;> omega
  unfold maxLen at hcm hcm'
  obtain ⟨w1, hw1⟩ : ∃ W, (w.alloc (.cells (scs U A n c) 25)).alloc (.cells (scs U' A' n' c') 25) = W := ⟨_, rfl⟩
  have hb1 : Below w.heap.size w w1 := by rw [← hw1]; exact b_alloc2 _ _ _
  have hX1 : Blo w1 w.heap.size 25 (scs U A n c) := by rw [← hw1]; exact (Blo.made _ _ _).alloc _
  have hY1 : Blo w1 (w.heap.size + 1) 25 (scs U' A' n' c') := by
    rw [← hw1]
    have := Blo.made (w.alloc (.cells (scs U A n c) 25)) 25 (scs U' A' n' c')
    simpa using this
  have hA := alive_yes w1
  have HW := Lib.hid hw1
  have HN := Lib.hid hn
  have HN' := Lib.hid hn'
  clear hw1 hn hn'
  go_enter Try.func4, Try.ntmps4
  go_wp2_with fail
  rw [HW.out]
  refine hA.mono ?_
  rintro e w2 ⟨rfl, hb2⟩
  have hX2 := hX1.new hb2
  have hY2 := hY1.new hb2
  have hr2 := (hr.new hb1).new hb2
  have hr2' := (hr'.new hb1).new hb2
  have hb02 := below_new hb1 hb2
  clear hA hX1 hY1 hb1 hb2
  obtain ⟨z0, z1, z2, z3, z4, z5, z6, z7, z8⟩ := set9 hX2
  obtain ⟨y0, y1, y2, y3, y4, y5, y6, y7, y8⟩ := set9 hY2
  have hG := great_any 2 w2.heap.size (two U U') (two A A') (two n n') (two c c') (w2.alloc (.cells (scs2 U A n c U' A' n' c') 25)) (by omega) (setAt_two w2 U A n c U' A' n' c' _) hnm
  rw [big_two] at hG
  clear hnm
  by_cases hbig : 1000 < n ∨ 1000 < n'
  · have hd : (decide (1000 < n) || decide (1000 < n')) = true := by simpa using hbig
    rw [hd] at hG
    clear hd
    go_wp2_with fail
    refine hG.mono ?_
    rintro e w3 ⟨rfl, hb3⟩
    clear hG z0 z1 z2 z3 z4 z5 z6 z7 z8 y0 y1 y2 y3 y4 y5 y6 y7 y8
    go_wp2
    go_ret
    exact ⟨rfl, below_new (below_new hb02 (b_alloc _ _)) hb3⟩
  have hd : (decide (1000 < n) || decide (1000 < n')) = false := by simpa using hbig
  rw [hd] at hG
  clear hd
  have hl : n ≤ 1000000 := by omega
  have hl' : n' ≤ 1000000 := by omega
  go_wp2_with fail
  refine hG.mono ?_
  rintro e w3 ⟨rfl, hb3⟩
  have hX3 := (hX2.alloc (.cells (scs2 U A n c U' A' n' c') 25)).new hb3
  have hY3 := (hY2.alloc (.cells (scs2 U A n c U' A' n' c') 25)).new hb3
  have hr3 := (hr2.alloc (.cells (scs2 U A n c U' A' n' c') 25)).new hb3
  have hr3' := (hr2'.alloc (.cells (scs2 U A n c U' A' n' c') 25)).new hb3
  have hb03 := below_new (below_new hb02 (b_alloc _ _)) hb3
  clear hG z0 z1 z2 z3 z4 z5 z6 z7 z8 y0 y1 y2 y3 y4 y5 y6 y7 y8 hX2 hY2 hr2 hr2' hb02 hb3
  have HCX : Hid (∀ V, Grows w3 V → _) := Lib.hid (fun V hV => set9 (hX3.new hV))
  have HCY : Hid (∀ V, Grows w3 V → _) := Lib.hid (fun V hV => set9 (hY3.new hV))
  have HT1 : Hid (∀ V, Grows w3 V → Calls Try.prog 10 #[sv U A n c] V fun e w' => ∃ A' c', e = .returned (sv U A' n c') ∧ Copy w' V.heap.size A' c' M ∧ Below V.heap.size V w') := Lib.hid (fun V hV => by
    have := to_any _ U A n c M V HN.out (hr3.new hV) hl
    unfold CopyPost at this
    rw [HN.out] at this
    exact this)
  have HT2 : Hid (∀ V, Grows w3 V → Calls Try.prog 10 #[sv U' A' n' c'] V fun e w' => ∃ A' c', e = .returned (sv U' A' n' c') ∧ Copy w' V.heap.size A' c' M' ∧ Below V.heap.size V w') := Lib.hid (fun V hV => by
    have := to_any _ U' A' n' c' M' V HN'.out (hr3'.new hV) hl'
    unfold CopyPost at this
    rw [HN'.out] at this
    exact this)
  go_wp2_with fail
  refine wp_famF (n := 6) (size := 67) (D := [15, 16, 17, 18, 5, 6]) [] [(15, isV (sv U A n c)), (16, copyS U w3.heap.size n M), (17, isV (sv U' A' n' c')), (18, copyS U' w3.heap.size n' M'), (5, ptrV w3.heap.size 30 (scs (fun _ => 0) none 0 0)), (6, ptrV w3.heap.size 30 (scs (fun _ => 0) none 0 0))] (by kernel_rfl) (by rfl) (by kernel_rfl) (fun _ _ d _ _ h => by cases d <;> exact h) ?_ ?_
  · simp only [List.take_succ_cons, List.take_zero, famAllF]
    repeat' apply And.intro
    · rw [if_neg (by decide)]
      intro f V hg hl
      obtain ⟨z0, z1, z2, z3, z4, z5, z6, z7, z8⟩ := HCX.out V hg
      simp [Oper.looksAt, Op.operands, Call.operands, famAt, famOf, isV] at hl
      simp [famWants, boolIs_bool, boolIs_undef, execOp, rho, go_sem, hl, z0, z1, z2, z3, z4, z5, z6, z7, z8, famUpon, famOf, isV, isAlloc, Grows.refl]
    · rw [if_neg (by decide)]
      intro f V hg hl
      simp [Oper.looksAt, Op.operands, Call.operands, famAt, famOf, isV] at hl
      simp [famWants, boolIs_bool, boolIs_undef, execOp, rho, go_sem, hl, famUpon, famOf, isV, isAlloc, Grows.refl]
      refine (HT1.out V hg).mono ?_
      rintro e w'' ⟨B, d, rfl, hc, hb⟩
      exact ⟨_, rfl, hb, B, d, rfl, hc.mono (Below.size hg)⟩
    · rw [if_neg (by decide)]
      intro f V hg hl
      obtain ⟨z0, z1, z2, z3, z4, z5, z6, z7, z8⟩ := HCY.out V hg
      simp [Oper.looksAt, Op.operands, Call.operands, famAt, famOf, isV] at hl
      simp [famWants, boolIs_bool, boolIs_undef, execOp, rho, go_sem, hl, z0, z1, z2, z3, z4, z5, z6, z7, z8, famUpon, famOf, isV, isAlloc, Grows.refl]
    · rw [if_neg (by decide)]
      intro f V hg hl
      simp [Oper.looksAt, Op.operands, Call.operands, famAt, famOf, isV] at hl
      simp [famWants, boolIs_bool, boolIs_undef, execOp, rho, go_sem, hl, famUpon, famOf, isV, isAlloc, Grows.refl]
      refine (HT2.out V hg).mono ?_
      rintro e w'' ⟨B, d, rfl, hc, hb⟩
      exact ⟨_, rfl, hb, B, d, rfl, hc.mono (Below.size hg)⟩
    · rw [if_neg (by decide)]
      intro f V hg hl
      simp [Oper.looksAt, Op.operands, Call.operands, famAt, famOf, isV] at hl
      simp [famWants, boolIs_bool, boolIs_undef, execOp, rho, go_sem, hl, Grows.alloc, famUpon, famOf, isV, isAlloc, Grows.refl]
      exact ⟨_, rfl, Blo.made _ _ _, Below.size hg⟩
    · rw [if_neg (by decide)]
      intro f V hg hl
      simp [Oper.looksAt, Op.operands, Call.operands, famAt, famOf, isV] at hl
      simp [famWants, boolIs_bool, boolIs_undef, execOp, rho, go_sem, hl, Grows.alloc, famUpon, famOf, isV, isAlloc, Grows.refl]
      exact ⟨_, rfl, Blo.made _ _ _, Below.size hg⟩
    · trivial
  · intro u V hg hu hdis
    obtain ⟨Ax, cx, e16, hCx⟩ : ∃ A c, u 16 = sv U A n c ∧ Copy V w3.heap.size A c M := hu 16 (by decide)
    obtain ⟨Ay, cy, e18, hCy⟩ : ∃ A c, u 18 = sv U' A n' c ∧ Copy V w3.heap.size A c M' := hu 18 (by decide)
    obtain ⟨gx, e5, hBx, hgx⟩ : ∃ g, u 5 = .pointer (some ⟨g, 0, none⟩) ∧ Blo V g 30 (scs (fun _ => 0) none 0 0) ∧ w3.heap.size ≤ g := hu 5 (by decide)
    obtain ⟨gy, e6, hBy, hgy⟩ : ∃ g, u 6 = .pointer (some ⟨g, 0, none⟩) ∧ Blo V g 30 (scs (fun _ => 0) none 0 0) ∧ w3.heap.size ≤ g := hu 6 (by decide)
    have hxy : gx ≠ gy := fun e => hdis 4 5 5 6 (by omega) (by omega) (by omega) (by rfl) (by rfl) (by rfl) (by rfl) (by rw [e5, e6, e])
    simp only [List.drop_succ_cons, List.drop_zero, fill, Act.put, List.setIfInBounds_toArray, List.set_cons_zero, List.set_cons_succ, e16, e18, e5, e6]
    clear hu hdis e16 e18 e5 e6
    go_wp2_with (refine wpList_setv _ rfl 30 _ _ rfl Try.sizeSet gx _ rfl U Ax n cx rfl hBx rfl ?_)
    intro w4 hBx4 hg4
    have hBy4 := hBy.grown hg4 (fun e => hxy (by injection e with e; exact e.symm))
    have hCx4 : Copy w4 w3.heap.size Ax cx M := ⟨hCx.1, hCx.2.imp id fun h => h.grown hg4 (fun b hb e => h.blo hBx (by decide) (hb.trans e))⟩
    have hCy4 : Copy w4 w3.heap.size Ay cy M' := ⟨hCy.1, hCy.2.imp id fun h => h.grown hg4 (fun b hb e => h.blo hBx (by decide) (hb.trans e))⟩
    have hb34 : Below w3.heap.size w3 w4 := Below.grown hg hg4 (Below.size hg) (fun k hk => by injection hk with hk; omega)
    have hs34 := hb34.size
    go_wp2_with (refine wpList_setv _ rfl 30 _ _ rfl Try.sizeSet gy _ rfl U' Ay n' cy rfl hBy4 rfl ?_)
    intro w5 hY5 hg5
    have hX5 := hBx4.grown hg5 (fun e => hxy (by injection e))
    have hCx5 : Copy w5 w3.heap.size Ax cx M := ⟨hCx4.1, hCx4.2.imp id fun h => h.grown hg5 (fun b hb e => h.blo hBy4 (by decide) (hb.trans e))⟩
    have hCy5 : Copy w5 w3.heap.size Ay cy M' := ⟨hCy4.1, hCy4.2.imp id fun h => h.grown hg5 (fun b hb e => h.blo hBy4 (by decide) (hb.trans e))⟩
    have hb35 : Below w3.heap.size w3 w5 := hb34.grown hg5 hs34 (fun k hk => by injection hk with hk; omega)
    have hP5 := hX3.new hb35
    have hQ5 := hY3.new hb35
    have hr5 := hr3.new hb35
    have hr5' := hr3'.new hb35
    have hb05 := below_new hb03 hb35
    clear hg hg4 hg5 hBx hBy hBx4 hBy4 hCx hCy hCx4 hCy4 hb34 hs34 hb35 hX3 hY3 hr3 hr3' hb03 HCX HCY HT1 HT2 hgx hgy hxy
    obtain ⟨z0, z1, z2, z3, z4, z5, z6, z7, z8⟩ := set9 hX5
    obtain ⟨y0, y1, y2, y3, y4, y5, y6, y7, y8⟩ := set9 hY5
    have hJ := djoin_any _ _ U Ax n cx M U' Ay n' cy M' w5 HN.out hCx5.at hl HN'.out hCy5.at hl'
    obtain ⟨UJ, hUJ⟩ : ∃ V, V = D.cU (D.join U M U' M') := ⟨_, rfl⟩
    obtain ⟨MJ, hMJ⟩ : ∃ V, V = D.cM (D.join U M U' M') := ⟨_, rfl⟩
    rw [← hUJ, ← hMJ] at hJ
    have hMl : MJ.length ≤ 768 := by rw [hMJ]; exact D.cM_len _
    have HUJ := Lib.hid hUJ
    have HMJ := Lib.hid hMJ
    obtain ⟨N, hNe⟩ : ∃ N, MJ.length = N := ⟨_, rfl⟩
    unfold SetPost at hJ
    rw [hNe] at hJ hMl
    have HNA := Lib.hid hNe
    clear hUJ hMJ hNe
    go_wp2_with fail
    refine hJ.mono ?_
    rintro e w6 ⟨A6, c6, rfl, hR6, hb6⟩
    obtain ⟨w7, hw7⟩ : ∃ W, w6.alloc (.cells (scs UJ A6 N c6) 30) = W := ⟨_, rfl⟩
    have hb7 : Below w6.heap.size w6 w7 := by rw [← hw7]; exact b_alloc _ _
    have hJ7 : Blo w7 w6.heap.size 30 (scs UJ A6 N c6) := by rw [← hw7]; exact Blo.made _ _ _
    have hb57 := below_new hb6 hb7
    have hP7 := hP5.new hb57
    have hQ7 := hQ5.new hb57
    have hX7 := hX5.new hb57
    have hY7 := hY5.new hb57
    have hr7 := hr5.new hb57
    have hr7' := hr5'.new hb57
    have hCx7 := hCx5.new hb57
    have hCy7 := hCy5.new hb57
    have hR7 := hR6.new hb7
    have HW7 := Lib.hid hw7
    obtain ⟨gj, hgj⟩ : ∃ g, g = w6.heap.size := ⟨_, rfl⟩
    rw [← hgj] at hJ7
    have HGJ := Lib.hid hgj
    have hs57 := hb57.size
    clear hJ z0 z1 z2 z3 z4 z5 z6 z7 z8 y0 y1 y2 y3 y4 y5 y6 y7 y8 hw7 hR6 hb6 hb7 hgj
    have HCP : Hid (∀ V, Grows w7 V → _) := Lib.hid (fun V hV => set9 (hP7.new hV))
    have HCQ : Hid (∀ V, Grows w7 V → _) := Lib.hid (fun V hV => set9 (hQ7.new hV))
    have HCX : Hid (∀ V, Grows w7 V → _) := Lib.hid (fun V hV => set9 (hX7.new hV))
    have HCY : Hid (∀ V, Grows w7 V → _) := Lib.hid (fun V hV => set9 (hY7.new hV))
    have HCJ : Hid (∀ V, Grows w7 V → _) := Lib.hid (fun V hV => set9 (hJ7.new hV))
    have HR1 : Hid (∀ V, Grows w7 V → Calls Try.prog 13 #[sv U A n c] V fun e w' => ∃ A' c', e = .returned (sv U A' n c') ∧ Copy w' V.heap.size A' c' M ∧ Below V.heap.size V w') := Lib.hid (fun V hV => by
      have := ref_any _ U A n c M V HN.out (hr7.new hV) hl
      unfold CopyPost at this
      rw [HN.out] at this
      exact this)
    have HR2 : Hid (∀ V, Grows w7 V → Calls Try.prog 13 #[sv U' A' n' c'] V fun e w' => ∃ A' c', e = .returned (sv U' A' n' c') ∧ Copy w' V.heap.size A' c' M' ∧ Below V.heap.size V w') := Lib.hid (fun V hV => by
      have := ref_any _ U' A' n' c' M' V HN'.out (hr7'.new hV) hl'
      unfold CopyPost at this
      rw [HN'.out] at this
      exact this)
    have HFr : Hid (∀ V, Grows w7 V → Calls Try.prog 20 #[sv UJ A6 N c6] V fun e w' => ∃ A' c', e = .returned (sv UJ A' N c') ∧ Copy w' V.heap.size A' c' MJ ∧ Below V.heap.size V w') := Lib.hid (fun V hV => by
      have := from_any _ UJ A6 N c6 MJ V HNA.out (hR7.rdsT.new hV) (by omega)
      unfold CopyPost at this
      rw [HNA.out] at this
      exact this)
    have HRJ : Hid (∀ (V : World) (B1 B2 : Option Addr) (d1 d2 : Nat), Copy V w7.heap.size B1 d1 M → Copy V w7.heap.size B2 d2 M' → Calls Try.prog 25 #[sv U B1 n d1, sv U' B2 n' d2] V fun e w' => ∃ A' c', e = .returned (sv UJ A' N c') ∧ DRow w' V.heap.size (.slice A' N c') MJ ∧ Below V.heap.size V w') := Lib.hid (fun V B1 B2 d1 d2 h1 h2 => by
      have := rjoin_any _ _ U B1 n d1 M U' B2 n' d2 M' V HN.out h1.at hl HN'.out h2.at hl'
      rw [← HUJ.out, ← HMJ.out] at this
      unfold SetPost at this
      rw [HNA.out] at this
      exact this)
    have HSa : Hid (∀ (V : World) (B1 B2 : Option Addr) (d1 d2 : Nat), Copy V w7.heap.size B1 d1 MJ → DRow V w7.heap.size (.slice B2 N d2) MJ → Calls Try.prog 19 #[sv UJ B1 N d1, sv UJ B2 N d2] V fun e w' => e = .returned (.bool true) ∧ Grows V w') := Lib.hid (fun V B1 B2 d1 d2 h1 h2 => rsame_yes _ _ UJ B1 B2 N d1 d2 MJ V HNA.out h1.at h2.rdsT (by omega))
    obtain ⟨Ls, hLs⟩ : ∃ V, V = D.lst (D.less U M U' M') := ⟨_, rfl⟩
    have hLl : Ls.length ≤ 768 := by rw [hLs]; exact D.lst_len _
    obtain ⟨NL, hNL⟩ : ∃ N, Ls.length = N := ⟨_, rfl⟩
    rw [hNL] at hLl
    have HNL := Lib.hid hNL
    have HLs := Lib.hid hLs
    have HLe : Hid (∀ V, Grows w7 V → Calls Try.prog 26 #[sv U Ax n cx, sv U' Ay n' cy] V fun e w' => ∃ A' c', e = .returned (.slice A' NL c') ∧ DRow w' V.heap.size (.slice A' NL c') Ls ∧ Below V.heap.size V w') := Lib.hid (fun V hV => by
      have := dless_any _ _ U Ax n cx M U' Ay n' cy M' V HN.out (hCx7.at.new hV) hl HN'.out (hCy7.at.new hV) hl'
      rw [← HLs.out] at this
      unfold DotsPost at this
      rw [HNL.out] at this
      exact this)
    have HRL : Hid (∀ (V : World) (B1 B2 : Option Addr) (d1 d2 : Nat), Copy V w7.heap.size B1 d1 M → Copy V w7.heap.size B2 d2 M' → Calls Try.prog 27 #[sv U B1 n d1, sv U' B2 n' d2] V fun e w' => ∃ A' c', e = .returned (.slice A' NL c') ∧ DRow w' V.heap.size (.slice A' NL c') Ls ∧ Below V.heap.size V w') := Lib.hid (fun V B1 B2 d1 d2 h1 h2 => by
      have := rless_any _ _ U B1 n d1 M U' B2 n' d2 M' V HN.out h1.at hl HN'.out h2.at hl'
      rw [← HLs.out] at this
      unfold DotsPost at this
      rw [HNL.out] at this
      exact this)
    have HDo : Hid (∀ (V : World) (B1 B2 : Option Addr) (d1 d2 : Nat), DRow V w7.heap.size (.slice B1 NL d1) Ls → DRow V w7.heap.size (.slice B2 NL d2) Ls → Calls Try.prog 22 #[.slice B1 NL d1, .slice B2 NL d2] V fun e w' => e = .returned (.bool true) ∧ Grows V w') := Lib.hid (fun V B1 B2 d1 d2 h1 h2 => (dots_yes _ _ B1 B2 NL d1 d2 Ls V HNL.out h1.rdsT h2.rdsT (by omega)).mono fun _ _ h => ⟨h.1, h.2.below _⟩)
    clear hLs hNL
    go_wp2_with fail
    rw [HW7.out, ← HGJ.out]
    refine wp_fam (n := 21) (size := 67) (D := [22, 23, 24, 25, 26, 27, 28, 29, 30, 31, 32, 33, 34, 35, 36, 37, 38, 39, 40, 41, 42]) [(22, isV (sv UJ A6 N c6)), (23, copyS UJ w7.heap.size N MJ), (24, isV (sv U A n c)), (25, copyS U w7.heap.size n M), (26, isV (sv U' A' n' c')), (27, copyS U' w7.heap.size n' M'), (28, ownS UJ w7.heap.size N MJ), (29, isV (.bool true)), (30, isV (.bool false)), (31, isV (.bool false)), (32, isV (sv U Ax n cx)), (33, isV (sv U' Ay n' cy)), (34, ownD w7.heap.size NL Ls), (35, isV (sv U A n c)), (36, copyS U w7.heap.size n M), (37, isV (sv U' A' n' c')), (38, copyS U' w7.heap.size n' M'), (39, ownD w7.heap.size NL Ls), (40, isV (.bool true)), (41, isV (.bool false)), (42, isV (.bool false))] (by kernel_rfl) (by rfl) (by kernel_rfl) ?_ ?_
    · simp only [List.take_succ_cons, List.take_zero, famAll]
      repeat' apply And.intro
      · intro f V hg hl
        obtain ⟨z0, z1, z2, z3, z4, z5, z6, z7, z8⟩ := HCJ.out V hg
        simp [Oper.looksAt, Op.operands, Call.operands, famAt, famOf, isV] at hl
        simp [famWants, boolIs_bool, boolIs_undef, execOp, rho, go_sem, hl, z0, z1, z2, z3, z4, z5, z6, z7, z8, famUpon, famOf, isV, Grows.refl]
      · intro f V hg hl
        simp [Oper.looksAt, Op.operands, Call.operands, famAt, famOf, isV] at hl
        simp [famWants, boolIs_bool, boolIs_undef, execOp, rho, go_sem, hl, famUpon, famOf, isV, Grows.refl]
        refine (HFr.out V hg).mono ?_
        rintro e w'' ⟨B, d, rfl, hc, hb⟩
        exact ⟨_, rfl, hb, B, d, rfl, hc.mono (Below.size hg)⟩
      · intro f V hg hl
        obtain ⟨z0, z1, z2, z3, z4, z5, z6, z7, z8⟩ := HCP.out V hg
        simp [Oper.looksAt, Op.operands, Call.operands, famAt, famOf, isV] at hl
        simp [famWants, boolIs_bool, boolIs_undef, execOp, rho, go_sem, hl, z0, z1, z2, z3, z4, z5, z6, z7, z8, famUpon, famOf, isV, Grows.refl]
      · intro f V hg hl
        simp [Oper.looksAt, Op.operands, Call.operands, famAt, famOf, isV] at hl
        simp [famWants, boolIs_bool, boolIs_undef, execOp, rho, go_sem, hl, famUpon, famOf, isV, Grows.refl]
        refine (HR1.out V hg).mono ?_
        rintro e w'' ⟨B, d, rfl, hc, hb⟩
        exact ⟨_, rfl, hb, B, d, rfl, hc.mono (Below.size hg)⟩
      · intro f V hg hl
        obtain ⟨z0, z1, z2, z3, z4, z5, z6, z7, z8⟩ := HCQ.out V hg
        simp [Oper.looksAt, Op.operands, Call.operands, famAt, famOf, isV] at hl
        simp [famWants, boolIs_bool, boolIs_undef, execOp, rho, go_sem, hl, z0, z1, z2, z3, z4, z5, z6, z7, z8, famUpon, famOf, isV, Grows.refl]
      · intro f V hg hl
        simp [Oper.looksAt, Op.operands, Call.operands, famAt, famOf, isV] at hl
        simp [famWants, boolIs_bool, boolIs_undef, execOp, rho, go_sem, hl, famUpon, famOf, isV, Grows.refl]
        refine (HR2.out V hg).mono ?_
        rintro e w'' ⟨B, d, rfl, hc, hb⟩
        exact ⟨_, rfl, hb, B, d, rfl, hc.mono (Below.size hg)⟩
      · intro f V hg hl
        simp [Oper.looksAt, Op.operands, Call.operands, famAt, famOf, isV] at hl
        obtain ⟨⟨B1, d1, e25, h1⟩, B2, d2, e27, h2⟩ := hl
        have hl := e25
        simp [famWants, boolIs_bool, boolIs_undef, execOp, rho, go_sem, hl, e25, e27, famUpon, famOf, isV, Grows.refl]
        refine (HRJ.out V B1 B2 d1 d2 h1 h2).mono ?_
        rintro e w'' ⟨B, d, rfl, hR, hb⟩
        exact ⟨_, rfl, hb, B, d, rfl, hR.mono (Below.size hg)⟩
      · intro f V hg hl
        simp [Oper.looksAt, Op.operands, Call.operands, famAt, famOf, isV] at hl
        obtain ⟨⟨B1, d1, e23, h1⟩, B2, d2, e28, h2⟩ := hl
        have hl := e23
        simp [famWants, boolIs_bool, boolIs_undef, execOp, rho, go_sem, hl, e23, e28, famUpon, famOf, isV, Grows.refl]
        exact HSa.out V B1 B2 d1 d2 h1 h2
      · intro f V hg hl
        simp [Oper.looksAt, Op.operands, Call.operands, famAt, famOf, isV] at hl
        simp [famWants, boolIs_bool, boolIs_undef, execOp, rho, go_sem, hl, famUpon, famOf, isV, Grows.refl]
      · intro f V hg hl
        simp [Oper.looksAt, Op.operands, Call.operands, famAt, famOf, isV] at hl
        simp [famWants, boolIs_bool, boolIs_undef, execOp, rho, go_sem, hl, famUpon, famOf, isV, Grows.refl]
      · intro f V hg hl
        obtain ⟨z0, z1, z2, z3, z4, z5, z6, z7, z8⟩ := HCX.out V hg
        simp [Oper.looksAt, Op.operands, Call.operands, famAt, famOf, isV] at hl
        simp [famWants, boolIs_bool, boolIs_undef, execOp, rho, go_sem, hl, z0, z1, z2, z3, z4, z5, z6, z7, z8, famUpon, famOf, isV, Grows.refl]
      · intro f V hg hl
        obtain ⟨z0, z1, z2, z3, z4, z5, z6, z7, z8⟩ := HCY.out V hg
        simp [Oper.looksAt, Op.operands, Call.operands, famAt, famOf, isV] at hl
        simp [famWants, boolIs_bool, boolIs_undef, execOp, rho, go_sem, hl, z0, z1, z2, z3, z4, z5, z6, z7, z8, famUpon, famOf, isV, Grows.refl]
      · intro f V hg hl
        simp [Oper.looksAt, Op.operands, Call.operands, famAt, famOf, isV] at hl
        simp [famWants, boolIs_bool, boolIs_undef, execOp, rho, go_sem, hl, famUpon, famOf, isV, Grows.refl]
        refine (HLe.out V hg).mono ?_
        rintro e w'' ⟨B, d, rfl, hR, hb⟩
        exact ⟨_, rfl, hb, B, d, rfl, hR.mono (Below.size hg)⟩
      · intro f V hg hl
        obtain ⟨z0, z1, z2, z3, z4, z5, z6, z7, z8⟩ := HCP.out V hg
        simp [Oper.looksAt, Op.operands, Call.operands, famAt, famOf, isV] at hl
        simp [famWants, boolIs_bool, boolIs_undef, execOp, rho, go_sem, hl, z0, z1, z2, z3, z4, z5, z6, z7, z8, famUpon, famOf, isV, Grows.refl]
      · intro f V hg hl
        simp [Oper.looksAt, Op.operands, Call.operands, famAt, famOf, isV] at hl
        simp [famWants, boolIs_bool, boolIs_undef, execOp, rho, go_sem, hl, famUpon, famOf, isV, Grows.refl]
        refine (HR1.out V hg).mono ?_
        rintro e w'' ⟨B, d, rfl, hc, hb⟩
        exact ⟨_, rfl, hb, B, d, rfl, hc.mono (Below.size hg)⟩
      · intro f V hg hl
        obtain ⟨z0, z1, z2, z3, z4, z5, z6, z7, z8⟩ := HCQ.out V hg
        simp [Oper.looksAt, Op.operands, Call.operands, famAt, famOf, isV] at hl
        simp [famWants, boolIs_bool, boolIs_undef, execOp, rho, go_sem, hl, z0, z1, z2, z3, z4, z5, z6, z7, z8, famUpon, famOf, isV, Grows.refl]
      · intro f V hg hl
        simp [Oper.looksAt, Op.operands, Call.operands, famAt, famOf, isV] at hl
        simp [famWants, boolIs_bool, boolIs_undef, execOp, rho, go_sem, hl, famUpon, famOf, isV, Grows.refl]
        refine (HR2.out V hg).mono ?_
        rintro e w'' ⟨B, d, rfl, hc, hb⟩
        exact ⟨_, rfl, hb, B, d, rfl, hc.mono (Below.size hg)⟩
      · intro f V hg hl
        simp [Oper.looksAt, Op.operands, Call.operands, famAt, famOf, isV] at hl
        obtain ⟨⟨B1, d1, e36, h1⟩, ⟨B2, d2, e38, h2⟩, hl⟩ := hl
        simp [famWants, boolIs_bool, boolIs_undef, execOp, rho, go_sem, hl, e36, e38, famUpon, famOf, isV, Grows.refl]
        refine (HRL.out V B1 B2 d1 d2 h1 h2).mono ?_
        rintro e w'' ⟨B, d, rfl, hR, hb⟩
        exact ⟨_, rfl, hb, B, d, rfl, hR.mono (Below.size hg)⟩
      · intro f V hg hl
        simp [Oper.looksAt, Op.operands, Call.operands, famAt, famOf, isV] at hl
        obtain ⟨⟨B1, d1, e34, h1⟩, ⟨B2, d2, e39, h2⟩, hl⟩ := hl
        simp [famWants, boolIs_bool, boolIs_undef, execOp, rho, go_sem, hl, e34, e39, famUpon, famOf, isV, Grows.refl]
        exact HDo.out V B1 B2 d1 d2 h1 h2
      · intro f V hg hl
        simp [Oper.looksAt, Op.operands, Call.operands, famAt, famOf, isV] at hl
        simp [famWants, boolIs_bool, boolIs_undef, execOp, rho, go_sem, hl, famUpon, famOf, isV, Grows.refl]
      · intro f V hg hl
        simp [Oper.looksAt, Op.operands, Call.operands, famAt, famOf, isV] at hl
        simp [famWants, boolIs_bool, boolIs_undef, execOp, rho, go_sem, hl, famUpon, famOf, isV, Grows.refl]
      · trivial
    · intro u V hgV hu
      have h42 : u 42 = .bool false := hu 42 (by decide)
      simp only [List.drop_succ_cons, List.drop_zero, fill, Act.put, List.setIfInBounds_toArray, List.set_cons_zero, List.set_cons_succ, h42]
      refine wpList_nil ?_
      have hJV := hJ7.new hgV
      have hRV := hR7.new hgV
      have hb5V := hb57.trans (Below.mono hgV hs57)
      have hsV := hb5V.size
      clear hu h42 HCP HCQ HCX HCY HCJ HR1 HR2 HFr HRJ HSa HLe HRL HDo hP7 hQ7 hX7 hY7 hr7 hr7' hCx7 hCy7 hJ7 hR7 hb57 hgV
      have j8 : V.cell? ⟨gj, 8, none⟩ = some (.slice A6 N c6) := by simpa using hJV.cell 8
      have hrowj := hRV.blo hJV (by decide)
      go_wp2
      clear j8
      go_loopw [46] (fun iv wr => ∃ i : Nat, iv = .int .i64 i ∧ i ≤ N ∧ DSoft V wr A6 N) (fun iv _ => N - (intOf iv).toNat)
      case atStart => exact ⟨0, rfl, by omega, DSoft.start hRV HNA.out⟩
      case round =>
        obtain ⟨i, rfl, hi, hD⟩ := hrel
        have hJr : Blo wr gj 30 (scs UJ A6 N c6) := hJV.grown hD.1 (fun e => hrowj (by rw [ownBlock_any A6 N c6 N 0]; exact e.symm))
        have j8 : wr.cell? ⟨gj, 8, none⟩ = some (.slice A6 N c6) := by simpa using hJr.cell 8
        by_cases hlt : i < N
        · obtain ⟨g, v, rfl, q1, q2, q3⟩ := hD.at hlt
          have q4 := q3 (.int .i64 (-1))
          have e1 : (⟨g, 0, none⟩ : Addr).add (i * 2) = ⟨g, i * 2, none⟩ := by rw [Go.Proofs.Ytegppdobpihbnaa.M.addMk]; simp
          clear q3
          go_wp2
          go_roundw
          case rel => exact ⟨i + 1, by go_num, by omega, q4⟩
          case measure => simp [intOf]; omega
        · have hbr : Below w5.heap.size V wr := hD.below hRV hsV
          have hb5r := hb5V.trans hbr
          have hPr := hP5.new hb5r
          have hQr := hQ5.new hb5r
          have hXr := hX5.new hb5r
          have hYr := hY5.new hb5r
          have hrr := hr5.new hb5r
          have hrr' := hr5'.new hb5r
          have hCxr := hCx5.new hb5r
          have hCyr := hCy5.new hb5r
          have hball := below_new hb05 hb5r
          clear hD hJr j8 hJV hRV hP5 hQ5 hX5 hY5 hr5 hr5' hCx5 hCy5
          have HCP : Hid (∀ V, Grows wr V → _) := Lib.hid (fun V hV => set9 (hPr.new hV))
          have HCQ : Hid (∀ V, Grows wr V → _) := Lib.hid (fun V hV => set9 (hQr.new hV))
          have HCX : Hid (∀ V, Grows wr V → _) := Lib.hid (fun V hV => set9 (hXr.new hV))
          have HCY : Hid (∀ V, Grows wr V → _) := Lib.hid (fun V hV => set9 (hYr.new hV))
          have HR1 : Hid (∀ V, Grows wr V → Calls Try.prog 13 #[sv U A n c] V fun e w' => ∃ A' c', e = .returned (sv U A' n c') ∧ Copy w' V.heap.size A' c' M ∧ Below V.heap.size V w') := Lib.hid (fun V hV => by
            have := ref_any _ U A n c M V HN.out (hrr.new hV) hl
            unfold CopyPost at this
            rw [HN.out] at this
            exact this)
          have HR2 : Hid (∀ V, Grows wr V → Calls Try.prog 13 #[sv U' A' n' c'] V fun e w' => ∃ A' c', e = .returned (sv U' A' n' c') ∧ Copy w' V.heap.size A' c' M' ∧ Below V.heap.size V w') := Lib.hid (fun V hV => by
            have := ref_any _ U' A' n' c' M' V HN'.out (hrr'.new hV) hl'
            unfold CopyPost at this
            rw [HN'.out] at this
            exact this)
          have HF1 : Hid (∀ V, Grows wr V → Calls Try.prog 20 #[sv U Ax n cx] V fun e w' => ∃ A' c', e = .returned (sv U A' n c') ∧ Copy w' V.heap.size A' c' M ∧ Below V.heap.size V w') := Lib.hid (fun V hV => by
            have := from_any _ U Ax n cx M V HN.out (hCxr.at.new hV) hl
            unfold CopyPost at this
            rw [HN.out] at this
            exact this)
          have HF2 : Hid (∀ V, Grows wr V → Calls Try.prog 20 #[sv U' Ay n' cy] V fun e w' => ∃ A' c', e = .returned (sv U' A' n' c') ∧ Copy w' V.heap.size A' c' M' ∧ Below V.heap.size V w') := Lib.hid (fun V hV => by
            have := from_any _ U' Ay n' cy M' V HN'.out (hCyr.at.new hV) hl'
            unfold CopyPost at this
            rw [HN'.out] at this
            exact this)
          have HS1 : Hid (∀ (V : World) (B1 B2 : Option Addr) (d1 d2 : Nat), Copy V wr.heap.size B1 d1 M → Copy V wr.heap.size B2 d2 M → Calls Try.prog 19 #[sv U B1 n d1, sv U B2 n d2] V fun e w' => e = .returned (.bool true) ∧ Grows V w') := Lib.hid (fun V B1 B2 d1 d2 h1 h2 => rsame_yes _ _ U B1 B2 n d1 d2 M V HN.out h1.at h2.at hl)
          have HS2 : Hid (∀ (V : World) (B1 B2 : Option Addr) (d1 d2 : Nat), Copy V wr.heap.size B1 d1 M' → Copy V wr.heap.size B2 d2 M' → Calls Try.prog 19 #[sv U' B1 n' d1, sv U' B2 n' d2] V fun e w' => e = .returned (.bool true) ∧ Grows V w') := Lib.hid (fun V B1 B2 d1 d2 h1 h2 => rsame_yes _ _ U' B1 B2 n' d1 d2 M' V HN'.out h1.at h2.at hl')
          go_wp2_with fail
          refine wp_fam (n := 13) (size := 67) (D := [55, 56, 57, 58, 59, 60, 61, 62, 63, 64, 65, 66, 4]) [(55, isV (sv U Ax n cx)), (56, copyS U wr.heap.size n M), (57, isV (sv U A n c)), (58, copyS U wr.heap.size n M), (59, isV (.bool true)), (60, isV (.bool true)), (61, isV (sv U' Ay n' cy)), (62, copyS U' wr.heap.size n' M'), (63, isV (sv U' A' n' c')), (64, copyS U' wr.heap.size n' M'), (65, isV (.bool true)), (66, isV (.bool true)), (4, isV (.bool true))] (by kernel_rfl) (by rfl) (by kernel_rfl) ?_ ?_
          · simp only [List.take_succ_cons, List.take_zero, famAll]
            repeat' apply And.intro
            · intro f V hg hl
              obtain ⟨z0, z1, z2, z3, z4, z5, z6, z7, z8⟩ := HCX.out V hg
              simp [Oper.looksAt, Op.operands, Call.operands, famAt, famOf, isV] at hl
              simp [famWants, boolIs_bool, boolIs_undef, execOp, rho, go_sem, hl, z0, z1, z2, z3, z4, z5, z6, z7, z8, famUpon, famOf, isV, Grows.refl]
            · intro f V hg hl
              simp [Oper.looksAt, Op.operands, Call.operands, famAt, famOf, isV] at hl
              simp [famWants, boolIs_bool, boolIs_undef, execOp, rho, go_sem, hl, famUpon, famOf, isV, Grows.refl]
              refine (HF1.out V hg).mono ?_
              rintro e w'' ⟨B, d, rfl, hc, hb⟩
              exact ⟨_, rfl, hb, B, d, rfl, hc.mono (Below.size hg)⟩
            · intro f V hg hl
              obtain ⟨z0, z1, z2, z3, z4, z5, z6, z7, z8⟩ := HCP.out V hg
              simp [Oper.looksAt, Op.operands, Call.operands, famAt, famOf, isV] at hl
              simp [famWants, boolIs_bool, boolIs_undef, execOp, rho, go_sem, hl, z0, z1, z2, z3, z4, z5, z6, z7, z8, famUpon, famOf, isV, Grows.refl]
            · intro f V hg hl
              simp [Oper.looksAt, Op.operands, Call.operands, famAt, famOf, isV] at hl
              simp [famWants, boolIs_bool, boolIs_undef, execOp, rho, go_sem, hl, famUpon, famOf, isV, Grows.refl]
              refine (HR1.out V hg).mono ?_
              rintro e w'' ⟨B, d, rfl, hc, hb⟩
              exact ⟨_, rfl, hb, B, d, rfl, hc.mono (Below.size hg)⟩
            · intro f V hg hl
              simp [Oper.looksAt, Op.operands, Call.operands, famAt, famOf, isV] at hl
              obtain ⟨⟨B1, d1, e56, h1⟩, B2, d2, e58, h2⟩ := hl
              have hl := e56
              simp [famWants, boolIs_bool, boolIs_undef, execOp, rho, go_sem, hl, e56, e58, famUpon, famOf, isV, Grows.refl]
              exact HS1.out V B1 B2 d1 d2 h1 h2
            · intro f V hg hl
              simp [Oper.looksAt, Op.operands, Call.operands, famAt, famOf, isV] at hl
              simp [famWants, boolIs_bool, boolIs_undef, execOp, rho, go_sem, hl, famUpon, famOf, isV, Grows.refl]
            · intro f V hg hl
              obtain ⟨z0, z1, z2, z3, z4, z5, z6, z7, z8⟩ := HCY.out V hg
              simp [Oper.looksAt, Op.operands, Call.operands, famAt, famOf, isV] at hl
              simp [famWants, boolIs_bool, boolIs_undef, execOp, rho, go_sem, hl, z0, z1, z2, z3, z4, z5, z6, z7, z8, famUpon, famOf, isV, Grows.refl]
            · intro f V hg hl
              simp [Oper.looksAt, Op.operands, Call.operands, famAt, famOf, isV] at hl
              simp [famWants, boolIs_bool, boolIs_undef, execOp, rho, go_sem, hl, famUpon, famOf, isV, Grows.refl]
              refine (HF2.out V hg).mono ?_
              rintro e w'' ⟨B, d, rfl, hc, hb⟩
              exact ⟨_, rfl, hb, B, d, rfl, hc.mono (Below.size hg)⟩
            · intro f V hg hl
              obtain ⟨z0, z1, z2, z3, z4, z5, z6, z7, z8⟩ := HCQ.out V hg
              simp [Oper.looksAt, Op.operands, Call.operands, famAt, famOf, isV] at hl
              simp [famWants, boolIs_bool, boolIs_undef, execOp, rho, go_sem, hl, z0, z1, z2, z3, z4, z5, z6, z7, z8, famUpon, famOf, isV, Grows.refl]
            · intro f V hg hl
              simp [Oper.looksAt, Op.operands, Call.operands, famAt, famOf, isV] at hl
              simp [famWants, boolIs_bool, boolIs_undef, execOp, rho, go_sem, hl, famUpon, famOf, isV, Grows.refl]
              refine (HR2.out V hg).mono ?_
              rintro e w'' ⟨B, d, rfl, hc, hb⟩
              exact ⟨_, rfl, hb, B, d, rfl, hc.mono (Below.size hg)⟩
            · intro f V hg hl
              simp [Oper.looksAt, Op.operands, Call.operands, famAt, famOf, isV] at hl
              obtain ⟨⟨B1, d1, e62, h1⟩, ⟨B2, d2, e64, h2⟩, hl⟩ := hl
              simp [famWants, boolIs_bool, boolIs_undef, execOp, rho, go_sem, hl, e62, e64, famUpon, famOf, isV, Grows.refl]
              exact HS2.out V B1 B2 d1 d2 h1 h2
            · intro f V hg hl
              simp [Oper.looksAt, Op.operands, Call.operands, famAt, famOf, isV] at hl
              simp [famWants, boolIs_bool, boolIs_undef, execOp, rho, go_sem, hl, famUpon, famOf, isV, Grows.refl]
            · intro f V hg hl
              simp [Oper.looksAt, Op.operands, Call.operands, famAt, famOf, isV] at hl
              simp [famWants, boolIs_bool, boolIs_undef, execOp, rho, go_sem, hl, famUpon, famOf, isV, Grows.refl]
            · trivial
          · intro u V2 hg2 hu
            have h4 : u 4 = .bool true := hu 4 (by decide)
            simp only [List.drop_succ_cons, List.drop_zero, fill, Act.put, List.setIfInBounds_toArray, List.set_cons_zero, List.set_cons_succ, h4]
            refine wpList_nil ?_
            clear hu h4 HCP HCQ HCX HCY HR1 HR2 HF1 HF2 HS1 HS2
            go_wp2
            go_ret
            exact ⟨rfl, below_new hball hg2⟩
end Go.Proofs.Ytegppdobpihbnaa
