/- Layer 6: the document's Add. -/
import Derived.Test.YtegppdobpihbnaaDotRefJoin
namespace Go.Proofs.Ytegppdobpihbnaa
set_option linter.unusedVariables false
set_option linter.unusedSimpArgs false
open Go.ChangeShapes Go.WideShapes Go.ChangeAt Go.RowKit

set_option maxRecDepth 100000 in
set_option maxHeartbeats 2000000 in
theorem radd_any (S : Nat → Prop) (U : Nat → Int) (A : Option Addr) (n c : Nat) (M : List D.Dot) (a b : Int) (w : World) (hn : M.length = n) (hr : Rds w S A (dvs M)) (hl : n ≤ 1000000) :
    Calls Try.prog 12 #[sv U A n c, .agg #[.int .i64 a, .int .i64 b]] w (SetPost2 (D.add U M (a, b)) w) := by
  obtain ⟨w1, hw1⟩ : ∃ W, ((w.alloc (.cells (scs U A n c) 35)).alloc (.cells #[.int .i64 a, .int .i64 b] 27)).alloc (.cells (scs (fun _ => 0) none 0 0) 35) = W := ⟨_, rfl⟩
  have hb1 : Below w.heap.size w w1 := by rw [← hw1]; exact (b_alloc2 _ _ _).alloc (b_alloc2 _ _ _).size _
  have hz1 : w1.heap.size = w.heap.size + 3 := by rw [← hw1]; simp
  have hX : Blo w1 w.heap.size 35 (scs U A n c) := by rw [← hw1]; exact ((Blo.made _ _ _).alloc _).alloc _
  have hY : Blo w1 (w.heap.size + 1) 27 #[.int .i64 a, .int .i64 b] := by
    rw [← hw1]
    have := (Blo.made (w.alloc (.cells (scs U A n c) 35)) 27 #[.int .i64 a, .int .i64 b]).alloc (.cells (scs (fun _ => 0) none 0 0) 35)
    simpa using this
  have hZ : Blo w1 (w.heap.size + 2) 35 (scs (fun _ => 0) none 0 0) := by
    rw [← hw1]
    have := Blo.made ((w.alloc (.cells (scs U A n c) 35)).alloc (.cells #[.int .i64 a, .int .i64 b] 27)) 35 (scs (fun _ => 0) none 0 0)
    simpa using this
  have k0 : w1.cell? ⟨w.heap.size + 1, 0, none⟩ = some (.int .i64 a) := by simpa using hY.cell 0
  have k1 : w1.cell? ⟨w.heap.size + 1, 1, none⟩ = some (.int .i64 b) := by simpa using hY.cell 1
  have HW := Lib.hid hw1
  have HN := Lib.hid hn
  have hr1 := hr.new hb1
  have hM := rmay_any a b w1
  clear hw1 hn
  cases hm : D.may (a, b) with
  | false =>
    rw [hm] at hM
    have HA : Hid (D.add U M (a, b) = (fun _ => 0, [], 2)) := Lib.hid (by unfold D.add; rw [if_pos hm])
    rw [HA.out]
    clear hm
    go_enter Try.func12, Try.ntmps12
    go_wp2_with fail
    rw [HW.out]
    go_wp2_with fail
    refine hM.mono ?_
    rintro e w2 ⟨rfl, hb2⟩
    have hZ2 := hZ.new hb2
    clear hM k0 k1
    go_wp2_with (refine wpList_setv _ rfl 35 _ _ rfl Try.sizeRef (w.heap.size + 2) _ rfl (fun _ => 0) none 0 0 rfl hZ2 rfl ?_)
    intro w5 hZ5 hg5
    have hb5 : Below w.heap.size w w5 := (below_new hb1 hb2).grown hg5 (below_new hb1 hb2).size (fun k hk => by injection hk with hk; omega)
    obtain ⟨y0, y1, y2, y3, y4, y5, y6, y7, y8⟩ := set9 hZ5
    go_wp2
    refine bodyPost_ret (v := .tuple #[sv (fun _ => 0) none 0 0, .int .i64 2]) ?_ rfl ?_
    · simp [results, Try.results12, go_sem, y0, y1, y2, y3, y4, y5, y6, y7, y8]
    exact ⟨none, 0, rfl, DRow.nil _ _, hb5⟩
  | true =>
    rw [hm] at hM
    have Hm := Lib.hid hm
    have hm' := D.may_iff.1 hm
    simp only at hm'
    clear hm
    go_enter Try.func12, Try.ntmps12
    go_wp2_with fail
    rw [HW.out]
    go_wp2_with fail
    refine hM.mono ?_
    rintro e w2 ⟨rfl, hb2⟩
    have hX2 := hX.new hb2
    have hY2 := hY.new hb2
    have hZ2 := hZ.new hb2
    have hr2 := hr1.new hb2
    clear hM k0 k1
    obtain ⟨z0, z1, z2, z3, z4, z5, z6, z7, z8⟩ := set9 hX2
    have k0 : w2.cell? ⟨w.heap.size + 1, 0, none⟩ = some (.int .i64 a) := by simpa using hY2.cell 0
    have k1 : w2.cell? ⟨w.heap.size + 1, 1, none⟩ = some (.int .i64 b) := by simpa using hY2.cell 1
    have hH := rhas_any S U A n c M a b w2 HN.out hr2 hl
    have hb02 := below_new hb1 hb2
    have hsz2 := hb2.size
    cases hh : D.has U M (a, b) with
    | true =>
      rw [hh] at hH
      have HA : Hid (D.add U M (a, b) = (fun _ => 0, [], 9)) := Lib.hid (by unfold D.add; rw [if_neg (by rw [Hm.out]; decide), if_pos hh])
      clear hh
      go_wp2_with fail
      refine hH.mono ?_
      rintro e w3 ⟨rfl, hb3⟩
      have hZ3 := hZ2.new hb3
      clear hH k0 k1 z0 z1 z2 z3 z4 z5 z6 z7 z8
      go_wp2_with (refine wpList_setv _ rfl 35 _ _ rfl Try.sizeRef (w.heap.size + 2) _ rfl (fun _ => 0) none 0 0 rfl hZ3 rfl ?_)
      intro w5 hZ5 hg5
      have hb5 : Below w.heap.size w w5 := (below_new hb02 hb3).grown hg5 (below_new hb02 hb3).size (fun k hk => by injection hk with hk; omega)
      obtain ⟨y0, y1, y2, y3, y4, y5, y6, y7, y8⟩ := set9 hZ5
      go_wp2
      refine bodyPost_ret (v := .tuple #[sv (fun _ => 0) none 0 0, .int .i64 9]) ?_ rfl ?_
      · simp [results, Try.results12, go_sem, y0, y1, y2, y3, y4, y5, y6, y7, y8]
      rw [HA.out]
      exact ⟨none, 0, rfl, DRow.nil _ _, hb5⟩
    | false =>
      rw [hh] at hH
      obtain ⟨L, hLe⟩ : ∃ L, D.lst (D.has U M) = L := ⟨_, rfl⟩
      have hlen : L.length ≤ 768 := by rw [← hLe]; exact D.lst_len _
      have hsame : ∀ d, D.may d = true → (if d = (a, b) then true else D.has U M d) = (L ++ [(a, b)]).contains d := fun d hd => by
        rw [contains_app, ← hLe, contains_lst _ hd]
        by_cases e : d = (a, b)
        · subst e; simp
        · rw [if_neg e]; simp [e]
      obtain ⟨UT, hUT⟩ : ∃ V, D.cU (fun d => (L ++ [(a, b)]).contains d) = V := ⟨_, rfl⟩
      obtain ⟨MT, hMT⟩ : ∃ V, D.cM (fun d => (L ++ [(a, b)]).contains d) = V := ⟨_, rfl⟩
      have HA : Hid (D.add U M (a, b) = (D.cU (fun x => if x = (a, b) then true else D.has U M x), MT, 0)) := Lib.hid (by
        unfold D.add
        rw [if_neg (by rw [Hm.out]; decide), if_neg (by rw [hh]; decide), ← hMT, D.cM_congr hsame])
      have HUj : Hid (∀ j, j < 8 → UT j = D.cU (fun x => if x = (a, b) then true else D.has U M x) j) := Lib.hid (fun j hj => by rw [← hUT]; exact (D.cU_congr hj hsame).symm)
      have HUT := Lib.hid hUT
      have HMT := Lib.hid hMT
      have HL := Lib.hid hLe
      clear hh hUT hMT hLe hsame
      go_wp2_with fail
      refine hH.mono ?_
      rintro e w3 ⟨rfl, hb3⟩
      have hX3 := hX2.new hb3
      have hY3 := hY2.new hb3
      have hZ3 := hZ2.new hb3
      have hr3 := hr2.new hb3
      have hb03 := below_new hb02 hb3
      have hs3 := hb3.size
      clear hH k0 k1 z0 z1 z2 z3 z4 z5 z6 z7 z8
      have HC : Hid (∀ V, Grows w3 V → _) := Lib.hid (fun V hV => set9 (hX3.new hV))
      have HC0 : Hid (∀ V, Grows w3 V → V.cell? ⟨w.heap.size + 1, 0, none⟩ = some (.int .i64 a) ∧ V.cell? ⟨w.heap.size + 1, 1, none⟩ = some (.int .i64 b)) := Lib.hid (fun V hV => ⟨by simpa using (hY3.new hV).cell 0, by simpa using (hY3.new hV).cell 1⟩)
      have HKL : Hid (∀ V, Grows w3 V → Calls Try.prog 14 #[sv U A n c] V (DotsPost L V)) := Lib.hid (fun V hV => by rw [← HL.out]; exact rlist_any S U A n c M V HN.out (hr3.new hV) hl)
      go_wp2_with fail
      refine wp_fam (n := 4) (size := 20) (D := [14, 15, 16, 17]) [(14, isV (sv U A n c)), (15, dotsV w3.heap.size L), (16, isV (.agg #[.int .i64 a, .int .i64 b])), (17, oneV a b)] (by kernel_rfl) (by rfl) (by kernel_rfl) ?_ ?_
      · simp only [List.take_succ_cons, List.take_zero, famAll]
        repeat' apply And.intro
        · intro f V hg hl
          obtain ⟨z0, z1, z2, z3, z4, z5, z6, z7, z8⟩ := HC.out V hg
          simp [Oper.looksAt, Op.operands, Call.operands, famAt, famOf, isV] at hl
          simp [famWants, execOp, rho, go_sem, hl, z0, z1, z2, z3, z4, z5, z6, z7, z8, famUpon, famOf, isV, Grows.refl]
        · intro f V hg hl
          simp [Oper.looksAt, Op.operands, Call.operands, famAt, famOf, isV] at hl
          simp [famWants, execOp, rho, go_sem, hl, famUpon, famOf, isV, Grows.refl]
          refine (HKL.out V hg).mono ?_
          rintro e w'' ⟨B, d, rfl, hR, hb⟩
          exact ⟨_, rfl, hb, hR.mono (Below.size hg)⟩
        · intro f V hg hl
          obtain ⟨k0, k1⟩ := HC0.out V hg
          simp [Oper.looksAt, Op.operands, Call.operands, famAt, famOf, isV] at hl
          simp [famWants, execOp, rho, go_sem, hl, k0, k1, famUpon, famOf, isV, Grows.refl]
        · intro f V hg hl
          simp [Oper.looksAt, Op.operands, Call.operands, famAt, famOf, isV] at hl
          simp [famWants, execOp, rho, go_sem, hl, famUpon, famOf, isV, Grows.alloc]
          exact ⟨_, rfl, Blo.made _ _ _⟩
        · trivial
      · intro u V hg hu
        have h15 : DRow V w3.heap.size (u 15) L := hu 15 (by decide)
        obtain ⟨g17, e17, h17⟩ : ∃ g, u 17 = .slice (some ⟨g, 0, none⟩) 1 1 ∧ Blo V g 27 #[.int .i64 a, .int .i64 b] := hu 17 (by decide)
        obtain ⟨A15, c15, e15, _⟩ := h15.form
        rw [e15] at h15
        simp only [List.drop_succ_cons, List.drop_zero, fill, Act.put, List.setIfInBounds_toArray, List.set_cons_zero, List.set_cons_succ, e15, e17]
        have hsV := Below.size hg
        have hZV := hZ3.new hg
        have hr17 := blo_rds h17
        have hb0V := below_new hb03 hg
        have hs03 := hb03.size
        clear hu e15 e17
        go_wp2_with (at_builtin; refine wpList_dapp _ rfl _ _ rfl w3.heap.size (.slice A15 L.length c15) L rfl h15 (fun _ => True) _ 1 1 [(a, b)] rfl rfl hr17 (by omega) hsV ?_)
        intro v9 w4 hR9 hg4 _
        obtain ⟨A9, c9, rfl, _⟩ := hR9.form
        have hb4 : Below w.heap.size w w4 := hb0V.grown hg4 hb0V.size (fun k hk => by have := (h15.lt k hk).1; omega)
        have hZ4 := hZV.grown hg4 (fun e => by have := (h15.lt _ e.symm).1; have := hZ3.lt; omega)
        have hOf := of_any (fun _ => True) A9 (L ++ [(a, b)]).length c9 (L ++ [(a, b)]) w4 rfl hR9.rdsT (by simp; omega)
        unfold SetPost at hOf
        rw [HUT.out, HMT.out] at hOf
        obtain ⟨N9, hN9⟩ : ∃ N, N = (L ++ [(a, b)]).length := ⟨_, rfl⟩
        rw [← hN9] at hOf ⊢
        clear hN9 h15 hr17 hg4 h17
        go_wp2_with fail
        refine hOf.mono ?_
        rintro e w5 ⟨B, d, rfl, hR, hb5⟩
        have hZ5 := hZ4.new hb5
        have hne := hR.blo hZ5 (by decide)
        have hs4 := hb4.size
        clear hOf
        go_wp2_with (refine wpList_setv _ rfl 35 _ _ rfl Try.sizeRef (w.heap.size + 2) _ rfl UT B MT.length d rfl hZ5 rfl ?_)
        intro w7 hZ7 hg7
        have hR7 : DRow w7 w4.heap.size (.slice B MT.length d) MT := hR.grown hg7 (fun b hb e => hne (hb.trans e))
        have hb06 := below_new hb4 hb5
        have hb7 : Below w.heap.size w w7 := hb06.grown hg7 hb06.size (fun k hk => by injection hk with hk; omega)
        obtain ⟨y0, y1, y2, y3, y4, y5, y6, y7, y8⟩ := set9 hZ7
        go_wp2
        refine bodyPost_ret (v := .tuple #[sv UT B MT.length d, .int .i64 0]) ?_ rfl ?_
        · simp [results, Try.results12, go_sem, y0, y1, y2, y3, y4, y5, y6, y7, y8]
        rw [HA.out]
        exact ⟨B, d, by rw [sv_congr HUj.out], hR7.mono hs4, hb7⟩
end Go.Proofs.Ytegppdobpihbnaa
