/- Layer 6: the document's Join. -/
import Derived.Test.YtegppdobpihbnaaDotRefLess
namespace Go.Proofs.Ytegppdobpihbnaa
set_option linter.unusedVariables false
set_option linter.unusedSimpArgs false
open Go.ChangeShapes Go.WideShapes Go.ChangeAt Go.RowKit

set_option maxRecDepth 100000 in
set_option maxHeartbeats 2000000 in
theorem rjoin_any (S S' : Nat → Prop) (U : Nat → Int) (A : Option Addr) (n c : Nat) (M : List D.Dot) (U' : Nat → Int) (A' : Option Addr) (n' c' : Nat) (M' : List D.Dot) (w : World) (hn : M.length = n) (hr : Rds w S A (dvs M)) (hl : n ≤ 1000000) (hn' : M'.length = n') (hr' : Rds w S' A' (dvs M')) (hl' : n' ≤ 1000000) :
    Calls Try.prog 25 #[sv U A n c, sv U' A' n' c'] w (SetPost (D.cU (D.join U M U' M')) (D.cM (D.join U M U' M')) w) := by
  obtain ⟨w1, hw1⟩ : ∃ W, ((w.alloc (.cells (scs U A n c) 35)).alloc (.cells (scs U' A' n' c') 35)).alloc (.cells (scs (fun _ => 0) none 0 0) 35) = W := ⟨_, rfl⟩
  have hb1 : Below w.heap.size w w1 := by rw [← hw1]; exact (b_alloc2 _ _ _).alloc (b_alloc2 _ _ _).size _
  have hz1 : w1.heap.size = w.heap.size + 3 := by rw [← hw1]; simp
  have hX : Blo w1 w.heap.size 35 (scs U A n c) := by rw [← hw1]; exact ((Blo.made _ _ _).alloc _).alloc _
  have hY : Blo w1 (w.heap.size + 1) 35 (scs U' A' n' c') := by
    rw [← hw1]
    have := (Blo.made (w.alloc (.cells (scs U A n c) 35)) 35 (scs U' A' n' c')).alloc (.cells (scs (fun _ => 0) none 0 0) 35)
    simpa using this
  have hZ : Blo w1 (w.heap.size + 2) 35 (scs (fun _ => 0) none 0 0) := by
    rw [← hw1]
    have := Blo.made ((w.alloc (.cells (scs U A n c) 35)).alloc (.cells (scs U' A' n' c') 35)) 35 (scs (fun _ => 0) none 0 0)
    simpa using this
  have hr1 := hr.new hb1
  have hr1' := hr'.new hb1
  obtain ⟨L, hLe⟩ : ∃ L, D.lst (D.has U M) = L := ⟨_, rfl⟩
  obtain ⟨L', hLe'⟩ : ∃ L, D.lst (D.has U' M') = L := ⟨_, rfl⟩
  have hlen : L.length ≤ 768 ∧ L'.length ≤ 768 := ⟨by rw [← hLe]; exact D.lst_len _, by rw [← hLe']; exact D.lst_len _⟩
  have KL : ∀ V, Grows w1 V → Calls Try.prog 14 #[sv U A n c] V (DotsPost L V) := fun V hV => by rw [← hLe]; exact rlist_any S U A n c M V hn (hr1.new hV) hl
  have KL' : ∀ V, Grows w1 V → Calls Try.prog 14 #[sv U' A' n' c'] V (DotsPost L' V) := fun V hV => by rw [← hLe']; exact rlist_any S' U' A' n' c' M' V hn' (hr1'.new hV) hl'
  have HS : Hid (∀ d, D.may d = true → D.join U M U' M' d = (L ++ L').contains d) := Lib.hid (fun d hd => by
    rw [contains_app, ← hLe, ← hLe', contains_lst _ hd, contains_lst _ hd]
    unfold D.join
    cases D.has U' M' d <;> cases D.has U M d <;> rfl)
  obtain ⟨UT, hUT⟩ : ∃ V, D.cU (fun d => (L ++ L').contains d) = V := ⟨_, rfl⟩
  obtain ⟨MT, hMT⟩ : ∃ V, D.cM (fun d => (L ++ L').contains d) = V := ⟨_, rfl⟩
  have HU : Hid (∀ j, j < 8 → UT j = D.cU (D.join U M U' M') j) := Lib.hid (fun j hj => by rw [← hUT]; exact (D.cU_congr hj HS.out).symm)
  have HM : Hid (D.cM (D.join U M U' M') = MT) := Lib.hid (by rw [← hMT]; exact D.cM_congr HS.out)
  have HUT := Lib.hid hUT
  have HMT := Lib.hid hMT
  have HW := Lib.hid hw1
  have HKL := Lib.hid KL
  have HKL' := Lib.hid KL'
  have HC : Hid (∀ V, Grows w1 V → _) := Lib.hid (fun V hV => And.intro (set9 (hX.new hV)) (set9 (hY.new hV)))
  clear hUT hMT hw1 hn hn' hLe hLe' KL KL'
  go_enter Try.func25, Try.ntmps25
  go_wp2_with fail
  rw [HW.out]
  refine wp_fam (n := 4) (size := 11) (D := [5, 6, 7, 8]) [(5, isV (sv U A n c)), (6, dotsV w1.heap.size L), (7, isV (sv U' A' n' c')), (8, dotsV w1.heap.size L')] (by kernel_rfl) (by rfl) (by kernel_rfl) ?_ ?_
  · simp only [List.take_succ_cons, List.take_zero, famAll]
    repeat' apply And.intro
    · intro f V hg hl
      obtain ⟨⟨z0, z1, z2, z3, z4, z5, z6, z7, z8⟩, _⟩ := HC.out V hg
      simp [Oper.looksAt, Op.operands, Call.operands, famAt, famOf, isV] at hl
      simp [famWants, execOp, rho, go_sem, hl, z0, z1, z2, z3, z4, z5, z6, z7, z8, famUpon, famOf, isV, Grows.refl]
    · intro f V hg hl
      simp [Oper.looksAt, Op.operands, Call.operands, famAt, famOf, isV] at hl
      simp [famWants, execOp, rho, go_sem, hl, famUpon, famOf, isV, Grows.refl]
      refine (HKL.out V hg).mono ?_
      rintro e w'' ⟨B, d, rfl, hR, hb⟩
      exact ⟨_, rfl, hb, hR.mono (Below.size hg)⟩
    · intro f V hg hl
      obtain ⟨_, y0, y1, y2, y3, y4, y5, y6, y7, y8⟩ := HC.out V hg
      simp [Oper.looksAt, Op.operands, Call.operands, famAt, famOf, isV] at hl
      simp [famWants, execOp, rho, go_sem, hl, y0, y1, y2, y3, y4, y5, y6, y7, y8, famUpon, famOf, isV, Grows.refl]
    · intro f V hg hl
      simp [Oper.looksAt, Op.operands, Call.operands, famAt, famOf, isV] at hl
      simp [famWants, execOp, rho, go_sem, hl, famUpon, famOf, isV, Grows.refl]
      refine (HKL'.out V hg).mono ?_
      rintro e w'' ⟨B, d, rfl, hR, hb⟩
      exact ⟨_, rfl, hb, hR.mono (Below.size hg)⟩
    · trivial
  · intro u V hg hu
    have h6 : DRow V w1.heap.size (u 6) L := hu 6 (by decide)
    have h8 : DRow V w1.heap.size (u 8) L' := hu 8 (by decide)
    obtain ⟨A6, c6, e6, _⟩ := h6.form
    obtain ⟨A8, c8, e8, _⟩ := h8.form
    rw [e6] at h6
    rw [e8] at h8
    simp only [List.drop_succ_cons, List.drop_zero, fill, Act.put, List.setIfInBounds_toArray, List.set_cons_zero, List.set_cons_succ, e6, e8]
    have hsV := Below.size hg
    have hZV := hZ.new hg
    have hr8 := h8.rdsT
    have hb0V := below_new hb1 hg
    clear hu e6 e8
    go_wp2_with (at_builtin; refine wpList_dapp _ rfl _ _ rfl w1.heap.size (.slice A6 L.length c6) L rfl h6 (fun _ => True) A8 L'.length c8 L' rfl rfl hr8 (by omega) hsV ?_)
    intro v9 w3 hR9 hg3 _
    obtain ⟨A9, c9, rfl, _⟩ := hR9.form
    have hb3 : Below w.heap.size w w3 := hb0V.grown hg3 hb0V.size (fun k hk => by have := (h6.lt k hk).1; omega)
    have hZ3 := hZV.grown hg3 (fun e => by have := (h6.lt _ e.symm).1; omega)
    have hOf := of_any (fun _ => True) A9 (L ++ L').length c9 (L ++ L') w3 rfl hR9.rdsT (by simp; omega)
    unfold SetPost at hOf
    rw [HUT.out, HMT.out] at hOf
    obtain ⟨N9, hN9⟩ : ∃ N, N = (L ++ L').length := ⟨_, rfl⟩
    rw [← hN9] at hOf ⊢
    clear hN9 h6 h8 hr8 hg3
    go_wp2_with fail
    refine hOf.mono ?_
    rintro e w4 ⟨B, d, rfl, hR, hb4⟩
    have hZ4 := hZ3.new hb4
    have hne := hR.blo hZ4 (by decide)
    have hs3 := hb3.size
    clear hOf
    go_wp2_with (refine wpList_setv _ rfl 35 _ _ rfl Try.sizeRef (w.heap.size + 2) _ rfl UT B MT.length d rfl hZ4 rfl ?_)
    intro w5 hZ5 hg5
    have hR5 : DRow w5 w3.heap.size (.slice B MT.length d) MT := hR.grown hg5 (fun b hb e => hne (hb.trans e))
    have hb5 : Below w.heap.size w w5 := (below_new hb3 hb4).grown hg5 (below_new hb3 hb4).size (fun k hk => by injection hk with hk; omega)
    obtain ⟨y0, y1, y2, y3, y4, y5, y6, y7, y8⟩ := set9 hZ5
    go_wp2
    refine bodyPost_ret (v := sv UT B MT.length d) ?_ rfl ?_
    · simp [results, Try.results25, go_sem, y0, y1, y2, y3, y4, y5, y6, y7, y8]
    unfold SetPost
    rw [HM.out]
    exact ⟨B, d, by rw [sv_congr HU.out], hR5.mono hs3, hb5⟩
end Go.Proofs.Ytegppdobpihbnaa
