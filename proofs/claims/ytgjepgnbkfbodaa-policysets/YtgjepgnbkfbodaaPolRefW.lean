/- Layer 9, the document's own: the policy that counts. -/
import Derived.Test.YtgjepgnbkfbodaaPolWin
import Derived.Test.YtgjepgnbkfbodaaPolRefS
namespace Go.Proofs.Ytgjepgnbkfbodaa
set_option linter.unusedVariables false
set_option linter.unusedSimpArgs false
open Go.ChangeShapes Go.WideShapes Go.ChangeAt Go.RowKit

theorem EvAt.far {w w' : World} {p : Addr} {F : Nat → Int} {A : Option Addr} {n c : Nat} {g : Nat} (h : EvAt w p F A n c) (hg : w.grownBy w' (some g)) (hne : p.block ≠ g) : EvAt w' p F A n c := by
  have hb : ∀ (q : Addr) (v : Value), q.block = p.block → w.cell? q = some v → w'.cell? q = some v := fun q v hq hv =>
    (World.cell?_of_block (w := w) (by rw [hq]; exact hg.block p.block (by have := M.cellLt hv; rw [hq] at this; exact this) (fun e => hne (by injection e)))).trans hv
  exact ⟨hb _ _ rfl h.1, fun k v hk hv => hb _ _ rfl (h.2 k v hk hv)⟩

set_option maxRecDepth 100000 in
set_option maxHeartbeats 8000000 in
theorem rwinner_any (S : Nat → Prop) (A : Option Addr) (n c : Nat) (l : List EvV) (k : Int) (w : World) (hn : l.length = n) (hr : ERds w S A l) (hl : n ≤ 900000) (hm : ∀ e ∈ l, e.M.length ≤ 1000000) :
    Calls Try.prog 15 #[.slice A n c, .int .i64 k] w fun e w' => e = .returned (winV (winOf (sets k l))) ∧ Below w.heap.size w w' := by
  obtain ⟨w1, hw1⟩ : ∃ W, (w.alloc (.cells (pcs zF) 31)).alloc (.cells (dcs zF) 29) = W := ⟨_, rfl⟩
  have hb1 : Below w.heap.size w w1 := by rw [← hw1]; exact b_alloc2 _ _ _
  have hA1 : Blo w1 w.heap.size 31 (pcs zF) := by rw [← hw1]; exact (Blo.made _ _ _).alloc _
  have hD1 : Blo w1 (w.heap.size + 1) 29 (dcs zF) := by
    rw [← hw1]
    have := Blo.made (w.alloc (.cells (pcs zF) 31)) 29 (dcs zF)
    simpa using this
  have HR := Lib.hid (rsets_any S A n c l k w1 hn (hr.new hb1) hl hm)
  have HSL := Lib.hid (sets_le l k)
  have HW1 := Lib.hid hw1
  have HN := Lib.hid hn
  have hs1 : w1.heap.size = w.heap.size + 2 := by rw [← hw1]; simp
  clear hw1 hn hr
  go_enter Try.func15, Try.ntmps15
  go_wp2_with fail
  rw [HW1.out]
  refine HR.out.mono ?_
  rintro e w2 ⟨A2, N2, c2, m, rfl, HN2, hpl, hO2, hb2⟩
  have hA2 := hA1.new hb2
  have hD2 := hD1.new hb2
  have hb02 := below_new hb1 hb2
  clear hA1 hD1 hb2 HR
  cases m with
  | nil =>
    have HZ : Hid (winV (winOf (sets k l)) = .tuple #[pv zF, .agg (dcs zF), .bool false]) := Lib.hid (by
      have : P.isort ltE (sets k l) = [] := List.eq_nil_of_length_eq_zero (by rw [← plain_len, ← hpl]; rfl)
      unfold winOf
      rw [this]; rfl)
    have hN0 : N2 = 0 := HN2
    subst hN0
    clear HN2 hpl hO2
    go_wp2_with (refine wpList_setb _ rfl 31 _ _ rfl w.heap.size (pcs zF) (pcs zF) rfl rfl hA2 (by rw [Try.sizePol]; rfl) rfl (pcs_one _) ?_)
    intro w3 hA3 hg3
    have hD3 := hD2.grown hg3 (fun e => by injection e with e; omega)
    refine wpList_setb _ rfl 29 _ _ rfl (w.heap.size + 1) (dcs zF) (dcs zF) rfl rfl hD3 (by rw [Try.sizeDot9]; rfl) rfl (dcs_one _) ?_
    intro w4 hD4 hg4
    have hA4 := hA3.grown hg4 (fun e => by injection e with e; omega)
    have hb3 : Below w.heap.size w w3 := hb02.grown hg3 hb02.size (fun k hk => by injection hk with hk; omega)
    have hb4 : Below w.heap.size w w4 := hb3.grown hg4 hb3.size (fun k hk => by injection hk with hk; omega)
    clear hA2 hD2 hb02 hg3 hg4 hA3 hD3 hb3
    have p0 := hA4.cell 0; have p1 := hA4.cell 1; have p2 := hA4.cell 2; have p3 := hA4.cell 3; have p4 := hA4.cell 4; have p5 := hA4.cell 5; have p6 := hA4.cell 6
    have d0 := hD4.cell 0; have d1 := hD4.cell 1
    simp at p0 p1 p2 p3 p4 p5 p6 d0 d1
    go_wp2
    refine bodyPost_ret (v := .tuple #[pv zF, .agg (dcs zF), .bool false]) ?_ rfl ?_
    · simp [results, Try.results15, go_sem, p0, p1, p2, p3, p4, p5, p6, d0, d1]
    · rw [HZ.out]
      exact ⟨rfl, hb4⟩
  | cons x r =>
    have HZ : Hid (winV (winOf (sets k l)) = .tuple #[pv x.F, .agg (dcs x.F), .bool true]) := Lib.hid (by
      obtain ⟨y, r', hy⟩ : ∃ y r', P.isort ltE (sets k l) = y :: r' := by
        cases hi : P.isort ltE (sets k l) with
        | nil => rw [hi] at hpl; cases hpl
        | cons y r' => exact ⟨y, r', rfl⟩
      rw [hy] at hpl
      have hxy : x.F = y.F := by
        have h1 : (plain (x :: r)).head? = (plain (y :: r')).head? := by rw [hpl]
        simp [plain] at h1
        exact h1.1
      unfold winOf
      rw [hy, hxy]; rfl)
    have hlen : (x :: r).length = N2 := HN2.symm
    have hN0 : N2 ≠ 0 := by rw [← hlen]; simp
    have hN0' : ((N2 : Int) == 0) = false := by simp; omega
    have hN0'' : ¬ (N2 : Int) = 0 := by omega
    obtain ⟨g, e9, hgb⟩ : ∃ g, A2 = some ⟨g, 0, none⟩ ∧ w1.heap.size ≤ g := by
      rcases hO2.row.2 with ⟨e, h0⟩ | ⟨g, cap, cur, e, hb, _⟩
      · simp at h0
      · injection e with e1 e2 e3
        exact ⟨g, e1, hb⟩
    obtain ⟨am, e8, -, y0, yk, -⟩ := hO2.erdsS.ev (i := 0) (by rw [hlen]; omega)
    rw [e9] at e8
    obtain rfl : (⟨g, 0, none⟩ : Addr) = am := by injection e8
    have hEA : EvAt w2 ⟨g, 0, none⟩ x.F x.A x.M.length x.c := ⟨by simpa [Addr.add] using y0, fun k v hk hv => by simpa [Addr.add] using yk k v hk hv⟩
    have hgn : w.heap.size + 1 < g := by omega
    obtain ⟨F, M, Ax, cx⟩ := x
    simp only at HZ hEA
    obtain ⟨q, hq⟩ : ∃ q, q = M.length := ⟨_, rfl⟩
    rw [← hq] at hEA
    subst e9
    have hpt : (0 : Int) < (N2 : Int) := by omega
    have htt : 0 < N2 := by omega
    have HB5 : Hid (w.heap.size ≤ w2.heap.size) := Lib.hid hb02.size
    obtain ⟨Src, hSrc⟩ : ∃ Src : World → Prop, Src = fun W => EvAt W ⟨g, 0, none⟩ F Ax q cx := ⟨_, rfl⟩
    have HSrc : Hid (WSrc Src w.heap.size (w.heap.size + 1)) := Lib.hid (by
      rw [hSrc]
      exact ⟨fun W W' h hg => h.up hg, fun W W' g2 hg h hgb => h.far hgb (by simp only; rcases hg with hg | hg <;> omega)⟩)
    have HSr : Hid (∀ W, Src W → EvAt W ⟨g, 0, none⟩ F Ax q cx) := Lib.hid (fun W h => by rw [hSrc] at h; exact h)
    have HX0 : Hid (∀ f, WX Src w2 w.heap.size w.heap.size (w.heap.size + 1) F 8 9 (fun _ => false) f w2) := Lib.hid (fun f => ⟨by rw [hSrc]; exact hEA, Below.refl _ _, by simpa using hA2, by simpa using hD2⟩)
    have HGN := Lib.hid hgn
    clear hSrc hA2 hD2 hEA HN2 hpl hO2 y0 yk hlen hq e8 hgn hgb
    go_wp2_with fail
    refine wp_famY (size := 24) (D := [16, 17, 18, 19, 20, 21, 22, 23, 6]) [3, 7, 8, 9] [] [(16, isV (.slice (some ⟨g, 0, none⟩) N2 c2)), (17, isV (.pointer (some ⟨g, 0, none⟩))), (18, isV (.pointer (some ⟨g, 6, none⟩))), (19, isV (.agg (pcs F))), (20, isV (.slice (some ⟨g, 0, none⟩) N2 c2)), (21, isV (.pointer (some ⟨g, 0, none⟩))), (22, isV (.pointer (some ⟨g, 0, none⟩))), (23, isV (.agg (dcs F))), (6, isV (.bool true))] (WX Src w2 w.heap.size w.heap.size (w.heap.size + 1) F 8 9) (WX.up HSrc.out HB5.out (by decide) (by decide)) (by kernel_rfl) (by rfl) (by kernel_rfl) (HX0.out _) ?_ ?_
    · simp only [famAllY]
      repeat' apply And.intro
      · rw [if_neg (by decide)]
        intro f W hl
        simp [Oper.looksAt, Op.operands, Call.operands, famAt, famOf, isV] at hl
        simp [famWants, boolIs_bool, boolIs_undef, execOp, rho, go_sem, hl, hpt, htt, famUpon, famOf, isV, Grows.refl, Addr.add]
      · rw [if_neg (by decide)]
        intro f W hl
        simp [Oper.looksAt, Op.operands, Call.operands, famAt, famOf, isV] at hl
        simp [famWants, boolIs_bool, boolIs_undef, execOp, rho, go_sem, hl, hpt, htt, famUpon, famOf, isV, Grows.refl, Addr.add]
      · rw [if_neg (by decide)]
        intro f W hl
        simp [Oper.looksAt, Op.operands, Call.operands, famAt, famOf, isV] at hl
        simp [famWants, boolIs_bool, boolIs_undef, execOp, rho, go_sem, hl, hpt, htt, famUpon, famOf, isV, Grows.refl, Addr.add]
      · rw [if_pos (by decide)]
        intro L f W hi hcl hwt hX hl
        simp [Oper.looksAt, Op.operands, Call.operands, famAt, famOf, isV] at hl
        obtain ⟨c0, c1, c2, c3, c4, c5, c6, c7, c8, c9, c10, c11, c12, c13⟩ := (HSr.out W hX.1).all
        simp only [Nat.zero_add] at c0 c1 c2 c3 c4 c5 c6 c7 c8 c9 c10 c11 c12 c13
        have hps := hX.pass (k := 3) (dst := some 19) (v := .agg (pcs F)) (by decide)
        simp [famWants, boolIs_bool, boolIs_undef, execOp, rho, go_sem, hl, c0, c1, c2, c3, c4, c5, c6, c7, c8, c9, c10, c11, c12, c13, famUpon, famOf, isV]
        exact hps
      · rw [if_neg (by decide)]
        intro f W hl
        simp [Oper.looksAt, Op.operands, Call.operands, famAt, famOf, isV] at hl
        simp [famWants, boolIs_bool, boolIs_undef, execOp, rho, go_sem, hl, hpt, htt, famUpon, famOf, isV, Grows.refl, Addr.add]
      · rw [if_neg (by decide)]
        intro f W hl
        simp [Oper.looksAt, Op.operands, Call.operands, famAt, famOf, isV] at hl
        simp [famWants, boolIs_bool, boolIs_undef, execOp, rho, go_sem, hl, hpt, htt, famUpon, famOf, isV, Grows.refl, Addr.add]
      · rw [if_neg (by decide)]
        intro f W hl
        simp [Oper.looksAt, Op.operands, Call.operands, famAt, famOf, isV] at hl
        simp [famWants, boolIs_bool, boolIs_undef, execOp, rho, go_sem, hl, hpt, htt, famUpon, famOf, isV, Grows.refl, Addr.add]
      · rw [if_pos (by decide)]
        intro L f W hi hcl hwt hX hl
        simp [Oper.looksAt, Op.operands, Call.operands, famAt, famOf, isV] at hl
        obtain ⟨c0, c1, c2, c3, c4, c5, c6, c7, c8, c9, c10, c11, c12, c13⟩ := (HSr.out W hX.1).all
        simp only [Nat.zero_add] at c0 c1 c2 c3 c4 c5 c6 c7 c8 c9 c10 c11 c12 c13
        have hps := hX.pass (k := 7) (dst := some 23) (v := .agg (dcs F)) (by decide)
        simp [famWants, boolIs_bool, boolIs_undef, execOp, rho, go_sem, hl, c0, c1, c2, c3, c4, c5, c6, c7, c8, c9, c10, c11, c12, c13, famUpon, famOf, isV]
        exact hps
      · rw [if_pos (by decide)]
        intro L f W hi hcl hwt hX hl
        simp [Oper.looksAt, Op.operands, Call.operands, famAt, famOf, isV] at hl
        obtain ⟨W2, hrun, hr, hg⟩ := run_setb W w.heap.size 31 _ (pcs F) hX.2.2.1 (by rw [Try.sizePol]; rfl) rfl (pcs_one F)
        refine ⟨fun _ => ?_, fun e => ?_⟩
        · unfold execOp
          simp only [rho, hl]
          simp only [Sem.run_bind, Sem.run_pure, hrun, Result.andThen_ok, famUpon]
          exact ⟨fun d e => (by cases e), hX.pol HSrc.out (by decide) (by omega) (Nat.le_refl _) HB5.out hr hg⟩
        · simp [famWants] at e
      · rw [if_pos (by decide)]
        intro L f W hi hcl hwt hX hl
        simp [Oper.looksAt, Op.operands, Call.operands, famAt, famOf, isV] at hl
        obtain ⟨W2, hrun, hr, hg⟩ := run_setb W (w.heap.size + 1) 29 _ (dcs F) hX.2.2.2 (by rw [Try.sizeDot9]; rfl) rfl (dcs_one F)
        refine ⟨fun _ => ?_, fun e => ?_⟩
        · unfold execOp
          simp only [rho, hl]
          simp only [Sem.run_bind, Sem.run_pure, hrun, Result.andThen_ok, famUpon]
          exact ⟨fun d e => (by cases e), hX.dot HSrc.out (by decide) (by omega) (by omega) HB5.out hr hg⟩
        · simp [famWants] at e
      · rw [if_neg (by decide)]
        intro f W hl
        simp [Oper.looksAt, Op.operands, Call.operands, famAt, famOf, isV] at hl
        simp [famWants, boolIs_bool, boolIs_undef, execOp, rho, go_sem, hl, hpt, htt, famUpon, famOf, isV, Grows.refl, Addr.add]
      · trivial
    · intro L u W hL hX hu
      obtain ⟨hbW, hAW, hDW⟩ := hX.fin (hL 8 (by decide)) (hL 9 (by decide))
      have e6 : u 6 = .bool true := hu 6 (by decide)
      simp only [fill, Act.put, List.setIfInBounds_toArray, List.set_cons_zero, List.set_cons_succ, e6]
      refine wpList_nil ?_
      have p0 := hAW.cell 0; have p1 := hAW.cell 1; have p2 := hAW.cell 2; have p3 := hAW.cell 3; have p4 := hAW.cell 4; have p5 := hAW.cell 5; have p6 := hAW.cell 6
      have d0 := hDW.cell 0; have d1 := hDW.cell 1
      simp at p0 p1 p2 p3 p4 p5 p6 d0 d1
      clear hL hX hu HX0
      go_wp2
      refine bodyPost_ret (v := .tuple #[pv F, .agg (dcs F), .bool true]) ?_ rfl ?_
      · simp [results, Try.results15, go_sem, p0, p1, p2, p3, p4, p5, p6, d0, d1]
      · rw [HZ.out]
        exact ⟨rfl, hb02.trans hbW⟩
end Go.Proofs.Ytgjepgnbkfbodaa
