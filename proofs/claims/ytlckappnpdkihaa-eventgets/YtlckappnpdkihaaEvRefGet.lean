/- Layer 7, the document's own: Get. -/
import Derived.Test.YtlckappnpdkihaaEvRefRd
namespace Go.Proofs.Ytlckappnpdkihaa
set_option linter.unusedVariables false
set_option linter.unusedSimpArgs false
open Go.ChangeShapes Go.WideShapes Go.ChangeAt Go.RowKit

theorem ml_of7 {S : Nat → Prop} {w : World} {A : Option Addr} {c : Nat} {L : List Int} (hB : Byt L) (hl : L.length ≤ 1000000) (hr : Rds w S A (u8s L)) (hc : L.length ≤ c) :
    ∃ h, Ml (w.alloc (.cells #[.slice A L.length c, .int .i64 0, .int .i64 0] 77)) w.heap.size h L L 0 := by
  cases hL : L with
  | nil => exact ⟨w.heap.size, ⟨0, ⟨fun h => absurd rfl h, by simp, by rw [← hL]; exact hB, by simp, by simp, A, c, Blo.made _ _ _, by simp, Rds.nil⟩, rfl⟩⟩
  | cons x l =>
    rw [← hL]
    obtain ⟨ad, rfl, hs, hcl⟩ := hr 0 (.int .u8 x) (by rw [hL]; rfl)
    have hlt := M.cellLt hcl
    rw [M.addBlock] at hlt
    refine ⟨ad.block, ⟨0, ⟨fun _ => by omega, by simp; omega, hB, hl, by omega, _, _, Blo.made _ _ _, hc, ?_⟩, rfl⟩⟩
    refine Rds.alloc (fun j u hu => ?_) _
    obtain ⟨ad', e, _, h2⟩ := hr j u hu
    obtain rfl : ad = ad' := by injection e
    exact ⟨ad, rfl, rfl, h2⟩
/-- What stands while a failed answer is laid. -/
def EndX7 (w : World) (g gr : Nat) (y : Int) : Say := fun _ _ W => W.cell? ⟨g, 2, none⟩ = some (.int .i64 y) ∧ Blo W gr 28 (ecs (fun _ => 0) none 0 0) ∧ Below w.heap.size w W
theorem EndX7.up {w : World} {g gr : Nat} {y : Int} {sp spd : List Nat} : ∀ (L L' : Nat → Bool) (f f' : Nat → Value) (W W' : World), (∀ j ∈ sp, L' j = L j) → (∀ s ∈ spd, f' s = f s) → Grows W W' → EndX7 w g gr y L f W → EndX7 w g gr y L' f' W' :=
  fun _ _ _ _ W W' _ _ hg ⟨h1, h2, h3⟩ => ⟨cell_up h1 hg, h2.new hg, h3.trans (Below.mono hg h3.size)⟩
theorem frozen_up7 {w w' : World} {p : Addr} (hg : Grows w w') (hl : p.block < w.heap.size) : w'.frozen? p = w.frozen? p := by
  have := hg.block p.block hl
  simp [World.frozen?, this]
theorem endX7_set {w W : World} {g gr : Nat} {y v : Int} (hB : Blo W gr 28 (ecs (fun _ => 0) none 0 0)) (hb : Below w.heap.size w W) (hc : W.cell? ⟨g, 2, none⟩ = some (.int .i64 v)) (hne : g ≠ gr) (hwg : w.heap.size ≤ g) :
    EndX7 w g gr y (fun _ => false) (fun _ => undef) (W.setCell ⟨g, 2, none⟩ (.int .i64 y)) :=
  ⟨by exact World.cell?_setCell_same (h := hc) .., hB.other (Ne.symm hne) _, hb.setCell hwg _⟩

set_option maxRecDepth 100000 in
set_option maxHeartbeats 4000000 in
theorem eget_any (S : Nat → Prop) (A : Option Addr) (N c : Nat) (L : List Int) (w : World) (hN : N = L.length) (hc : N ≤ c) (hr : Rds w S A (u8s L)) (hl : L.length ≤ 1000000) (hB : Byt L) :
    Calls Try.prog 26 #[.slice A N c] w (GetPost7 L w) := by
  obtain ⟨w1, hw1⟩ : ∃ W, w.alloc (.cells (ecs (fun _ => 0) none 0 0) 28) = W := ⟨_, rfl⟩
  obtain ⟨gr, hgr⟩ : ∃ q, q = w.heap.size := ⟨_, rfl⟩
  have hb1 : Below w.heap.size w w1 := by rw [← hw1]; exact b_alloc _ _
  have hBr : Blo w1 gr 28 (ecs (fun _ => 0) none 0 0) := by rw [← hw1, hgr]; exact Blo.made _ _ _
  obtain ⟨h, hml⟩ := ml_of7 hB hl (hr.new hb1) (c := c) (by omega)
  rw [← hN] at hml
  obtain ⟨w2, hw2⟩ : ∃ W, w1.alloc (.cells #[.slice A N c, .int .i64 0, .int .i64 0] 77) = W := ⟨_, rfl⟩
  rw [hw2] at hml
  obtain ⟨g, hg⟩ : ∃ q, q = w1.heap.size := ⟨_, rfl⟩
  rw [← hg] at hml
  have hb2 : Below w1.heap.size w1 w2 := by rw [← hw2]; exact b_alloc _ _
  have hBr2 := hBr.new hb2
  have hb02 := below_new hb1 hb2
  have hR := eread_any (s := (L, 0)) hml
  have HW := Lib.hid hw1
  have HGR := Lib.hid hgr
  have HW2 := Lib.hid hw2
  have HG0 : Hid (g = w.heap.size + 1) := Lib.hid (by rw [hg, ← hw1]; simp)
  have h1 : w.heap.size ≤ gr := by omega
  have hgr1 : gr < w1.heap.size := hBr.lt
  have hgg : g ≠ gr := by omega
  have hwg : w.heap.size ≤ g := by have := hb1.size; omega
  have hgl := hml.lt
  have hhl := hml.lth
  have hs2 := hb02.size
  unfold GotE at hR
  obtain ⟨U, hU⟩ : ∃ U, U = E.rdF (L, 0) := ⟨_, rfl⟩
  obtain ⟨M, hM⟩ : ∃ M, M = (E.rdL (L, 0)).1 := ⟨_, rfl⟩
  obtain ⟨s, hs⟩ : ∃ s, s = (E.rdL (L, 0)).2 := ⟨_, rfl⟩
  have hml' : M.length ≤ 768 := by rw [hM]; exact Nat.le_trans (rdL_len (L, 0)) (by omega)
  rw [← hU, ← hM, ← hs] at hR
  obtain ⟨m, hm⟩ : ∃ m, M.length = m := ⟨_, rfl⟩
  rw [hm] at hR hml'
  have HE : Hid (E.gE L = if s.2 = 0 then (if s.1 ≠ [] ∨ E.right U M = false then 4 else 0) else s.2) := Lib.hid (by rw [hU, hM, hs]; rfl)
  have HG : Hid (E.gE L = 0 → E.getF L = U ∧ E.getM L = M) := Lib.hid (fun h => by unfold E.getF E.getM; rw [if_pos h, if_pos h, hU, hM]; exact ⟨rfl, rfl⟩)
  have HG' : Hid (E.gE L ≠ 0 → E.getF L = (fun _ => 0) ∧ E.getM L = []) := Lib.hid (fun h => by unfold E.getF E.getM; rw [if_neg h, if_neg h]; exact ⟨rfl, rfl⟩)
  have HM := Lib.hid hm
  have HN := Lib.hid hN
  clear hU hM hs hm hBr hb2 hb1 hr hl hB hw1 hw2 hgr hg hN
  go_enter Try.func26, Try.ntmps26
  go_wp2_with fail
  rw [HW.out, HW2.out, ← HG0.out, ← HGR.out]
  refine hR.mono ?_
  rintro e w3 ⟨A3, c3, rfl, hrow, hr3, hg3⟩
  have hBr3 := hBr2.grown hg3 (fun e => by injection e with e; omega)
  have hb03 : Below w.heap.size w w3 := hb02.grown hg3 (by omega) (fun k hk => by injection hk with hk; omega)
  obtain ⟨l', x⟩ := s
  simp only at hr3 HE
  clear hR hBr2 hb02 hg3 hml
  obtain ⟨w4, hw4⟩ : ∃ W, w3.alloc (.cells (ecs U A3 m c3) 28) = W := ⟨_, rfl⟩
  obtain ⟨gs, hgs⟩ : ∃ q, q = w3.heap.size := ⟨_, rfl⟩
  have hb4 : Below w3.heap.size w3 w4 := by rw [← hw4]; exact b_alloc _ _
  have hBs4 : Blo w4 gs 28 (ecs U A3 m c3) := by rw [← hw4, hgs]; exact Blo.made _ _ _
  have hBr4 := hBr3.new hb4
  have hr4 := hr3.new hb4
  have hrow4 : DRow w4 w2.heap.size (.slice A3 m c3) M := hrow.new hb4
  have hb04 := below_new hb03 hb4
  have hrs : gs ≠ gr := by have := hBr3.lt; omega
  have hgs3 : g < gs := by have := hr3.lt; omega
  have HW4 := Lib.hid hw4
  have HGS := Lib.hid hgs
  have hs3 : w.heap.size ≤ w3.heap.size := hb03.size
  have hws : w.heap.size ≤ gs := by omega
  clear hw4 hgs hBr3 hr3 hrow hb03 hb4
  have hsz4 := hb04.size
  obtain ⟨A5, c5, p5, q0, q1, q2, f2, hq⟩ : ∃ A c, ∃ p : Nat, w4.cell? ⟨g, 0, none⟩ = some (.slice A L.length c) ∧ w4.cell? ⟨g, 1, none⟩ = some (.int .i64 p) ∧ w4.cell? ⟨g, 2, none⟩ = some (.int .i64 x) ∧ w4.frozen? ⟨g, 2, none⟩ = false ∧ l'.length + p = L.length := by
    obtain ⟨p, hmr, rfl⟩ := hr4
    have hp := hmr.2.2.2.2.1
    obtain ⟨A, c, z0, z1, z2, _, f2, _⟩ := hmr.cells
    exact ⟨A, c, p, z0, z1, z2, f2, by simp; omega⟩
  by_cases hx : x = 0
  · subst hx
    by_cases hll : l' = []
    · subst hll
      have hpn : p5 = N := by rw [HN.out]; simpa using hq
      subst hpn
      have hRt := eright_any _ U A3 m c3 M w4 HM.out hrow4.rdsT (by unfold maxLen; omega)
      obtain ⟨z0, z1, z2, z3, z4, z5, z6, z7, z8, z9, z10, z11, z12, z13⟩ := set14 hBs4
      clear hq
      have q2' := q2
      have f2' := f2
      rw [← HW4.out, HGS.out] at z0 z1 z2 z3 z4 z5 z6 z7 z8 z9 z10 z11 z12 z13
      rw [← HW4.out] at q0 q1 q2 f2
      go_wp2_with fail
      rw [HW4.out, ← HGS.out]
      refine hRt.mono ?_
      rintro e w5 ⟨rfl, hb5⟩
      have hBs5 := hBs4.new hb5
      have hBr5 := hBr4.new hb5
      have hrow5 := hrow4.new hb5
      have hb05 := below_new hb04 hb5
      have k2 := cell_up q2' hb5
      have kf : w5.frozen? ⟨g, 2, none⟩ = false := (frozen_up7 hb5 (Go.Proofs.Ytlckappnpdkihaa.M.cellLt q2')).trans f2'
      clear z0 z1 z2 z3 z4 z5 z6 z7 z8 z9 z10 z11 z12 z13 hRt hBs4 hBr4 hr4 hrow4 hb04 hb5 q0 q1 q2 f2 q2' f2'
      cases hrt : E.right U M with
      | false =>
        have HY : Hid (E.gE L = 4) := Lib.hid (by rw [HE.out]; simp [hrt])
        have hyn : (4 : Int) ≠ 0 := by omega
        clear hrt
        have HX0 : Hid (EndX7 w g gr 4 (fun _ => false) (fun _ => undef) (w5.setCell ⟨g, 2, none⟩ (.int .i64 4))) := Lib.hid (endX7_set hBr5 hb05 k2 hgg hwg)
        go_wp2_with fail
        refine wp_famY (size := 44) (D := [38, 39, 40, 41, 42, 3]) [4, 5] [] [(38, isV (ev (fun _ => 0) none 0 0)), (39, isV (.pointer (some ⟨g, 0, none⟩))), (40, isV (.pointer (some ⟨g, 0, none⟩))), (41, isV (.pointer (some ⟨g, 2, none⟩))), (42, isV (.int .i64 4)), (3, isV (.int .i64 4))] (EndX7 w g gr 4) EndX7.up (by kernel_rfl) (by rfl) (by kernel_rfl) HX0.out ?_ ?_
        · simp only [famAllY]
          repeat' apply And.intro
          · rw [if_neg (by decide)]
            intro f W hl
            simp [Oper.looksAt, Op.operands, Call.operands, famAt, famOf, isV] at hl
            simp [famWants, execOp, rho, go_sem, hl, famUpon, famOf, isV, Grows.refl]
          · rw [if_neg (by decide)]
            intro f W hl
            simp [Oper.looksAt, Op.operands, Call.operands, famAt, famOf, isV] at hl
            simp [famWants, execOp, rho, go_sem, hl, famUpon, famOf, isV, Grows.refl]
          · rw [if_neg (by decide)]
            intro f W hl
            simp [Oper.looksAt, Op.operands, Call.operands, famAt, famOf, isV] at hl
            simp [famWants, execOp, rho, go_sem, hl, famUpon, famOf, isV, Grows.refl]
          · rw [if_neg (by decide)]
            intro f W hl
            simp [Oper.looksAt, Op.operands, Call.operands, famAt, famOf, isV] at hl
            simp [famWants, execOp, rho, go_sem, hl, famUpon, famOf, isV, Grows.refl]
          · rw [if_pos (by decide)]
            intro L f W hi hcl hwt hX hl
            simp [Oper.looksAt, Op.operands, Call.operands, famAt, famOf, isV] at hl
            have k2 := hX.1
            simp [famWants, execOp, rho, go_sem, hl, k2, famUpon, famOf, isV]
            exact hX
          · rw [if_pos (by decide)]
            intro L f W hi hcl hwt hX hl
            simp [Oper.looksAt, Op.operands, Call.operands, famAt, famOf, isV] at hl
            obtain ⟨W', hrun, h2, h3⟩ := run_sete W gr _ hX.2.1 rfl (fun _ => 0) none 0 0
            refine ⟨fun _ => ?_, fun hh => by simp [famWants] at hh⟩
            simp only [execOp, rho, hl, Sem.run_bind, Sem.run_pure, Result.andThen_ok, hrun, famUpon]
            exact ⟨(fun d hd => by cases hd), (World.cell?_of_block (w := W) (h3.block g (Go.Proofs.Ytlckappnpdkihaa.M.cellLt hX.1) (fun e => hgg (by injection e)))).trans hX.1, h2, hX.2.2.grown h3 hX.2.2.size (fun k hk => by injection hk with hk; omega)⟩
          · rw [if_neg (by decide)]
            intro f W hl
            simp [Oper.looksAt, Op.operands, Call.operands, famAt, famOf, isV] at hl
            simp [famWants, execOp, rho, go_sem, hl, famUpon, famOf, isV, Grows.refl]
          · trivial
        · intro L' u w7 hL hX hu
          have e3 : u 3 = .int .i64 4 := hu 3 (by decide)
          obtain ⟨k2, hRes, hb07⟩ := hX
          simp only [fill, Act.put, List.setIfInBounds_toArray, List.set_cons_zero, List.set_cons_succ, e3]
          refine wpList_nil ?_
          obtain ⟨y0, y1, y2, y3, y4, y5, y6, y7, y8, y9, y10, y11, y12, y13⟩ := set14 hRes
          clear hu hL HX0
          go_wp2
          refine bodyPost_ret (v := .tuple #[ev (fun _ => 0) none 0 0, .int .i64 4]) ?_ rfl ?_
          · simp [results, Try.results26, go_sem, y0, y1, y2, y3, y4, y5, y6, y7, y8, y9, y10, y11, y12, y13]
          obtain ⟨g1, g2⟩ := HG'.out (by rw [HY.out]; exact hyn)
          unfold GetPost7
          rw [g1, g2, HY.out]
          exact ⟨none, 0, rfl, DRow.nil _ _, hb07⟩
      | true =>
        have HY : Hid (E.gE L = 0) := Lib.hid (by rw [HE.out]; simp [hrt])
        clear hrt
        obtain ⟨z0, z1, z2, z3, z4, z5, z6, z7, z8, z9, z10, z11, z12, z13⟩ := set14 hBs5
        go_wp2_with (refine wpList_sete _ rfl _ _ rfl gr _ rfl U A3 m c3 rfl hBr5 rfl ?_)
        intro w7 hRes hg7
        have hne := hrow5.blo hBr5 (by decide)
        have hR7 := hrow5.grown hg7 (fun b hb e => hne (hb.trans e))
        have hb07 := hb05.grown hg7 hb05.size (fun k hk => by injection hk with hk; omega)
        obtain ⟨y0, y1, y2, y3, y4, y5, y6, y7, y8, y9, y10, y11, y12, y13⟩ := set14 hRes
        clear z0 z1 z2 z3 z4 z5 z6 z7 z8 z9 z10 z11 z12 z13
        go_wp2
        refine bodyPost_ret (v := .tuple #[ev U A3 m c3, .int .i64 0]) ?_ rfl ?_
        · simp [results, Try.results26, go_sem, y0, y1, y2, y3, y4, y5, y6, y7, y8, y9, y10, y11, y12, y13]
        obtain ⟨g1, g2⟩ := HG.out HY.out
        unfold GetPost7
        rw [g1, g2, HY.out, HM.out]
        exact ⟨A3, c3, rfl, hR7.mono (by omega), hb07⟩
    · have hpn : p5 < N := by rw [HN.out]; have := List.length_pos_iff.2 hll; omega
      have hpi : (p5 : Int) < (N : Int) := by omega
      have HY : Hid (E.gE L = 4) := Lib.hid (by rw [HE.out]; simp [hll])
      have hyn : (4 : Int) ≠ 0 := by omega
      have HX0 : Hid (EndX7 w g gr 4 (fun _ => false) (fun _ => undef) (w4.setCell ⟨g, 2, none⟩ (.int .i64 4))) := Lib.hid (endX7_set hBr4 hb04 q2 hgg hwg)
      clear hq hll
      rw [← HW4.out] at q0 q1 q2 f2
      go_wp2_with fail
      rw [HW4.out]
      clear hpn hpi q0 q1 q2 f2
      refine wp_famY (size := 44) (D := [38, 39, 40, 41, 42, 3]) [4, 5] [] [(38, isV (ev (fun _ => 0) none 0 0)), (39, isV (.pointer (some ⟨g, 0, none⟩))), (40, isV (.pointer (some ⟨g, 0, none⟩))), (41, isV (.pointer (some ⟨g, 2, none⟩))), (42, isV (.int .i64 4)), (3, isV (.int .i64 4))] (EndX7 w g gr 4) EndX7.up (by kernel_rfl) (by rfl) (by kernel_rfl) HX0.out ?_ ?_
      · simp only [famAllY]
        repeat' apply And.intro
        · rw [if_neg (by decide)]
          intro f W hl
          simp [Oper.looksAt, Op.operands, Call.operands, famAt, famOf, isV] at hl
          simp [famWants, execOp, rho, go_sem, hl, famUpon, famOf, isV, Grows.refl]
        · rw [if_neg (by decide)]
          intro f W hl
          simp [Oper.looksAt, Op.operands, Call.operands, famAt, famOf, isV] at hl
          simp [famWants, execOp, rho, go_sem, hl, famUpon, famOf, isV, Grows.refl]
        · rw [if_neg (by decide)]
          intro f W hl
          simp [Oper.looksAt, Op.operands, Call.operands, famAt, famOf, isV] at hl
          simp [famWants, execOp, rho, go_sem, hl, famUpon, famOf, isV, Grows.refl]
        · rw [if_neg (by decide)]
          intro f W hl
          simp [Oper.looksAt, Op.operands, Call.operands, famAt, famOf, isV] at hl
          simp [famWants, execOp, rho, go_sem, hl, famUpon, famOf, isV, Grows.refl]
        · rw [if_pos (by decide)]
          intro L f W hi hcl hwt hX hl
          simp [Oper.looksAt, Op.operands, Call.operands, famAt, famOf, isV] at hl
          have k2 := hX.1
          simp [famWants, execOp, rho, go_sem, hl, k2, famUpon, famOf, isV]
          exact hX
        · rw [if_pos (by decide)]
          intro L f W hi hcl hwt hX hl
          simp [Oper.looksAt, Op.operands, Call.operands, famAt, famOf, isV] at hl
          obtain ⟨W', hrun, h2, h3⟩ := run_sete W gr _ hX.2.1 rfl (fun _ => 0) none 0 0
          refine ⟨fun _ => ?_, fun hh => by simp [famWants] at hh⟩
          simp only [execOp, rho, hl, Sem.run_bind, Sem.run_pure, Result.andThen_ok, hrun, famUpon]
          exact ⟨(fun d hd => by cases hd), (World.cell?_of_block (w := W) (h3.block g (Go.Proofs.Ytlckappnpdkihaa.M.cellLt hX.1) (fun e => hgg (by injection e)))).trans hX.1, h2, hX.2.2.grown h3 hX.2.2.size (fun k hk => by injection hk with hk; omega)⟩
        · rw [if_neg (by decide)]
          intro f W hl
          simp [Oper.looksAt, Op.operands, Call.operands, famAt, famOf, isV] at hl
          simp [famWants, execOp, rho, go_sem, hl, famUpon, famOf, isV, Grows.refl]
        · trivial
      · intro L' u w7 hL hX hu
        have e3 : u 3 = .int .i64 4 := hu 3 (by decide)
        obtain ⟨k2, hRes, hb07⟩ := hX
        simp only [fill, Act.put, List.setIfInBounds_toArray, List.set_cons_zero, List.set_cons_succ, e3]
        refine wpList_nil ?_
        obtain ⟨y0, y1, y2, y3, y4, y5, y6, y7, y8, y9, y10, y11, y12, y13⟩ := set14 hRes
        clear hu hL HX0
        go_wp2
        refine bodyPost_ret (v := .tuple #[ev (fun _ => 0) none 0 0, .int .i64 4]) ?_ rfl ?_
        · simp [results, Try.results26, go_sem, y0, y1, y2, y3, y4, y5, y6, y7, y8, y9, y10, y11, y12, y13]
        obtain ⟨g1, g2⟩ := HG'.out (by rw [HY.out]; exact hyn)
        unfold GetPost7
        rw [g1, g2, HY.out]
        exact ⟨none, 0, rfl, DRow.nil _ _, hb07⟩
  · have hxb : (x == 0) = false := by simpa using hx
    have HY : Hid (E.gE L = x) := Lib.hid (by rw [HE.out]; simp [hx])
    have hyn := hx
    have hxn : (x != 0) = true := by simpa using hx
    have HX0 : Hid (EndX7 w g gr x (fun _ => false) (fun _ => undef) w4) := Lib.hid ⟨q2, hBr4, hb04⟩
    clear hq
    rw [← HW4.out] at q0 q1 q2 f2
    go_wp2_with fail
    rw [HW4.out]
    clear hx hxb hxn q0 q1 q2 f2
    refine wp_famY (size := 44) (D := [38, 39, 40, 41, 42, 3]) [4, 5] [] [(38, isV (ev (fun _ => 0) none 0 0)), (39, isV (.pointer (some ⟨g, 0, none⟩))), (40, isV (.pointer (some ⟨g, 0, none⟩))), (41, isV (.pointer (some ⟨g, 2, none⟩))), (42, isV (.int .i64 x)), (3, isV (.int .i64 x))] (EndX7 w g gr x) EndX7.up (by kernel_rfl) (by rfl) (by kernel_rfl) HX0.out ?_ ?_
    · simp only [famAllY]
      repeat' apply And.intro
      · rw [if_neg (by decide)]
        intro f W hl
        simp [Oper.looksAt, Op.operands, Call.operands, famAt, famOf, isV] at hl
        simp [famWants, execOp, rho, go_sem, hl, famUpon, famOf, isV, Grows.refl]
      · rw [if_neg (by decide)]
        intro f W hl
        simp [Oper.looksAt, Op.operands, Call.operands, famAt, famOf, isV] at hl
        simp [famWants, execOp, rho, go_sem, hl, famUpon, famOf, isV, Grows.refl]
      · rw [if_neg (by decide)]
        intro f W hl
        simp [Oper.looksAt, Op.operands, Call.operands, famAt, famOf, isV] at hl
        simp [famWants, execOp, rho, go_sem, hl, famUpon, famOf, isV, Grows.refl]
      · rw [if_neg (by decide)]
        intro f W hl
        simp [Oper.looksAt, Op.operands, Call.operands, famAt, famOf, isV] at hl
        simp [famWants, execOp, rho, go_sem, hl, famUpon, famOf, isV, Grows.refl]
      · rw [if_pos (by decide)]
        intro L f W hi hcl hwt hX hl
        simp [Oper.looksAt, Op.operands, Call.operands, famAt, famOf, isV] at hl
        have k2 := hX.1
        simp [famWants, execOp, rho, go_sem, hl, k2, famUpon, famOf, isV]
        exact hX
      · rw [if_pos (by decide)]
        intro L f W hi hcl hwt hX hl
        simp [Oper.looksAt, Op.operands, Call.operands, famAt, famOf, isV] at hl
        obtain ⟨W', hrun, h2, h3⟩ := run_sete W gr _ hX.2.1 rfl (fun _ => 0) none 0 0
        refine ⟨fun _ => ?_, fun hh => by simp [famWants] at hh⟩
        simp only [execOp, rho, hl, Sem.run_bind, Sem.run_pure, Result.andThen_ok, hrun, famUpon]
        exact ⟨(fun d hd => by cases hd), (World.cell?_of_block (w := W) (h3.block g (Go.Proofs.Ytlckappnpdkihaa.M.cellLt hX.1) (fun e => hgg (by injection e)))).trans hX.1, h2, hX.2.2.grown h3 hX.2.2.size (fun k hk => by injection hk with hk; omega)⟩
      · rw [if_neg (by decide)]
        intro f W hl
        simp [Oper.looksAt, Op.operands, Call.operands, famAt, famOf, isV] at hl
        simp [famWants, execOp, rho, go_sem, hl, famUpon, famOf, isV, Grows.refl]
      · trivial
    · intro L' u w7 hL hX hu
      have e3 : u 3 = .int .i64 x := hu 3 (by decide)
      obtain ⟨k2, hRes, hb07⟩ := hX
      simp only [fill, Act.put, List.setIfInBounds_toArray, List.set_cons_zero, List.set_cons_succ, e3]
      refine wpList_nil ?_
      obtain ⟨y0, y1, y2, y3, y4, y5, y6, y7, y8, y9, y10, y11, y12, y13⟩ := set14 hRes
      clear hu hL HX0
      go_wp2
      refine bodyPost_ret (v := .tuple #[ev (fun _ => 0) none 0 0, .int .i64 x]) ?_ rfl ?_
      · simp [results, Try.results26, go_sem, y0, y1, y2, y3, y4, y5, y6, y7, y8, y9, y10, y11, y12, y13]
      obtain ⟨g1, g2⟩ := HG'.out (by rw [HY.out]; exact hyn)
      unfold GetPost7
      rw [g1, g2, HY.out]
      exact ⟨none, 0, rfl, DRow.nil _ _, hb07⟩
end Go.Proofs.Ytlckappnpdkihaa
