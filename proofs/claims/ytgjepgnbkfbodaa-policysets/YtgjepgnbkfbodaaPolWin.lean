/- Layer 9, the program's: the policy that counts. -/
import Derived.Test.YtgjepgnbkfbodaaPolMin
import Derived.Test.YtgjepgnbkfbodaaEvPol
namespace Go.Proofs.Ytgjepgnbkfbodaa
set_option linter.unusedVariables false
set_option linter.unusedSimpArgs false
open Go.ChangeShapes Go.WideShapes Go.ChangeAt Go.RowKit

/-- A whole struct is stored into a block that is known whole. -/
theorem run_setb (w : World) (r : Nat) (t : TypeId) (cs vs : Array Value) (hB : Blo w r t cs) (hsz : (Try.prog.info? t).map (·.size) = some vs.size) (hcs : cs.size = vs.size) (h1 : ∀ v ∈ vs.toList, v.oneCell' = true) :
    ∃ W, (Instr.storeAt t (.pointer (some ⟨r, 0, none⟩)) (.agg vs)).run Try.prog w = .ok () W ∧ Blo W r t vs ∧ w.grownBy W (some r) := by
  obtain ⟨i0, hi, hz1⟩ : ∃ i, Try.prog.info? t = some i ∧ i.size = vs.size := by
    cases h : Try.prog.info? t with
    | none => rw [h] at hsz; cases hsz
    | some i => rw [h] at hsz; exact ⟨i, rfl, by simpa using hsz⟩
  have h2 := run_storeCells_at (P := Try.prog) r 0 t vs.toList 0 cs w hB (by simp; omega) h1
  have hd : cs.toList.drop vs.toList.length = [] := List.drop_eq_nil_of_le (by simp; omega)
  have e : (cs.toList.take (0 + 0) ++ vs.toList ++ cs.toList.drop (0 + 0 + vs.toList.length)).toArray = vs := by
    rw [Nat.zero_add, Nat.zero_add, hd]; simp
  rw [e] at h2
  refine ⟨_, ?_, setRow_heap w r cs _ t _ hB, ⟨rfl, rfl, rfl, by simp, fun k _ hk => setRow_other w r k _ (fun e => hk (by rw [e]))⟩⟩
  rw [← h2]
  simp [Instr.storeAt, Instr.sureAddr, storeVar, sizeOf, typeInfo, hi, hz1, Value.cells]
theorem wpList_setb (w : World) {ops : Array Oper} {rest : List Oper} {o : Oper} {a : Act} {Q : Exit → Act → World → Prop} (hgd : o.guard = none) (t : TypeId) (x y : Operand) (ho : o.op = .store t x y)
    (r : Nat) (cs vs : Array Value) (hx : a.eval x = .pointer (some ⟨r, 0, none⟩)) (hy : a.eval y = .agg vs) (hB : Blo w r t cs) (hsz : (Try.prog.info? t).map (·.size) = some vs.size) (hcs : cs.size = vs.size) (h1 : ∀ v ∈ vs.toList, v.oneCell' = true)
    (h : ∀ W, Blo W r t vs → w.grownBy W (some r) → wpList Try.prog ops Q rest (a.put o.dst undef) W) : wpList Try.prog ops Q (o :: rest) a w := by
  refine wpList_plain hgd fun K hK => ?_
  obtain ⟨W, hrun, h2, h3⟩ := run_setb w r t cs vs hB hsz hcs h1
  unfold Oper.wp execOp
  simp only [ho, hx, hy, Sem.run_bind, Sem.run_pure, Result.andThen_ok, hrun]
  exact hK _ _ (h W h2 h3)

abbrev pcs (F : Nat → Int) : Array Value := #[.int .i64 (F 6), .int .i64 (F 7), .int .i64 (F 8), .int .i64 (F 9), .int .i64 (F 10), .int .i64 (F 11), .int .i64 (F 12)]
abbrev dcs (F : Nat → Int) : Array Value := #[.int .i64 (F 0), .int .i64 (F 1)]
abbrev zF : Nat → Int := fun _ => 0
theorem Try.sizePol : (Try.prog.info? 31).map (·.size) = some 7 := by kernel_rfl
theorem Try.sizeDot9 : (Try.prog.info? 29).map (·.size) = some 2 := by kernel_rfl
theorem pcs_one (F : Nat → Int) : ∀ v ∈ (pcs F).toList, v.oneCell' = true := by
  intro v hv
  simp at hv
  rcases hv with rfl | rfl | rfl | rfl | rfl | rfl | rfl <;> rfl
theorem dcs_one (F : Nat → Int) : ∀ v ∈ (dcs F).toList, v.oneCell' = true := by
  intro v hv
  simp at hv
  rcases hv with rfl | rfl <;> rfl
/-- The policy and the dot of an event are laid into two blocks, in any order. -/
structure WSrc (Src : World → Prop) (ga gd : Nat) : Prop where
  new : ∀ W W', Src W → Grows W W' → Src W'
  far : ∀ W W' g, g = ga ∨ g = gd → Src W → W.grownBy W' (some g) → Src W'
def WX (Src : World → Prop) (w : World) (B ga gd : Nat) (F : Nat → Int) (c d : Nat) : Say := fun L f W =>
  Src W ∧ Below B w W ∧ Blo W ga 31 (pcs (if L c = true then F else zF)) ∧ Blo W gd 29 (dcs (if L d = true then F else zF))
section
variable {Src : World → Prop} {w : World} {B ga gd : Nat} {F : Nat → Int} {c d : Nat} {L : Nat → Bool} {f : Nat → Value} {W W' : World}
theorem WX.up {sp spd : List Nat} (hs : WSrc Src ga gd) (hB : B ≤ w.heap.size) (hc : c ∈ sp) (hd : d ∈ sp) : ∀ (L L' : Nat → Bool) (f f' : Nat → Value) (W W' : World), (∀ j ∈ sp, L' j = L j) → (∀ s ∈ spd, f' s = f s) → Grows W W' → WX Src w B ga gd F c d L f W → WX Src w B ga gd F c d L' f' W' := by
  intro L L' f f' W W' hL hf hg ⟨h1, h2, h3, h4⟩
  unfold WX
  rw [hL c hc, hL d hd]
  exact ⟨hs.new _ _ h1 hg, h2.trans (hg.mono (by have := h2.size; omega)), h3.new hg, h4.new hg⟩
theorem WX.pass {k : Nat} {dst : Option Nat} {v : Value} (hk : k ≠ c ∧ k ≠ d) (h : WX Src w B ga gd F c d L f W) : WX Src w B ga gd F c d (lst1 L k) (updT f dst v) W := by
  unfold WX at *
  have e : ∀ q, q ≠ k → lst1 L k q = L q := fun q hq => by unfold lst1; rw [if_neg hq]
  rw [e c (Ne.symm hk.1), e d (Ne.symm hk.2)]
  exact h
theorem WX.pol {dst : Option Nat} {v : Value} (hs : WSrc Src ga gd) (hcd : c ≠ d) (hab : ga ≠ gd) (hB : B ≤ ga) (hBs : B ≤ w.heap.size) (h : WX Src w B ga gd F c d L f W) (hr : Blo W' ga 31 (pcs F)) (hg : W.grownBy W' (some ga)) : WX Src w B ga gd F c d (lst1 L c) (updT f dst v) W' := by
  obtain ⟨h1, h2, h3, h4⟩ := h
  have e1 : lst1 L c c = true := by simp [lst1]
  have e2 : lst1 L c d = L d := by simp [lst1, Ne.symm hcd]
  unfold WX
  rw [e1, e2]
  exact ⟨hs.far _ _ _ (.inl rfl) h1 hg, h2.grown hg (by have := h2.size; omega) (fun k hk => by injection hk with hk; omega), hr, h4.grown hg (fun e => by injection e with e; omega)⟩
theorem WX.dot {dst : Option Nat} {v : Value} (hs : WSrc Src ga gd) (hcd : c ≠ d) (hab : ga ≠ gd) (hB : B ≤ gd) (hBs : B ≤ w.heap.size) (h : WX Src w B ga gd F c d L f W) (hr : Blo W' gd 29 (dcs F)) (hg : W.grownBy W' (some gd)) : WX Src w B ga gd F c d (lst1 L d) (updT f dst v) W' := by
  obtain ⟨h1, h2, h3, h4⟩ := h
  have e1 : lst1 L d d = true := by simp [lst1]
  have e2 : lst1 L d c = L c := by simp [lst1, hcd]
  unfold WX
  rw [e1, e2]
  exact ⟨hs.far _ _ _ (.inr rfl) h1 hg, h2.grown hg (by have := h2.size; omega) (fun k hk => by injection hk with hk; omega), h3.grown hg (fun e => by injection e with e; omega), hr⟩
theorem WX.fin (h : WX Src w B ga gd F c d L f W) (hc : L c = true) (hd : L d = true) : Below B w W ∧ Blo W ga 31 (pcs F) ∧ Blo W gd 29 (dcs F) := by
  obtain ⟨h1, h2, h3, h4⟩ := h
  rw [hc] at h3
  rw [hd] at h4
  exact ⟨h2, by simpa using h3, by simpa using h4⟩
end

/-- The one that counts. -/
def winOf (l : List EvV) : Option EvV := (P.isort ltE l).head?
def winV : Option EvV → Value
  | none => .tuple #[pv zF, .agg (dcs zF), .bool false]
  | some x => .tuple #[pv x.F, .agg (dcs x.F), .bool true]
theorem winOf_cons (x : EvV) (r : List EvV) : winOf (x :: r) = some (P.least ltE x r) := P.least_head ordE x r

set_option maxRecDepth 100000 in
set_option maxHeartbeats 8000000 in
theorem pwinner_any (S : Nat → Prop) (A : Option Addr) (n c : Nat) (l : List EvV) (k : Int) (w : World) (hn : l.length = n) (hr : ERds w S A l) (hl : n ≤ 900000) :
    Calls Try.prog 14 #[.slice A n c, .int .i64 k] w fun e w' => e = .returned (winV (winOf (sets k l))) ∧ Below w.heap.size w w' := by
  obtain ⟨w1, hw1⟩ : ∃ W, (w.alloc (.cells (pcs zF) 31)).alloc (.cells (dcs zF) 29) = W := ⟨_, rfl⟩
  have hb1 : Below w.heap.size w w1 := by rw [← hw1]; exact b_alloc2 _ _ _
  have hA1 : Blo w1 w.heap.size 31 (pcs zF) := by rw [← hw1]; exact (Blo.made _ _ _).alloc _
  have hD1 : Blo w1 (w.heap.size + 1) 29 (dcs zF) := by
    rw [← hw1]
    have := Blo.made (w.alloc (.cells (pcs zF) 31)) 29 (dcs zF)
    simpa using this
  have HR := Lib.hid (rivals_any S A n c l k w1 hn (hr.new hb1) hl)
  have HSL := Lib.hid (sets_le l k)
  have HW1 := Lib.hid hw1
  have HN := Lib.hid hn
  clear hw1 hn hr
  go_enter Try.func14, Try.ntmps14
  go_wp2_with fail
  rw [HW1.out]
  refine HR.out.mono ?_
  rintro e w2 ⟨A2, N2, c2, rfl, HN2, hR2, hb2⟩
  have hA2 := hA1.new hb2
  have hD2 := hD1.new hb2
  have hb02 := below_new hb1 hb2
  have hs1 := hb1.size
  clear hA1 hD1 hb2 HR
  cases hm : sets k l with
  | nil =>
    have HZ : Hid (winV (winOf (sets k l)) = .tuple #[pv zF, .agg (dcs zF), .bool false]) := Lib.hid (by rw [hm]; rfl)
    have hN0 : N2 = 0 := by rw [HN2, hm]; rfl
    subst hN0
    clear hm HN2 hR2
    go_wp2_with (refine wpList_setb _ rfl 31 _ _ rfl w.heap.size (pcs zF) (pcs zF) rfl rfl hA2 (by rw [Try.sizePol]; rfl) rfl (pcs_one _) ?_)
    intro w3 hA3 hg3
    have hD3 := hD2.grown hg3 (fun e => by injection e with e; omega)
    refine wpList_setb _ rfl 29 _ _ rfl (w.heap.size + 1) (dcs zF) (dcs zF) rfl rfl hD3 (by rw [Try.sizeDot9]; rfl) rfl (dcs_one _) ?_
    intro w4 hD4 hg4
    have hA4 := hA3.grown hg4 (fun e => by injection e with e; omega)
    have hb3 : Below w.heap.size w w3 := hb02.grown hg3 hb02.size (fun k hk => by injection hk with hk; omega)
    have hb4 : Below w.heap.size w w4 := hb3.grown hg4 hb3.size (fun k hk => by injection hk with hk; omega)
    clear hA2 hD2 hb02 hg3 hg4 hA3 hD3 hb3
    have p0 := hA4.cell 0; have p1 := hA4.cell 1; have p2 := hA4.cell 2; have p3 := hA4.cell 3; have p4 := hA4.cell 4; have p5 := hA4.cell 5; have p6 := hA4.cell 6
    have d0 := hD4.cell 0; have d1 := hD4.cell 1
    simp at p0 p1 p2 p3 p4 p5 p6 d0 d1
    go_wp2
    refine bodyPost_ret (v := .tuple #[pv zF, .agg (dcs zF), .bool false]) ?_ rfl ?_
    · simp [results, Try.results14, go_sem, p0, p1, p2, p3, p4, p5, p6, d0, d1]
    · rw [HZ.out]
      exact ⟨rfl, hb4⟩
  | cons x r =>
    have HZ : Hid (winOf (sets k l) = some (P.least ltE x r)) := Lib.hid (by rw [hm]; exact winOf_cons x r)
    have hlen : (x :: r).length = N2 := by rw [HN2, hm]
    have hN0 : N2 ≠ 0 := by rw [← hlen]; simp
    have hN0' : ((N2 : Int) == 0) = false := by simp; omega
    have hN0'' : ¬ (N2 : Int) = 0 := by omega
    have hN9 : N2 ≤ 900000 := by have := HSL.out; have := HN.out; rw [HN2]; omega
    rw [hm] at hR2
    obtain ⟨g, rfl, hgb, hS2⟩ := RRow.srow hR2 hN0
    have HLEN := Lib.hid hlen
    have hby := by_any w2
    clear hm HN2 hR2 hlen
    go_wp2_with fail
    refine hby.mono ?_
    rintro e w3 ⟨rfl, hC3, hb3⟩
    have hmf := minfunc_any g N2 c2 w2.heap.size x r w3 HLEN.out (hS2.new hb3) hC3 hN9
    have hA3 := hA2.new hb3
    have hD3 := hD2.new hb3
    have hb03 := below_new hb02 hb3
    clear hby hS2 hA2 hD2 hb02 hb3 hC3
    go_wp2_with fail
    refine hmf.mono ?_
    rintro e w4 ⟨rfl, hb4⟩
    have hA4 := hA3.new hb4
    have hD4 := hD3.new hb4
    have hb04 := below_new hb03 hb4
    clear hmf hA3 hD3 hb03 hb4
    obtain ⟨y, hy⟩ : ∃ y, y = P.least ltE x r := ⟨_, rfl⟩
    have HZ2 : Hid (winV (winOf (sets k l)) = .tuple #[pv y.F, .agg (dcs y.F), .bool true]) := Lib.hid (by rw [HZ.out, ← hy]; rfl)
    rw [← hy]
    clear hy HZ
    obtain ⟨F, M, Ax, cx⟩ := y
    obtain ⟨q, hq⟩ : ∃ q, q = M.length := ⟨_, rfl⟩
    simp only [EvV.val] at HZ2 ⊢
    rw [← hq]
    clear hq
    obtain ⟨w5, hw5⟩ : ∃ W, w4.alloc (.cells (ecs F Ax q cx) 54) = W := ⟨_, rfl⟩
    have hb5 : Below w4.heap.size w4 w5 := by rw [← hw5]; exact b_alloc _ _
    obtain ⟨gm, hgm⟩ : ∃ q, q = w4.heap.size := ⟨_, rfl⟩
    have hM5 : Blo w5 gm 54 (ecs F Ax q cx) := by rw [← hw5, hgm]; exact Blo.made _ _ _
    have hA5 := hA4.new hb5
    have hD5 := hD4.new hb5
    have hb05 := below_new hb04 hb5
    have hgt : w.heap.size + 1 < gm := by have := hD4.lt; omega
    have HB5 : Hid (w.heap.size ≤ w5.heap.size) := Lib.hid hb05.size
    obtain ⟨Src, hSrc⟩ : ∃ Src : World → Prop, Src = fun W => Blo W gm 54 (ecs F Ax q cx) := ⟨_, rfl⟩
    have HSrc : Hid (WSrc Src w.heap.size (w.heap.size + 1)) := Lib.hid (by
      rw [hSrc]
      exact ⟨fun W W' h hg => Blo.new h hg, fun W W' g hg h hgb => Blo.grown h hgb (fun e => by injection e with e; rcases hg with hg | hg <;> omega)⟩)
    have HSr : Hid (∀ W, Src W → Blo W gm 54 (ecs F Ax q cx)) := Lib.hid (fun W h => by rw [hSrc] at h; exact h)
    have HX0 : Hid (∀ f, WX Src w5 w.heap.size w.heap.size (w.heap.size + 1) F 4 5 (fun _ => false) f w5) := Lib.hid (fun f => ⟨by rw [hSrc]; exact hM5, Below.refl _ _, by simpa using hA5, by simpa using hD5⟩)
    have HWW := Lib.hid hw5
    have HGM := Lib.hid hgm
    clear hSrc hA4 hD4 hA5 hD5 hM5 hb5 hb04 hw5 hgm
    go_wp2_with fail
    rw [HWW.out, ← HGM.out]
    refine wp_famY (size := 24) (D := [20, 21, 22, 23, 6]) [1, 3, 4, 5] [] [(20, isV (.pointer (some ⟨gm, 6, none⟩))), (21, isV (.agg (pcs F))), (22, isV (.pointer (some ⟨gm, 0, none⟩))), (23, isV (.agg (dcs F))), (6, isV (.bool true))] (WX Src w5 w.heap.size w.heap.size (w.heap.size + 1) F 4 5) (WX.up HSrc.out HB5.out (by decide) (by decide)) (by kernel_rfl) (by rfl) (by kernel_rfl) (HX0.out _) ?_ ?_
    · simp only [famAllY]
      repeat' apply And.intro
      · rw [if_neg (by decide)]
        intro f W hl
        simp [Oper.looksAt, Op.operands, Call.operands, famAt, famOf, isV] at hl
        simp [famWants, boolIs_bool, boolIs_undef, execOp, rho, go_sem, hl, famUpon, famOf, isV, Grows.refl]
      · rw [if_pos (by decide)]
        intro L f W hi hcl hwt hX hl
        simp [Oper.looksAt, Op.operands, Call.operands, famAt, famOf, isV] at hl
        obtain ⟨c0, c1, c2, c3, c4, c5, c6, c7, c8, c9, c10, c11, c12, c13⟩ := set14 (HSr.out W hX.1)
        have hps := hX.pass (k := 1) (dst := some 21) (v := .agg (pcs F)) (by decide)
        simp [famWants, boolIs_bool, boolIs_undef, execOp, rho, go_sem, hl, c0, c1, c2, c3, c4, c5, c6, c7, c8, c9, c10, c11, c12, c13, famUpon, famOf, isV]
        exact hps
      · rw [if_neg (by decide)]
        intro f W hl
        simp [Oper.looksAt, Op.operands, Call.operands, famAt, famOf, isV] at hl
        simp [famWants, boolIs_bool, boolIs_undef, execOp, rho, go_sem, hl, famUpon, famOf, isV, Grows.refl]
      · rw [if_pos (by decide)]
        intro L f W hi hcl hwt hX hl
        simp [Oper.looksAt, Op.operands, Call.operands, famAt, famOf, isV] at hl
        obtain ⟨c0, c1, c2, c3, c4, c5, c6, c7, c8, c9, c10, c11, c12, c13⟩ := set14 (HSr.out W hX.1)
        have hps := hX.pass (k := 3) (dst := some 23) (v := .agg (dcs F)) (by decide)
        simp [famWants, boolIs_bool, boolIs_undef, execOp, rho, go_sem, hl, c0, c1, c2, c3, c4, c5, c6, c7, c8, c9, c10, c11, c12, c13, famUpon, famOf, isV]
        exact hps
      · rw [if_pos (by decide)]
        intro L f W hi hcl hwt hX hl
        simp [Oper.looksAt, Op.operands, Call.operands, famAt, famOf, isV] at hl
        obtain ⟨W2, hrun, hr, hg⟩ := run_setb W w.heap.size 31 _ (pcs F) hX.2.2.1 (by rw [Try.sizePol]; rfl) rfl (pcs_one F)
        refine ⟨fun _ => ?_, fun e => ?_⟩
        · unfold execOp
          simp only [rho, hl]
          simp only [Sem.run_bind, Sem.run_pure, hrun, Result.andThen_ok, famUpon]
          exact ⟨fun d e => (by cases e), hX.pol HSrc.out (by decide) (by omega) (Nat.le_refl _) HB5.out hr hg⟩
        · simp [famWants] at e
      · rw [if_pos (by decide)]
        intro L f W hi hcl hwt hX hl
        simp [Oper.looksAt, Op.operands, Call.operands, famAt, famOf, isV] at hl
        obtain ⟨W2, hrun, hr, hg⟩ := run_setb W (w.heap.size + 1) 29 _ (dcs F) hX.2.2.2 (by rw [Try.sizeDot9]; rfl) rfl (dcs_one F)
        refine ⟨fun _ => ?_, fun e => ?_⟩
        · unfold execOp
          simp only [rho, hl]
          simp only [Sem.run_bind, Sem.run_pure, hrun, Result.andThen_ok, famUpon]
          exact ⟨fun d e => (by cases e), hX.dot HSrc.out (by decide) (by omega) (by omega) HB5.out hr hg⟩
        · simp [famWants] at e
      · rw [if_neg (by decide)]
        intro f W hl
        simp [Oper.looksAt, Op.operands, Call.operands, famAt, famOf, isV] at hl
        simp [famWants, boolIs_bool, boolIs_undef, execOp, rho, go_sem, hl, famUpon, famOf, isV, Grows.refl]
      · trivial
    · intro L u W hL hX hu
      obtain ⟨hbW, hAW, hDW⟩ := hX.fin (hL 4 (by decide)) (hL 5 (by decide))
      have e6 : u 6 = .bool true := hu 6 (by decide)
      simp only [fill, Act.put, List.setIfInBounds_toArray, List.set_cons_zero, List.set_cons_succ, e6]
      refine wpList_nil ?_
      have p0 := hAW.cell 0; have p1 := hAW.cell 1; have p2 := hAW.cell 2; have p3 := hAW.cell 3; have p4 := hAW.cell 4; have p5 := hAW.cell 5; have p6 := hAW.cell 6
      have d0 := hDW.cell 0; have d1 := hDW.cell 1
      simp at p0 p1 p2 p3 p4 p5 p6 d0 d1
      clear hL hX hu HX0
      go_wp2
      refine bodyPost_ret (v := .tuple #[pv F, .agg (dcs F), .bool true]) ?_ rfl ?_
      · simp [results, Try.results14, go_sem, p0, p1, p2, p3, p4, p5, p6, d0, d1]
      · rw [HZ2.out]
        exact ⟨rfl, hb05.trans hbW⟩
end Go.Proofs.Ytgjepgnbkfbodaa
