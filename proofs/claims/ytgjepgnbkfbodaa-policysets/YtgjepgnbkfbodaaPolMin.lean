/- Layer 9, the library: the least of rivals. -/
import Derived.Test.YtgjepgnbkfbodaaPolS2
import Derived.Test.YtgjepgnbkfbodaaPolP2
namespace Go.Proofs.Ytgjepgnbkfbodaa
set_option linter.unusedVariables false
set_option linter.unusedSimpArgs false
open Go.ChangeShapes Go.WideShapes Go.ChangeAt Go.RowKit

theorem wpList_setr (w : World) {ops : Array Oper} {rest : List Oper} {o : Oper} {a : Act} {Q : Exit → Act → World → Prop} (hgd : o.guard = none) (x y : Operand) (ho : o.op = .store 54 x y)
    (g : Nat) (l : List EvV) (i : Nat) (hi : i < l.length) (e : EvV) (hx : a.eval x = .pointer (some ⟨g, i * 14, none⟩)) (hy : a.eval y = e.val) (hS : SRow w g l)
    (h : ∀ W, SRow W g (l.set i e) → w.grownBy W (some g) → wpList Try.prog ops Q rest (a.put o.dst undef) W) : wpList Try.prog ops Q (o :: rest) a w := by
  refine wpList_plain hgd fun K hK => ?_
  obtain ⟨W, hrun, h2, h3⟩ := run_setr w g l hS i hi e
  unfold Oper.wp execOp
  simp only [ho, hx, hy, Sem.run_bind, Sem.run_pure, Result.andThen_ok, hrun]
  exact hK _ _ (h W h2 h3)
theorem SRow.one {w : World} {g : Nat} (e : EvV) (h : Blo w g 54 e.cells) : SRow w g [e] := ⟨[], by unfold Blo at h; rw [h]; simp [evs]⟩
theorem least_take {l : List EvV} {m : EvV} {i : Nat} (h : i < l.length) : P.least ltE m (l.take (i + 1)) = (if ltE l[i] (P.least ltE m (l.take i)) = true then l[i] else P.least ltE m (l.take i)) := by
  rw [List.take_succ_eq_append_getElem h]
  generalize l.take i = r
  generalize l[i] = x
  induction r generalizing m with
  | nil => rfl
  | cons y r ih => simp only [List.cons_append, P.least]; exact ih
def zEv : EvV := ⟨fun _ => 0, [], none, 0⟩
set_option maxRecDepth 100000 in
set_option maxHeartbeats 8000000 in
theorem minfunc_any (g N c p : Nat) (x0 : EvV) (r : List EvV) (w : World) (hN : (x0 :: r).length = N) (hs : SRow w g (x0 :: r)) (hp : CmpAt w p) (hl : N ≤ 900000) :
    Calls Try.prog 30 #[.slice (some ⟨g, 0, none⟩) N c, cmpV p] w fun e w' => e = .returned (P.least ltE x0 r).val ∧ Below w.heap.size w w' := by
  have HN := Lib.hid hN
  have hN1 : 1 ≤ N := by simp at hN; omega
  have hN1' : ¬ (N : Int) < 1 := by omega
  obtain ⟨q, hq⟩ : ∃ q, x0.M.length = q := ⟨_, rfl⟩
  obtain ⟨w1, hw1⟩ : ∃ W, w.alloc (.cells (ecs (fun _ => 0) none 0 0) 54) = W := ⟨_, rfl⟩
  have hb1 : Below w.heap.size w w1 := by rw [← hw1]; exact b_alloc _ _
  obtain ⟨c0, c1, c2, c3, c4, c5, c6, c7, c8, c9, c10, c11, c12, c13⟩ := RvAt.all (F := x0.F) (M := x0.M) (A := x0.A) (c := x0.c) ((hs.new hb1).at (i := 0) (by simp)) hq
  have HQ := Lib.hid hq
  have HW1 := Lib.hid hw1
  rw [← hw1] at c0 c1 c2 c3 c4 c5 c6 c7 c8 c9 c10 c11 c12 c13
  simp only [Nat.zero_mul, Nat.zero_add] at c0 c1 c2 c3 c4 c5 c6 c7 c8 c9 c10 c11 c12 c13
  clear hN hq hw1
  go_enter Try.func30, Try.ntmps30
  go_wp2_with fail
  clear c0 c1 c2 c3 c4 c5 c6 c7 c8 c9 c10 c11 c12 c13
  obtain ⟨w2, hw2⟩ : ∃ W, w1.alloc (.cells (ecs x0.F x0.A q x0.c) 54) = W := ⟨_, rfl⟩
  have hb2 : Below w1.heap.size w1 w2 := by rw [← hw2]; exact b_alloc _ _
  have hz1 : w1.heap.size = w.heap.size + 1 := by rw [← HW1.out]; simp
  have hA : SRow w2 w.heap.size [zEv] := by
    refine SRow.new (SRow.one zEv ?_) hb2
    rw [← HW1.out]
    exact Blo.made _ _ _
  have hM : SRow w2 (w.heap.size + 1) [x0] := by
    refine SRow.one _ ?_
    rw [← hw2, ← hz1]
    unfold EvV.cells
    simp only [HQ.out]
    exact Blo.made _ _ _
  have hS2 := (hs.new hb1).new hb2
  have hP2 := (hp.new hb1).new hb2
  have hb02 : Below w.heap.size w w2 := below_new hb1 hb2
  have hw2' : (w.alloc (.cells (ecs (fun _ => 0) none 0 0) 54)).alloc (.cells (ecs x0.F x0.A q x0.c) 54) = w2 := by rw [HW1.out]; exact hw2
  rw [hw2']
  have HS0 : Hid (SRow w g (x0 :: r)) := Lib.hid hs
  have hpl := Blo.lt hp
  have HNN : Hid ((x0 :: r).length = N) := HN
  clear hs hp hb1 hb2 hw2 hw2' hz1 HN
  obtain ⟨ga, hga⟩ : ∃ q, q = w.heap.size := ⟨_, rfl⟩
  rw [← hga] at hA hM ⊢
  have HG : Hid (g < ga) := Lib.hid (by rw [hga]; exact HS0.out.lt)
  have HGA := Lib.hid hga
  have HPL : Hid (p < ga) := Lib.hid (by rw [hga]; exact hpl)
  clear hga hpl
  obtain ⟨gm, hgm⟩ : ∃ q, q = ga + 1 := ⟨_, rfl⟩
  rw [← hgm] at hM ⊢
  have HGM := Lib.hid hgm
  clear hgm
  go_loopw [6] (fun iv wr => ∃ (i : Nat) (x : EvV), iv = .int .i64 ((i + 1 : Nat) : Int) ∧ i + 1 ≤ N ∧ Hid (x = P.least ltE x0 (r.take i)) ∧ SRow wr g (x0 :: r) ∧ CmpAt wr p ∧ SRow wr ga [zEv] ∧ SRow wr gm [x] ∧ Below w.heap.size w wr) (fun iv _ => N - (intOf iv).toNat)
  case atStart => exact ⟨0, x0, rfl, by omega, Lib.hid (by simp [P.least]), hS2, hP2, hA, hM, hb02⟩
  case round =>
    clear hS2 hP2 hA hM hb02
    obtain ⟨i, y, rfl, hi, HM, hS, hP, hA, hM, hb⟩ := hrel
    by_cases hlt : i + 1 < N
    · have hlt' : ((i + 1 : Nat) : Int) < (N : Int) := by omega
      have hlt2 : (i : Int) + 1 < (N : Int) := by omega
      have HR : Hid (i < r.length) := Lib.hid (by have := HNN.out; simp at this; omega)
      obtain ⟨x, hx⟩ : ∃ x, x = r[i]'(HR.out) := ⟨_, rfl⟩
      obtain ⟨b, hbb⟩ : ∃ b, b = ltE x y := ⟨_, rfl⟩
      have HT : Hid (P.least ltE x0 (r.take (i + 1)) = if b = true then x else y) := Lib.hid (by rw [least_take HR.out, ← HM.out, ← hx, ← hbb])
      have hxe : ∀ W, SRow W g (x0 :: r) → RvAt W ⟨g, (i + 1) * 14, none⟩ x := fun W h => by
        have := h.at (i := i + 1) (by have := HR.out; simp; omega)
        rw [hx]; simpa using this
      have HLx : Hid (∀ W, Grows wr W → RvAt W ⟨g, (i + 1) * 14, none⟩ x) := Lib.hid (fun W h => hxe W (hS.new h))
      have HLz : Hid (∀ W, SRow W g (x0 :: r) → RvAt W ⟨g, (i + 1) * 14, none⟩ x) := Lib.hid hxe
      have HLy : Hid (∀ W, Grows wr W → RvAt W ⟨gm, 0, none⟩ y) := Lib.hid (fun W h => by
        have := (hM.new h).at (i := 0) (by simp)
        simpa using this)
      have HCC : Hid (∀ W, Grows wr W → Calls Try.prog 41 #[x.val, y.val, .pointer (some ⟨p, 0, none⟩)] W fun e w' => e = .returned (.int .i64 (cmpE x.F y.F)) ∧ Below W.heap.size W w') := Lib.hid (fun W h => by1_any _ _ _ _ _ _ _ _ _ W (hP.new h))
      have hcb : decide (cmpE x.F y.F < 0) = b := by rw [hbb]; exact cmpE_neg _ _
      have hpi : 0 ≤ (i : Int) + 1 ∧ (i : Int) + 1 < (N : Int) := by omega
      have hti : ((i : Int) + 1).toNat = i + 1 := by omega
      clear hx hbb hxe
      go_wp2_with fail
      refine wp_fam (n := 8) (size := 33) (D := [20, 21, 22, 23, 24, 25, 26, 27]) [(20, isV (cmpV p)), (21, isV (.slice (some ⟨g, 0, none⟩) N c)), (22, isV (.int .i64 ((i + 1 : Nat) : Int))), (23, isV (.pointer (some ⟨g, (i + 1) * 14, none⟩))), (24, isV x.val), (25, isV y.val), (26, isV (.int .i64 (cmpE x.F y.F))), (27, isV (.bool b))] (by kernel_rfl) (by rfl) (by kernel_rfl) ?_ ?_
      · simp only [List.take_succ_cons, List.take_zero, famAll]
        repeat' apply And.intro
        · intro f V hg hl
          simp [Oper.looksAt, Op.operands, Call.operands, famAt, famOf, isV] at hl
          simp [famWants, boolIs_bool, boolIs_undef, execOp, rho, go_sem, hl, famUpon, famOf, isV, Grows.refl]
        · intro f V hg hl
          simp [Oper.looksAt, Op.operands, Call.operands, famAt, famOf, isV] at hl
          simp [famWants, boolIs_bool, boolIs_undef, execOp, rho, go_sem, hl, famUpon, famOf, isV, Grows.refl]
        · intro f V hg hl
          simp [Oper.looksAt, Op.operands, Call.operands, famAt, famOf, isV] at hl
          simp [famWants, boolIs_bool, boolIs_undef, execOp, rho, go_sem, hl, famUpon, famOf, isV, Grows.refl]
        · intro f V hg hl
          simp [Oper.looksAt, Op.operands, Call.operands, famAt, famOf, isV] at hl
          simp [famWants, boolIs_bool, boolIs_undef, execOp, rho, go_sem, hl, M.addMk, hpi, hti, famUpon, famOf, isV, Grows.refl]
        · intro f V hg hl
          simp [Oper.looksAt, Op.operands, Call.operands, famAt, famOf, isV] at hl
          have hld := run_loadr (HLx.out V hg)
          refine ⟨fun _ => ?_, fun e => ?_⟩
          · unfold execOp
            simp only [rho, hl]
            simp only [Sem.run_bind, Sem.run_pure, hld, Result.andThen_ok, famUpon]
            exact ⟨Grows.refl _, fun d e => by injection e with e; subst e; simp [famOf, isV]⟩
          · simp [famWants, boolIs_bool, hl] at e
        · intro f V hg hl
          simp [Oper.looksAt, Op.operands, Call.operands, famAt, famOf, isV] at hl
          have hld := run_loadr (HLy.out V hg)
          refine ⟨fun _ => ?_, fun e => ?_⟩
          · unfold execOp
            simp only [rho, hl]
            simp only [Sem.run_bind, Sem.run_pure, hld, Result.andThen_ok, famUpon]
            exact ⟨Grows.refl _, fun d e => by injection e with e; subst e; simp [famOf, isV]⟩
          · simp [famWants, boolIs_bool, hl] at e
        · intro f V hg hl
          simp [Oper.looksAt, Op.operands, Call.operands, famAt, famOf, isV] at hl
          simp [famWants, boolIs_bool, boolIs_undef, execOp, rho, go_sem, hl, famUpon, famOf, isV, Grows.refl]
          refine (HCC.out V hg).mono ?_
          rintro e w'' ⟨rfl, hb'⟩
          exact ⟨rfl, hb'⟩
        · intro f V hg hl
          simp [Oper.looksAt, Op.operands, Call.operands, famAt, famOf, isV] at hl
          simp [famWants, boolIs_bool, boolIs_undef, execOp, rho, go_sem, hl, hcb, famUpon, famOf, isV, Grows.refl]
        · trivial
      · intro u V hgV hu
        have e27 : u 27 = .bool b := hu 27 (by decide)
        simp only [List.drop_succ_cons, List.drop_zero, fill, Act.put, List.setIfInBounds_toArray, List.set_cons_zero, List.set_cons_succ, e27]
        refine wpList_nil ?_
        have hS' := hS.new hgV
        have hP' := hP.new hgV
        have hA' := hA.new hgV
        have hM' := hM.new hgV
        have hb' := below_new hb hgV
        clear hu e27 HLx HLy HCC hcb hS hP hA hM hb hgV
        cases b with
        | false =>
          have HM2 : Hid (y = P.least ltE x0 (r.take (i + 1))) := Lib.hid (by rw [HT.out]; rfl)
          go_wp2
          go_roundw
          case rel => exact ⟨i + 1, y, by go_num, by omega, HM2, hS', hP', hA', hM', hb'⟩
          case measure => simp [intOf]; omega
        | true =>
          have HM2 : Hid (x = P.least ltE x0 (r.take (i + 1))) := Lib.hid (by rw [HT.out]; rfl)
          have hx := HLz.out V hS'
          obtain ⟨F2, M2, A2, c2⟩ := x
          obtain ⟨q2, hq2⟩ : ∃ q, M2.length = q := ⟨_, rfl⟩
          obtain ⟨c0, c1, c2', c3, c4, c5, c6, c7, c8, c9, c10, c11, c12, c13⟩ := RvAt.all hx hq2
          have HQ2 := Lib.hid hq2
          clear hx hq2
          have HVAL : Hid ((⟨F2, M2, A2, c2⟩ : EvV).val = ev F2 A2 q2 c2) := Lib.hid (by unfold EvV.val; simp only [HQ2.out])
          go_wp2_with (refine wpList_setr _ rfl _ _ rfl gm [y] 0 (by simp) ⟨F2, M2, A2, c2⟩ rfl HVAL.out.symm hM' ?_)
          intro W hSW hgW
          have HW3 := Lib.hid hSW
          have hS3 := hS'.grown hgW (fun e => by injection e with e; have := HG.out; have := HGM.out; omega)
          have hP3 : CmpAt W p := hP'.gb hgW (by have := HPL.out; have := HGM.out; omega)
          have hA3 := hA'.grown hgW (fun e => by injection e with e; have := HGM.out; omega)
          have hb3 : Below w.heap.size w W := by
            have h1 := hb'.size
            have h2 := HGA.out
            have h3 := HGM.out
            exact hb'.grown hgW h1 (fun k hk => by injection hk with hk; omega)
          have hM3 : SRow W gm [⟨F2, M2, A2, c2⟩] := hSW
          clear hSW HW3 hgW hS' hP' hA' hM' hb' HVAL HQ2 HLz c0 c1 c2' c3 c4 c5 c6 c7 c8 c9 c10 c11 c12 c13
          refine wpList_nil ?_
          go_wp2
          go_roundw
          case rel => exact ⟨i + 1, _, by go_num, by omega, HM2, hS3, hP3, hA3, hM3, hb3⟩
          case measure => simp [intOf]; omega
    · have HE : Hid (y = P.least ltE x0 r) := Lib.hid (by
        have h1 := HM.out
        rwa [List.take_of_length_le (by have := HNN.out; simp at this; omega)] at h1)
      have hlt' : ¬ ((i + 1 : Nat) : Int) < (N : Int) := by omega
      have hlt2 : ¬ (i : Int) + 1 < (N : Int) := by omega
      have hx : RvAt wr ⟨gm, 0, none⟩ y := by have := hM.at (i := 0) (by simp); simpa using this
      clear HM hS hP
      obtain ⟨F2, M2, A2, c2⟩ := y
      obtain ⟨q2, hq2⟩ : ∃ q, M2.length = q := ⟨_, rfl⟩
      obtain ⟨c0, c1, c2', c3, c4, c5, c6, c7, c8, c9, c10, c11, c12, c13⟩ := RvAt.all hx hq2
      have HQ2 := Lib.hid hq2
      clear hx hq2
      have HVAL : Hid ((⟨F2, M2, A2, c2⟩ : EvV).val = ev F2 A2 q2 c2) := Lib.hid (by unfold EvV.val; simp only [HQ2.out])
      go_wp2_with (refine wpList_setr _ rfl _ _ rfl ga [zEv] 0 (by simp) ⟨F2, M2, A2, c2⟩ rfl HVAL.out.symm hA ?_)
      intro W hSW hgW
      have hb3 : Below w.heap.size w W := by
        have h1 := hb.size
        have h2 := HGA.out
        exact hb.grown hgW h1 (fun k hk => by injection hk with hk; omega)
      have hM3 : SRow W ga [⟨F2, M2, A2, c2⟩] := hSW
      have hy : RvAt W ⟨ga, 0, none⟩ ⟨F2, M2, A2, c2⟩ := by have := hM3.at (i := 0) (by simp); simpa using this
      clear hSW hgW hM hA hb c0 c1 c2' c3 c4 c5 c6 c7 c8 c9 c10 c11 c12 c13
      obtain ⟨c0, c1, c2', c3, c4, c5, c6, c7, c8, c9, c10, c11, c12, c13⟩ := RvAt.all hy HQ2.out
      refine wpList_nil ?_
      go_wp2
      refine bodyPost_ret (v := ev F2 A2 q2 c2) ?_ rfl ?_
      · simp [results, Try.results30, go_sem, c0, c1, c2', c3, c4, c5, c6, c7, c8, c9, c10, c11, c12, c13]
      · rw [← HE.out, HVAL.out]
        exact ⟨rfl, hb3⟩
end Go.Proofs.Ytgjepgnbkfbodaa
