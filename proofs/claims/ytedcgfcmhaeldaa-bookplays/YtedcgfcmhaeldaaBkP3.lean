/- Layer 8, the program's: keep. -/
import Derived.Test.YtedcgfcmhaeldaaBkP2
namespace Go.Proofs.Ytedcgfcmhaeldaa
set_option linter.unusedVariables false
set_option linter.unusedSimpArgs false
open Go.ChangeShapes Go.WideShapes Go.ChangeAt Go.RowKit

theorem Try.mapEv : Try.prog.underlying 82 = some (.map 39 43) := by kernel_rfl
theorem run_mapnil' {t e k : TypeId} (ht : Try.prog.underlying t = some (.map k e)) (m : Option Nat) (W : World) (d : Nat) : (Op.equalIn (d + 1) t (.map m) (.map none)).run Try.prog W = .ok m.isNone W := by
  cases m <;> simp [Op.equalIn, run_underlying ht]
theorem run_mapnil {t e k : TypeId} (ht : Try.prog.underlying t = some (.map k e)) (m : Option Nat) (W : World) : (binOp .eql t (.map m) (.map none)).run Try.prog W = .ok (.bool m.isNone) W := by
  simp only [binOp]
  simp [Op.equal, Op.maxDepth, run_mapnil' ht m W 9999]
def putF (d : D.Dot) (v : Value) (f : D.Dot → Option Value) : D.Dot → Option Value := fun x => if x = d then some v else f x
def delF' (d : D.Dot) (f : D.Dot → Option Value) : D.Dot → Option Value := fun x => if x = d then none else f x
def cntP (o : Option Value) (n : Nat) : Nat := if o.isSome then n else n + 1
def cntD (o : Option Value) (n : Nat) : Nat := if o.isSome then n - 1 else n
theorem wpList_mput (w : World) {ops : Array Oper} {rest : List Oper} {o : Oper} {a : Act} {Q : Exit → Act → World → Prop} {t e : TypeId} (hgd : o.guard = none) (x y z : Operand) (ho : o.op = .mapUpdate t x y z) (ht : Try.prog.underlying t = some (.map 39 e))
    (b : Nat) (hx : a.eval x = .map (some b)) (d : D.Dot) (hy : a.eval y = dv d) (v : Value) (hz : a.eval z = v) {f : D.Dot → Option Value} {n : Nat} (hM : MapF w b f n)
    (h : ∀ W, MapF W b (putF d v f) (cntP (f d) n) → w.grownBy W (some b) → wpList Try.prog ops Q rest (a.put o.dst undef) W) : wpList Try.prog ops Q (o :: rest) a w := by
  refine wpList_plain hgd fun K hK => ?_
  obtain ⟨W, hrun, h2, h3⟩ := hM.store ht d v
  unfold Oper.wp execOp
  simp only [ho, hx, hy, hz, Sem.run_bind, Sem.run_pure, Result.andThen_ok, hrun]
  exact hK _ _ (h W h2 h3)
theorem wpList_mdel (w : World) {ops : Array Oper} {rest : List Oper} {o : Oper} {a : Act} {Q : Exit → Act → World → Prop} {t e : TypeId} (hgd : o.guard = none) (s x : Operand) (ho : o.op = .call { callee := .builtin .delete, args := #[s, x], argTypes := #[t, 39] }) (ht : Try.prog.underlying t = some (.map 39 e))
    (m : Option Nat) (hs : a.eval s = .map m) (d : D.Dot) (hx : a.eval x = dv d) {f : D.Dot → Option Value} {n : Nat} (hM : MapM w m f n)
    (h : ∀ W, MapM W m (delF' d f) (cntD (f d) n) → w.grownBy W m → wpList Try.prog ops Q rest (a.put o.dst (.tuple #[])) W) : wpList Try.prog ops Q (o :: rest) a w := by
  refine wpList_plain hgd fun K hK => ?_
  cases m with
  | none =>
    have hrun := MapF.dropN (w := w) ht d o.type
    unfold Oper.wp execOp
    simp only [ho, resolve, invoke, builtin, Sem.run_bind, Sem.run_pure, Result.andThen_ok, List.map_toArray, List.map_cons, List.map_nil, hs, hx, hrun]
    refine hK _ _ (h w ⟨fun x => ?_, ?_⟩ (World.grownBy.refl _ _))
    · simp [delF', hM.1]
    · simp [cntD, hM.1, hM.2]
  | some b =>
    obtain ⟨W, hrun, h2, h3⟩ := MapF.drop hM ht d o.type
    unfold Oper.wp execOp
    simp only [ho, resolve, invoke, builtin, Sem.run_bind, Sem.run_pure, Result.andThen_ok, List.map_toArray, List.map_cons, List.map_nil, hs, hx, hrun]
    exact hK _ _ (h W h2 h3)
def cpE (F : Nat → Int) (n B : Nat) (M : List D.Dot) : StG := ⟨fun u w => ∃ A c, u = ev F A n c ∧ Copy w B A c M, fun _ _ _ h ⟨A, c, e, k⟩ => ⟨A, c, e, k.new h⟩⟩
set_option maxRecDepth 100000 in
/-- A new event is put into the map. -/
theorem put_book {w w2 : World} {S : Nat → Prop} {g q h0 : Nat} {T : D.Dot → Bool} {h : List E.Ev} {t : Int} {F : Nat → Int} {A : Option Addr} {n c : Nat} {M : List D.Dot} {f : D.Dot → Option EvV} {A1 : Option Addr} {c1 : Nat}
    (hB : Blo w g 84 (bcs (D.cU T) A1 (D.cM T).length c1 (some h0) t)) (hR : DRd w S A1 (D.cM T)) (hm : MapF w h0 (fun d => (f d).map EvV.val) h.length) (hT : Ties f h) (hr : ∀ d e, f d = some e → DRd w S e.A e.M)
    (hs : B.Srt h) (hrt : ∀ x ∈ h, E.right x.1 x.2 = true) (hq : E.right F M = true) (hno : ∀ x ∈ h, B.dotOf x ≠ (F 0, F 1)) (hn : M.length = n) (hC : Copy w q A c M)
    (hm2 : MapF w2 h0 (putF (F 0, F 1) (ev F A n c) fun x => (f x).map EvV.val) (cntP ((f (F 0, F 1)).map EvV.val) h.length)) (hg : w.grownBy w2 (some h0)) :
    PBi w2 (fun b => S b ∨ q ≤ b) g (some h0) T (B.ins (F, M) h) t := by
  have hk : ∀ x, DB w x → w2.heap[x]? = w.heap[x]? := fun x hx => hg.block x hx.lt (fun e => by injection e with e; subst e; exact hx.map hm rfl)
  have hf0 : f (F 0, F 1) = none := by
    cases hf : f (F 0, F 1) with
    | none => rfl
    | some e =>
      obtain ⟨h1, h2⟩ := hT.out _ e hf
      exact absurd h2 (hno _ h1)
  have hgh : some g ≠ some h0 := MapM.blo (m := some h0) hm hB
  subst hn
  refine ⟨⟨A1, c1, hB.grown hg hgh, (hR.keep fun x _ hx => hk x hx).mono fun x hx => .inl hx⟩, ⟨fun x => if x = (F 0, F 1) then some ⟨F, M, A, c⟩ else f x, ?_, hT.put ⟨F, M, A, c⟩ hno, fun d e he => ?_⟩, B.srt_ins hs hno, fun x hx => ?_⟩
  · rw [hf0] at hm2
    rw [ins_len]
    have e1 : (fun d => ((fun x => if x = (F 0, F 1) then some (⟨F, M, A, c⟩ : EvV) else f x) d).map EvV.val) = (fun x => if x = (F 0, F 1) then some (ev F A M.length c) else (f x).map EvV.val) := by
      funext d
      by_cases e : d = (F 0, F 1) <;> simp [e, EvV.val]
    show MapF w2 h0 _ _
    rw [e1]
    have h1 : cntP ((none : Option EvV).map EvV.val) h.length = h.length + 1 := by simp [cntP]
    rw [h1] at hm2
    exact hm2
  · by_cases e1 : d = (F 0, F 1)
    · simp only [e1, if_true] at he
      injection he with he
      subst he
      exact (hC.drd.keep fun x _ hx => hk x hx).mono fun x hx => .inr hx
    · simp only [e1, if_false] at he
      exact ((hr d e he).keep fun x _ hx => hk x hx).mono fun x hx => .inl hx
  · rcases B.mem_ins.1 hx with rfl | hx
    · exact hq
    · exact hrt x hx

set_option maxRecDepth 100000 in
set_option maxHeartbeats 4000000 in
theorem pkeep_any {S : Nat → Prop} {g : Nat} {m : Option Nat} {T : D.Dot → Bool} {h : List E.Ev} {t : Int} (S2 : Nat → Prop) (F : Nat → Int) (A : Option Addr) (n c : Nat) (M : List D.Dot) (w : World) (hP : PBi w S g m T h t) (hn : M.length = n) (hr : Rds w S2 A (dvs M)) (hS : ∀ b, S2 b → b ≠ g) (hq : E.right F M = true) (hno : ∀ x ∈ h, B.dotOf x ≠ (F 0, F 1)) :
    Calls Try.prog 41 #[.pointer (some ⟨g, 0, none⟩), ev F A n c] w fun e w' =>
      e = .returned (.tuple #[]) ∧ (∃ m', PBi w' (fun b => S b ∨ w.heap.size ≤ b) g m' T (B.ins (F, M) h) t ∧ (m' = m ∨ m = none ∧ ∃ x, m' = some x ∧ w.heap.size ≤ x)) ∧ Kpt w w' g m := by
  have hl : n ≤ 1000000 := by have := (B.right_may (e := (F, M)) hq).2.2.2.2; simp only at this; omega
  obtain ⟨w1, hw1⟩ : ∃ W, w.alloc (.cells (ecs F A n c) 43) = W := ⟨_, rfl⟩
  obtain ⟨gx, hgx⟩ : ∃ q, q = w.heap.size := ⟨_, rfl⟩
  have hb1 : Below w.heap.size w w1 := by rw [← hw1]; exact b_alloc _ _
  have hs1 := hb1.size
  have hX1 : Blo w1 gx 43 (ecs F A n c) := by rw [← hw1, hgx]; exact Blo.made _ _ _
  have hP1 := hP.new hb1
  have hr1 := hr.new hb1
  obtain ⟨A1, c1, hB, hR⟩ := hP1.blk
  obtain ⟨f, hm, hT, hf⟩ := hP1.map
  have hlt := hP.lt
  have hltm : ∀ x, m = some x → x < w.heap.size := fun x hx => hP.ltm hx
  obtain ⟨n1, hn1⟩ : ∃ k, k = (D.cM T).length := ⟨_, rfl⟩
  obtain ⟨U, hU⟩ : ∃ U, U = D.cU T := ⟨_, rfl⟩
  rw [← hn1, ← hU] at hB
  have HU := Lib.hid hU
  have HN1 := Lib.hid hn1
  have HW := Lib.hid hw1
  have HGX := Lib.hid hgx
  have HN := Lib.hid hn
  have HNO := Lib.hid hno
  have HSR := Lib.hid hP1.srt
  have HRT := Lib.hid hP1.rt
  have HF := Lib.hid hf
  have HTI := Lib.hid hT
  have HM := Lib.hid hm
  have HQ := Lib.hid hq
  clear hw1 hgx hn hU hn1 hP hP1 hr hno hf hT hm hq
  have b9 : w1.cell? ⟨g, 9, none⟩ = some (.map m) := by simpa using hB.cell 9
  have f9 := hB.frozen 9
  have hnil := run_mapnil Try.mapEv m
  have hgxg : gx ≠ g := by have := HGX.out; omega
  cases m with
  | none =>
    obtain ⟨g2, hg2⟩ : ∃ q, q = w1.heap.size := ⟨_, rfl⟩
    obtain ⟨w2, hw2⟩ : ∃ W, w1.alloc (.map #[] 0) = W := ⟨_, rfl⟩
    have hb2 : Below w1.heap.size w1 w2 := by rw [← hw2]; exact b_alloc _ _
    have hM2 : MapF w2 g2 (fun _ => none) 0 := by rw [← hw2, hg2]; exact MapF.made _
    have hB2 := hB.new hb2
    have hX2 := hX1.new hb2
    have hr2 := hr1.new hb2
    have hR2 := hR.new hb2
    have k9 : w2.cell? ⟨g, 9, none⟩ = some (.map none) := by simpa using hB2.cell 9
    have k9f := hB2.frozen 9
    obtain ⟨w3, hw3⟩ : ∃ W, w2.setCell ⟨g, 9, none⟩ (.map (some g2)) = W := ⟨_, rfl⟩
    have hg3 : w2.grownBy w3 (some g) := by rw [← hw3]; exact gb_set (World.grownBy.refl _ _) (.inl rfl) _
    have hB3 : Blo w3 g 84 (bcs U A1 n1 c1 (some g2) t) := by rw [← hw3]; simpa using hB2.put 9 (.map (some g2))
    have hltg : g < w1.heap.size := by omega
    have hM3 : MapF w3 g2 (fun _ => none) 0 := hM2.keep (hg3.block g2 hM2.lt (fun e => by injection e with e; omega))
    have hX3 : Blo w3 gx 43 (ecs F A n c) := hX2.grown hg3 (fun e => by injection e with e; exact hgxg e)
    have hr3 := hr2.grown hg3 (fun b hb _ e => by injection e with e; exact hS b hb e)
    have hR3 : DRd w3 S A1 (D.cM T) := hR2.keep fun x _ hx => hg3.block x hx.lt (fun e => hx.blo hB2 (by decide) (by injection e))
    have hK3 : Kpt w w3 g none := (Kpt.of (below_new hb1 hb2)).trans (Kpt.ofG hg3 (.inl rfl)) (.inl rfl)
    have hs3 : w1.heap.size ≤ w3.heap.size := Nat.le_trans hb2.size hg3.size
    have HW2 := Lib.hid hw2
    have hg2' : g2 = w.heap.size + 1 := by rw [hg2, ← HW.out]; simp
    have HW3 : Hid (((w.setCell ⟨g, 9, none⟩ (.map (some (w.heap.size + 1)))).alloc (.cells (ecs F A n c) 43)).alloc (.map #[] 0) = w3) := Lib.hid (by
      rw [← hw3, ← hw2, ← HW.out, hg2', World.setCell_alloc_past _ _ _ _ (by simp; omega), World.setCell_alloc_past _ _ _ _ hlt])
    have HG2 := Lib.hid hg2'
    have hmm := @run_makeMap Try.prog
    have hsz2 : w.heap.size ≤ g2 := by omega
    rw [← HW2.out, ← HW.out] at k9 k9f
    rw [← HW.out] at b9
    have hnil' : ∀ W : World, (binOp .eql 82 (.map none) (.map none)).run Try.prog W = .ok (.bool true) W := hnil
    clear hnil
    clear hw2 hw3 hg2 hg2' hB hX1 hr1 hR hb2 hB2 hX2 hr2 hR2 hM2 hg3 hb1
    go_enter Try.func41, Try.ntmps41
    have HB : Hid (∀ V, Grows w3 V → _) := Lib.hid (fun V hV => set11 (hB3.new hV))
    have HE : Hid (∀ V, Grows w3 V → _) := Lib.hid (fun V hV => set14 (hX3.new hV))
    have HC : Hid (∀ V, Grows w3 V → Calls Try.prog 67 #[ev F A n c] V (EvPost F M V)) := Lib.hid (fun V hV => copied_any S2 F A n c M V HN.out (hr3.new hV) hl)
    have H0 : Hid (h = []) := Lib.hid (by
      have := HM.out
      exact List.eq_nil_of_length_eq_zero this.2)
    rw [H0.out] at HNO HSR HRT ⊢
    have HTN := Lib.hid Ties.nil
    go_wp2_with fail
    rw [HW3.out, ← HGX.out]
    refine wp_fam (n := 8) (size := 21) (D := [13, 14, 15, 16, 17, 18, 19, 20]) [(13, isV (.pointer (some ⟨g, 0, none⟩))), (14, isV (.pointer (some ⟨g, 0, none⟩))), (15, isV (.pointer (some ⟨g, 9, none⟩))), (16, isV (.map (some g2))), (17, isV (.pointer (some ⟨gx, 0, none⟩))), (18, isV (.agg #[.int .i64 (F 0), .int .i64 (F 1)])), (19, isV (ev F A n c)), (20, cpE F n w.heap.size M)] (by kernel_rfl) (by rfl) (by kernel_rfl) ?_ ?_
    · simp only [List.take_succ_cons, List.take_zero, famAll]
      repeat' apply And.intro
      · intro f V hg hl
        simp [Oper.looksAt, Op.operands, Call.operands, famAt, famOf, isV] at hl
        simp [famWants, boolIs_bool, boolIs_undef, execOp, rho, go_sem, hl, famUpon, famOf, isV, Grows.refl]
      · intro f V hg hl
        simp [Oper.looksAt, Op.operands, Call.operands, famAt, famOf, isV] at hl
        simp [famWants, boolIs_bool, boolIs_undef, execOp, rho, go_sem, hl, famUpon, famOf, isV, Grows.refl]
      · intro f V hg hl
        simp [Oper.looksAt, Op.operands, Call.operands, famAt, famOf, isV] at hl
        simp [famWants, boolIs_bool, boolIs_undef, execOp, rho, go_sem, hl, famUpon, famOf, isV, Grows.refl]
      · intro f V hg hl
        obtain ⟨b0, b1, b2, b3, b4, b5, b6, b7, b8, b9, b10⟩ := HB.out V hg
        simp [Oper.looksAt, Op.operands, Call.operands, famAt, famOf, isV] at hl
        simp [famWants, boolIs_bool, boolIs_undef, execOp, rho, go_sem, hl, b0, b1, b2, b3, b4, b5, b6, b7, b8, b9, b10, famUpon, famOf, isV, Grows.refl]
      · intro f V hg hl
        simp [Oper.looksAt, Op.operands, Call.operands, famAt, famOf, isV] at hl
        simp [famWants, boolIs_bool, boolIs_undef, execOp, rho, go_sem, hl, famUpon, famOf, isV, Grows.refl]
      · intro f V hg hl
        obtain ⟨c0, c1, c2, c3, c4, c5, c6, c7, c8, c9, c10, c11, c12, c13⟩ := HE.out V hg
        simp [Oper.looksAt, Op.operands, Call.operands, famAt, famOf, isV] at hl
        simp [famWants, boolIs_bool, boolIs_undef, execOp, rho, go_sem, hl, c0, c1, c2, c3, c4, c5, c6, c7, c8, c9, c10, c11, c12, c13, famUpon, famOf, isV, Grows.refl]
      · intro f V hg hl
        obtain ⟨c0, c1, c2, c3, c4, c5, c6, c7, c8, c9, c10, c11, c12, c13⟩ := HE.out V hg
        simp [Oper.looksAt, Op.operands, Call.operands, famAt, famOf, isV] at hl
        simp [famWants, boolIs_bool, boolIs_undef, execOp, rho, go_sem, hl, c0, c1, c2, c3, c4, c5, c6, c7, c8, c9, c10, c11, c12, c13, famUpon, famOf, isV, Grows.refl]
      · intro f V hg hl
        simp [Oper.looksAt, Op.operands, Call.operands, famAt, famOf, isV] at hl
        simp [famWants, boolIs_bool, boolIs_undef, execOp, rho, go_sem, hl, famUpon, famOf, isV, Grows.refl]
        refine (HC.out V hg).mono ?_
        rintro e w'' ⟨A', c', rfl, hc, hb⟩
        exact ⟨_, rfl, hb, A', c', by rw [HN.out], hc.mono (Nat.le_trans (Nat.le_trans hs1 hs3) (Below.size hg))⟩
      · trivial
    · intro u V hg hu
      obtain ⟨A', c', e20, hcp⟩ : ∃ A' c', u 20 = ev F A' n c' ∧ Copy V w.heap.size A' c' M := hu 20 (by decide)
      have e16 : u 16 = .map (some g2) := hu 16 (by decide)
      have e18 : u 18 = dv (F 0, F 1) := hu 18 (by decide)
      simp only [List.drop_succ_cons, List.drop_zero, fill, Act.put, List.setIfInBounds_toArray, List.set_cons_zero, List.set_cons_succ, e16, e18, e20]
      have hBV := hB3.new hg
      have hMV := hM3.new hg
      clear hu e16 e18 e20 HB HE HC
      go_wp2_with (refine wpList_mput _ rfl _ _ _ rfl Try.mapEv g2 rfl (F 0, F 1) rfl (ev F A' n c') rfl hMV ?_)
      intro w5 hM5 hg5
      rw [HU.out, HN1.out] at hBV
      have hK5 := hK3.trans (Kpt.of (g := g) (m := none) hg) (.inl rfl)
      have hMV' : MapF V g2 (fun d => ((fun _ => none : D.Dot → Option EvV) d).map EvV.val) ([] : List E.Ev).length := hMV
      have hfin := put_book (q := w.heap.size) (f := fun _ => none) hBV (hR3.new hg) hMV' HTN.out (fun d e h => (by cases h)) HSR.out HRT.out HQ.out HNO.out HN.out hcp hM5 hg5
      have hK6 := hK5.trans (Kpt.ofG (g := g) (m := some g2) hg5 (.inr (.inl rfl))) (.inr fun x hx => by injection hx with hx; omega)
      go_wp2
      go_end0
      exact ⟨rfl, ⟨some g2, hfin, by first | exact .inr ⟨rfl, g2, rfl, hsz2⟩ | exact .inr ⟨trivial, g2, rfl, hsz2⟩ | exact .inr ⟨g2, rfl, hsz2⟩⟩, hK6⟩
  | some h0 =>
    have hKs : Kpt w w1 g (some h0) := Kpt.of hb1
    have hMS : MapF w1 h0 (fun d => (f d).map EvV.val) h.length := HM.out
    rw [← HW.out] at b9
    have hnil' : ∀ W : World, (binOp .eql 82 (.map (some h0)) (.map none)).run Try.prog W = .ok (.bool false) W := hnil
    clear hnil
    go_enter Try.func41, Try.ntmps41
    have HB : Hid (∀ V, Grows w1 V → _) := Lib.hid (fun V hV => set11 (hB.new hV))
    have HE : Hid (∀ V, Grows w1 V → _) := Lib.hid (fun V hV => set14 (hX1.new hV))
    have HC : Hid (∀ V, Grows w1 V → Calls Try.prog 67 #[ev F A n c] V (EvPost F M V)) := Lib.hid (fun V hV => copied_any S2 F A n c M V HN.out (hr1.new hV) hl)
    go_wp2_with fail
    rw [HW.out, ← HGX.out]
    refine wp_fam (n := 8) (size := 21) (D := [13, 14, 15, 16, 17, 18, 19, 20]) [(13, isV (.pointer (some ⟨g, 0, none⟩))), (14, isV (.pointer (some ⟨g, 0, none⟩))), (15, isV (.pointer (some ⟨g, 9, none⟩))), (16, isV (.map (some h0))), (17, isV (.pointer (some ⟨gx, 0, none⟩))), (18, isV (.agg #[.int .i64 (F 0), .int .i64 (F 1)])), (19, isV (ev F A n c)), (20, cpE F n w.heap.size M)] (by kernel_rfl) (by rfl) (by kernel_rfl) ?_ ?_
    · simp only [List.take_succ_cons, List.take_zero, famAll]
      repeat' apply And.intro
      · intro f V hg hl
        simp [Oper.looksAt, Op.operands, Call.operands, famAt, famOf, isV] at hl
        simp [famWants, boolIs_bool, boolIs_undef, execOp, rho, go_sem, hl, famUpon, famOf, isV, Grows.refl]
      · intro f V hg hl
        simp [Oper.looksAt, Op.operands, Call.operands, famAt, famOf, isV] at hl
        simp [famWants, boolIs_bool, boolIs_undef, execOp, rho, go_sem, hl, famUpon, famOf, isV, Grows.refl]
      · intro f V hg hl
        simp [Oper.looksAt, Op.operands, Call.operands, famAt, famOf, isV] at hl
        simp [famWants, boolIs_bool, boolIs_undef, execOp, rho, go_sem, hl, famUpon, famOf, isV, Grows.refl]
      · intro f V hg hl
        obtain ⟨b0, b1, b2, b3, b4, b5, b6, b7, b8, b9, b10⟩ := HB.out V hg
        simp [Oper.looksAt, Op.operands, Call.operands, famAt, famOf, isV] at hl
        simp [famWants, boolIs_bool, boolIs_undef, execOp, rho, go_sem, hl, b0, b1, b2, b3, b4, b5, b6, b7, b8, b9, b10, famUpon, famOf, isV, Grows.refl]
      · intro f V hg hl
        simp [Oper.looksAt, Op.operands, Call.operands, famAt, famOf, isV] at hl
        simp [famWants, boolIs_bool, boolIs_undef, execOp, rho, go_sem, hl, famUpon, famOf, isV, Grows.refl]
      · intro f V hg hl
        obtain ⟨c0, c1, c2, c3, c4, c5, c6, c7, c8, c9, c10, c11, c12, c13⟩ := HE.out V hg
        simp [Oper.looksAt, Op.operands, Call.operands, famAt, famOf, isV] at hl
        simp [famWants, boolIs_bool, boolIs_undef, execOp, rho, go_sem, hl, c0, c1, c2, c3, c4, c5, c6, c7, c8, c9, c10, c11, c12, c13, famUpon, famOf, isV, Grows.refl]
      · intro f V hg hl
        obtain ⟨c0, c1, c2, c3, c4, c5, c6, c7, c8, c9, c10, c11, c12, c13⟩ := HE.out V hg
        simp [Oper.looksAt, Op.operands, Call.operands, famAt, famOf, isV] at hl
        simp [famWants, boolIs_bool, boolIs_undef, execOp, rho, go_sem, hl, c0, c1, c2, c3, c4, c5, c6, c7, c8, c9, c10, c11, c12, c13, famUpon, famOf, isV, Grows.refl]
      · intro f V hg hl
        simp [Oper.looksAt, Op.operands, Call.operands, famAt, famOf, isV] at hl
        simp [famWants, boolIs_bool, boolIs_undef, execOp, rho, go_sem, hl, famUpon, famOf, isV, Grows.refl]
        refine (HC.out V hg).mono ?_
        rintro e w'' ⟨A', c', rfl, hc, hb⟩
        exact ⟨_, rfl, hb, A', c', by rw [HN.out], hc.mono (Nat.le_trans hs1 (Below.size hg))⟩
      · trivial
    · intro u V hg hu
      obtain ⟨A', c', e20, hcp⟩ : ∃ A' c', u 20 = ev F A' n c' ∧ Copy V w.heap.size A' c' M := hu 20 (by decide)
      have e16 : u 16 = .map (some h0) := hu 16 (by decide)
      have e18 : u 18 = dv (F 0, F 1) := hu 18 (by decide)
      simp only [List.drop_succ_cons, List.drop_zero, fill, Act.put, List.setIfInBounds_toArray, List.set_cons_zero, List.set_cons_succ, e16, e18, e20]
      have hBV := hB.new hg
      have hMV := hMS.new hg
      clear hu e16 e18 e20 HB HE HC
      go_wp2_with (refine wpList_mput _ rfl _ _ _ rfl Try.mapEv h0 rfl (F 0, F 1) rfl (ev F A' n c') rfl hMV ?_)
      intro w5 hM5 hg5
      rw [HU.out, HN1.out] at hBV
      have hK5 := hKs.trans (Kpt.of (g := g) (m := (some h0)) hg) (.inl rfl)
      have hfin := put_book (q := w.heap.size) (f := f) hBV (hR.new hg) hMV HTI.out (fun d e h => (HF.out d e h).new hg) HSR.out HRT.out HQ.out HNO.out HN.out hcp hM5 hg5
      have hK6 := hK5.trans (Kpt.ofG (g := g) (m := some h0) hg5 (.inr (.inl rfl))) (.inl rfl)
      go_wp2
      go_end0
      exact ⟨rfl, ⟨some h0, hfin, .inl rfl⟩, hK6⟩
end Go.Proofs.Ytedcgfcmhaeldaa
