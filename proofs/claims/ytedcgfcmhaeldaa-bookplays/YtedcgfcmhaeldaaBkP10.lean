/- Layer 8, the program's: ground's take, Stands. -/
import Derived.Test.YtedcgfcmhaeldaaBkP8
namespace Go.Proofs.Ytedcgfcmhaeldaa
set_option linter.unusedVariables false
set_option linter.unusedSimpArgs false
open Go.ChangeShapes Go.WideShapes Go.ChangeAt Go.RowKit

abbrev gcs (work : Int) (U : Nat → Int) (A : Option Addr) (n c : Nat) : Array Value := #[.int .i64 work, .int .i64 (U 0), .int .i64 (U 1), .int .i64 (U 2), .int .i64 (U 3), .int .i64 (U 4), .int .i64 (U 5), .int .i64 (U 6), .int .i64 (U 7), .slice A n c]
theorem set10 {w : World} {r : Nat} {t : TypeId} {U : Nat → Int} {A : Option Addr} {n c : Nat} {x : Int} (h : Blo w r t (gcs x U A n c)) :
    w.cell? ⟨r, 0, none⟩ = some (.int .i64 x) ∧ w.cell? ⟨r, 1, none⟩ = some (.int .i64 (U 0)) ∧ w.cell? ⟨r, 2, none⟩ = some (.int .i64 (U 1)) ∧ w.cell? ⟨r, 3, none⟩ = some (.int .i64 (U 2)) ∧ w.cell? ⟨r, 4, none⟩ = some (.int .i64 (U 3)) ∧ w.cell? ⟨r, 5, none⟩ = some (.int .i64 (U 4)) ∧ w.cell? ⟨r, 6, none⟩ = some (.int .i64 (U 5)) ∧ w.cell? ⟨r, 7, none⟩ = some (.int .i64 (U 6)) ∧
      w.cell? ⟨r, 8, none⟩ = some (.int .i64 (U 7)) ∧ w.cell? ⟨r, 9, none⟩ = some (.slice A n c) :=
  ⟨by simpa using h.cell 0, by simpa using h.cell 1, by simpa using h.cell 2, by simpa using h.cell 3, by simpa using h.cell 4, by simpa using h.cell 5, by simpa using h.cell 6, by simpa using h.cell 7, by simpa using h.cell 8, by simpa using h.cell 9⟩
theorem run_setg (w : World) (r : Nat) (U U' : Nat → Int) (A A' : Option Addr) (n c n' c' : Nat) (x : Int) (hB : Blo w r 94 (gcs x U A n c)) :
    ∃ W, (Instr.storeAt 53 (.pointer (some ⟨r, 1, none⟩)) (sv U' A' n' c')).run Try.prog w = .ok () W ∧ Blo W r 94 (gcs x U' A' n' c') ∧ w.grownBy W (some r) := by
  obtain ⟨i0, hi, h9⟩ : ∃ i, Try.prog.info? 53 = some i ∧ i.size = 9 := by
    have ht := Try.sizeSet
    cases e : Try.prog.info? 53 with
    | none => rw [e] at ht; cases ht
    | some i => rw [e] at ht; simp at ht; exact ⟨i, rfl, ht⟩
  have h1 := run_storeCells_at (P := Try.prog) r 1 94 (scs U' A' n' c').toList 0 (gcs x U A n c) w hB (by simp) (scs_one U' A' n' c')
  have e : ((gcs x U A n c).toList.take (1 + 0) ++ (scs U' A' n' c').toList ++ (gcs x U A n c).toList.drop (1 + 0 + (scs U' A' n' c').toList.length)).toArray = gcs x U' A' n' c' := by simp
  rw [e] at h1
  refine ⟨_, ?_, setRow_heap w r (gcs x U A n c) _ 94 _ hB, ⟨rfl, rfl, rfl, by simp, fun k _ hk => setRow_other w r k _ (fun e => hk (by rw [e]))⟩⟩
  rw [← h1]
  simp [Instr.storeAt, Instr.sureAddr, storeVar, sizeOf, typeInfo, hi, h9, Value.cells]
theorem wpList_setg (w : World) {ops : Array Oper} {rest : List Oper} {o : Oper} {a : Act} {Q : Exit → Act → World → Prop} (hgd : o.guard = none) (x y : Operand) (ho : o.op = .store 53 x y)
    (r : Nat) (hx : a.eval x = .pointer (some ⟨r, 1, none⟩)) (U U' : Nat → Int) (A A' : Option Addr) (n c n' c' : Nat) (t : Int) (hy : a.eval y = sv U' A' n' c') (hB : Blo w r 94 (gcs t U A n c))
    (h : ∀ W, Blo W r 94 (gcs t U' A' n' c') → w.grownBy W (some r) → wpList Try.prog ops Q rest (a.put o.dst undef) W) : wpList Try.prog ops Q (o :: rest) a w := by
  refine wpList_plain hgd fun K hK => ?_
  obtain ⟨W, hrun, h2, h3⟩ := run_setg w r U U' A A' n c n' c' t hB
  unfold Oper.wp execOp
  simp only [ho, hx, hy, Sem.run_bind, Sem.run_pure, Result.andThen_ok, hrun]
  exact hK _ _ (h W h2 h3)
/-- A ground that has these dots. -/
def Grd (W : World) (B p : Nat) (work : Int) (T : D.Dot → Bool) : Prop := B ≤ p ∧ ∃ T' A c, (∀ x, D.may x = true → T' x = T x) ∧ Blo W p 94 (gcs work (D.cU T') A (D.cM T').length c) ∧ DRd W (fun b => B ≤ b) A (D.cM T')
theorem Grd.new {W W' : World} {B p : Nat} {work : Int} {T : D.Dot → Bool} (h : Grd W B p work T) (hb : Below W.heap.size W W') : Grd W' B p work T := by
  obtain ⟨h0, T', A, c, h1, h2, h3⟩ := h
  exact ⟨h0, T', A, c, h1, h2.new hb, h3.new hb⟩
theorem Grd.congr {W : World} {B p : Nat} {work : Int} {T T2 : D.Dot → Bool} (h : Grd W B p work T) (hT : ∀ x, D.may x = true → T x = T2 x) : Grd W B p work T2 := by
  obtain ⟨h0, T', A, c, h1, h2, h3⟩ := h
  exact ⟨h0, T', A, c, fun x hx => (h1 x hx).trans (hT x hx), h2, h3⟩
/-- One more dot. -/
theorem Grd.put {V W : World} {B p : Nat} {work : Int} {T T' : D.Dot → Bool} {d : D.Dot} {A' : Option Addr} {c' : Nat} {U : Nat → Int} {A : Option Addr} {n c : Nat} (hp : B ≤ p) (hB : Blo V p 94 (gcs work U A n c)) (hB2 : Blo W p 94 (gcs work (D.cU T') A' (D.cM T').length c')) (hg : V.grownBy W (some p))
    (hT' : ∀ x, D.may x = true → T' x = (T x || x == d)) (hR : DRd V (fun b => B ≤ b) A' (D.cM T')) : Grd W B p work (fun x => T x || x == d) :=
  ⟨hp, T', A', c', hT', hB2, hR.keep fun x _ hx => hg.block x hx.lt (fun e => hx.blo hB (by decide) (by injection e))⟩
/-- What is known of dots behind so many of what is removed. -/
def addL (T : D.Dot → Bool) (a : D.Dot) (L : List D.Dot) : D.Dot → Bool := fun x => T x || x == a || L.contains x
def addE' (work : Int) (T : D.Dot → Bool) (e : E.Ev) : D.Dot → Bool := fun x => T x || (B.ofPol work e && (decide (x = B.dotOf e) || decide (x ∈ e.2)))
def GTakeP (B p : Nat) (work : Int) (T : D.Dot → Bool) (e : E.Ev) (w : World) (r : Ending) (w' : World) : Prop :=
  r = .returned (.tuple #[]) ∧ Grd w' B p work (addE' work T e) ∧ Below B w w' ∧ ∀ x, DB w x → w'.heap[x]? = w.heap[x]?

set_option maxRecDepth 100000 in
set_option maxHeartbeats 8000000 in
theorem gtake_any {B p : Nat} {work : Int} {T : D.Dot → Bool} (S : Nat → Prop) (F : Nat → Int) (A : Option Addr) (n c : Nat) (M : List D.Dot) (w : World) (hG : Grd w B p work T) (hn : M.length = n) (hr : Rds w S A (dvs M)) (hS : ∀ b, S b → b < B) (hl : n ≤ 96) :
    Calls Try.prog 50 #[.pointer (some ⟨p, 0, none⟩), ev F A n c] w (GTakeP B p work T (F, M) w) := by
  obtain ⟨w1, hw1⟩ : ∃ W, w.alloc (.cells (ecs F A n c) 43) = W := ⟨_, rfl⟩
  obtain ⟨gx, hgx⟩ : ∃ q, q = w.heap.size := ⟨_, rfl⟩
  have hb1 : Below w.heap.size w w1 := by rw [← hw1]; exact b_alloc _ _
  have hs1 := hb1.size
  have hX1 : Blo w1 gx 43 (ecs F A n c) := by rw [← hw1, hgx]; exact Blo.made _ _ _
  have hG1 := hG.new hb1
  have hr1 := hr.new hb1
  have hlt : p < w.heap.size := by obtain ⟨_, T', A, c, _, h2, _⟩ := hG; exact h2.lt
  have hp := hG.1
  have hgxp : gx ≠ p := by omega
  have HW := Lib.hid hw1
  have HGX := Lib.hid hgx
  have HN := Lib.hid hn
  have hd1 : ∀ x, DB w x → w1.heap[x]? = w.heap[x]? := fun x hx => hb1.block x hx.lt
  have hb01 : Below B w w1 := hb1.mono (by omega)
  obtain ⟨hp', T1, A1, c1, hT1, hB1, hR1⟩ := hG1
  obtain ⟨n1, hn1⟩ : ∃ k, (D.cM T1).length = k := ⟨_, rfl⟩
  have HB10 := Lib.hid hB1
  rw [hn1] at hB1
  have hB1' := hB1
  have HG : Hid (∀ V, Grows w1 V → _) := Lib.hid (fun V hV => set10 (hB1'.new hV))
  have HE : Hid (∀ V, Grows w1 V → _) := Lib.hid (fun V hV => set14 (hX1.new hV))
  have HC : Hid (∀ V, Grows w1 V → Calls Try.prog 66 #[sv (D.cU T1) A1 n1 c1, .agg #[.int .i64 (F 0), .int .i64 (F 1)]] V (WithP (fun b => B ≤ b) T1 (F 0, F 1) V)) := Lib.hid (fun V hV => with_any _ T1 A1 n1 c1 (F 0) (F 1) V hn1 (hR1.new hV))
  obtain ⟨U1, hU1⟩ : ∃ U, D.cU T1 = U := ⟨_, rfl⟩
  rw [hU1] at HG HC hB1
  have hBw : B ≤ w1.heap.size := by omega
  clear hw1 hgx hn hr hG hn1 hU1 hB1'
  by_cases h1 : F 4 = work
  · subst h1
    by_cases h2 : F 3 = 1
    · have HP : Hid (Go.Proofs.Ytedcgfcmhaeldaa.B.ofPol (F 4) (F, M) = false) := Lib.hid (by simp [Go.Proofs.Ytedcgfcmhaeldaa.B.ofPol, h2])
      have H2 := Lib.hid h2
      clear h2
      go_enter Try.func50, Try.ntmps50
      go_wp2_with fail
      rw [HW.out, ← HGX.out]
      refine wp_fam (n := 12) (size := 45) (D := [6, 7, 8, 9, 10, 11, 12, 13, 14, 15, 16, 17]) [(6, isV (.pointer (some ⟨gx, 4, none⟩))), (7, isV (.int .i64 (F 4))), (8, isV (.pointer (some ⟨p, 0, none⟩))), (9, isV (.pointer (some ⟨p, 0, none⟩))), (10, isV (.pointer (some ⟨p, 0, none⟩))), (11, isV (.int .i64 (F 4))), (12, isV (.bool false)), (13, isV (.bool false)), (14, isV (.pointer (some ⟨gx, 3, none⟩))), (15, isV (.int .i64 (F 3))), (16, isV (.bool true)), (17, isV (.bool true))] (by kernel_rfl) (by rfl) (by kernel_rfl) ?_ ?_
      · simp only [List.take_succ_cons, List.take_zero, famAll]
        repeat' apply And.intro
        · intro f V hg hl
          simp [Oper.looksAt, Op.operands, Call.operands, famAt, famOf, isV] at hl
          simp [famWants, boolIs_bool, boolIs_undef, execOp, rho, go_sem, hl, famUpon, famOf, isV, Grows.refl]
        · intro f V hg hl
          obtain ⟨c0, c1, c2, c3, c4, c5, c6, c7, c8, c9, c10, c11, c12, c13⟩ := HE.out V hg
          simp [Oper.looksAt, Op.operands, Call.operands, famAt, famOf, isV] at hl
          simp [famWants, boolIs_bool, boolIs_undef, execOp, rho, go_sem, hl, c0, c1, c2, c3, c4, c5, c6, c7, c8, c9, c10, c11, c12, c13, famUpon, famOf, isV, Grows.refl]
        · intro f V hg hl
          simp [Oper.looksAt, Op.operands, Call.operands, famAt, famOf, isV] at hl
          simp [famWants, boolIs_bool, boolIs_undef, execOp, rho, go_sem, hl, famUpon, famOf, isV, Grows.refl]
        · intro f V hg hl
          simp [Oper.looksAt, Op.operands, Call.operands, famAt, famOf, isV] at hl
          simp [famWants, boolIs_bool, boolIs_undef, execOp, rho, go_sem, hl, famUpon, famOf, isV, Grows.refl]
        · intro f V hg hl
          simp [Oper.looksAt, Op.operands, Call.operands, famAt, famOf, isV] at hl
          simp [famWants, boolIs_bool, boolIs_undef, execOp, rho, go_sem, hl, famUpon, famOf, isV, Grows.refl]
        · intro f V hg hl
          obtain ⟨g0, g1, g2, g3, g4, g5, g6, g7, g8, g9⟩ := HG.out V hg
          simp [Oper.looksAt, Op.operands, Call.operands, famAt, famOf, isV] at hl
          simp [famWants, boolIs_bool, boolIs_undef, execOp, rho, go_sem, hl, g0, g1, g2, g3, g4, g5, g6, g7, g8, g9, famUpon, famOf, isV, Grows.refl]
        · intro f V hg hl
          simp [Oper.looksAt, Op.operands, Call.operands, famAt, famOf, isV] at hl
          simp [famWants, boolIs_bool, boolIs_undef, execOp, rho, go_sem, hl, famUpon, famOf, isV, Grows.refl]
        · intro f V hg hl
          simp [Oper.looksAt, Op.operands, Call.operands, famAt, famOf, isV] at hl
          simp [famWants, boolIs_bool, boolIs_undef, execOp, rho, go_sem, hl, famUpon, famOf, isV, Grows.refl]
        · intro f V hg hl
          simp [Oper.looksAt, Op.operands, Call.operands, famAt, famOf, isV] at hl
          simp [famWants, boolIs_bool, boolIs_undef, execOp, rho, go_sem, hl, famUpon, famOf, isV, Grows.refl]
        · intro f V hg hl
          obtain ⟨c0, c1, c2, c3, c4, c5, c6, c7, c8, c9, c10, c11, c12, c13⟩ := HE.out V hg
          simp [Oper.looksAt, Op.operands, Call.operands, famAt, famOf, isV] at hl
          simp [famWants, boolIs_bool, boolIs_undef, execOp, rho, go_sem, hl, c0, c1, c2, c3, c4, c5, c6, c7, c8, c9, c10, c11, c12, c13, famUpon, famOf, isV, Grows.refl]
        · intro f V hg hl
          simp [Oper.looksAt, Op.operands, Call.operands, famAt, famOf, isV] at hl
          simp [famWants, boolIs_bool, boolIs_undef, execOp, rho, go_sem, hl, H2.out, famUpon, famOf, isV, Grows.refl]
        · intro f V hg hl
          simp [Oper.looksAt, Op.operands, Call.operands, famAt, famOf, isV] at hl
          simp [famWants, boolIs_bool, boolIs_undef, execOp, rho, go_sem, hl, famUpon, famOf, isV, Grows.refl]
        · trivial
      · intro u V hg hu
        have e17 : u 17 = .bool true := hu 17 (by decide)
        simp only [List.drop_succ_cons, List.drop_zero, fill, Act.put, List.setIfInBounds_toArray, List.set_cons_zero, List.set_cons_succ, e17]
        refine wpList_nil ?_
        clear hu e17
        go_wp2
        go_end0
        refine ⟨rfl, ?_, hb01.trans (Below.mono hg hBw), fun x hx => (Below.block hg x (Nat.lt_of_lt_of_le hx.lt hs1)).trans (hd1 x hx)⟩
        refine Grd.congr (Grd.new (W := w1) ⟨hp, T1, A1, c1, hT1, by have := HB10.out; exact this, hR1⟩ hg) fun x _ => ?_
        simp [addE', HP.out]
    · have HP : Hid (Go.Proofs.Ytedcgfcmhaeldaa.B.ofPol (F 4) (F, M) = true) := Lib.hid (by simp [Go.Proofs.Ytedcgfcmhaeldaa.B.ofPol, h2])
      go_enter Try.func50, Try.ntmps50
      go_wp2_with fail
      rw [HW.out, ← HGX.out]
      refine wp_fam (n := 12) (size := 45) (D := [6, 7, 8, 9, 10, 11, 12, 13, 14, 15, 16, 17]) [(6, isV (.pointer (some ⟨gx, 4, none⟩))), (7, isV (.int .i64 (F 4))), (8, isV (.pointer (some ⟨p, 0, none⟩))), (9, isV (.pointer (some ⟨p, 0, none⟩))), (10, isV (.pointer (some ⟨p, 0, none⟩))), (11, isV (.int .i64 (F 4))), (12, isV (.bool false)), (13, isV (.bool false)), (14, isV (.pointer (some ⟨gx, 3, none⟩))), (15, isV (.int .i64 (F 3))), (16, isV (.bool false)), (17, isV (.bool false))] (by kernel_rfl) (by rfl) (by kernel_rfl) ?_ ?_
      · simp only [List.take_succ_cons, List.take_zero, famAll]
        repeat' apply And.intro
        · intro f V hg hl
          simp [Oper.looksAt, Op.operands, Call.operands, famAt, famOf, isV] at hl
          simp [famWants, boolIs_bool, boolIs_undef, execOp, rho, go_sem, hl, famUpon, famOf, isV, Grows.refl]
        · intro f V hg hl
          obtain ⟨c0, c1, c2, c3, c4, c5, c6, c7, c8, c9, c10, c11, c12, c13⟩ := HE.out V hg
          simp [Oper.looksAt, Op.operands, Call.operands, famAt, famOf, isV] at hl
          simp [famWants, boolIs_bool, boolIs_undef, execOp, rho, go_sem, hl, c0, c1, c2, c3, c4, c5, c6, c7, c8, c9, c10, c11, c12, c13, famUpon, famOf, isV, Grows.refl]
        · intro f V hg hl
          simp [Oper.looksAt, Op.operands, Call.operands, famAt, famOf, isV] at hl
          simp [famWants, boolIs_bool, boolIs_undef, execOp, rho, go_sem, hl, famUpon, famOf, isV, Grows.refl]
        · intro f V hg hl
          simp [Oper.looksAt, Op.operands, Call.operands, famAt, famOf, isV] at hl
          simp [famWants, boolIs_bool, boolIs_undef, execOp, rho, go_sem, hl, famUpon, famOf, isV, Grows.refl]
        · intro f V hg hl
          simp [Oper.looksAt, Op.operands, Call.operands, famAt, famOf, isV] at hl
          simp [famWants, boolIs_bool, boolIs_undef, execOp, rho, go_sem, hl, famUpon, famOf, isV, Grows.refl]
        · intro f V hg hl
          obtain ⟨g0, g1, g2, g3, g4, g5, g6, g7, g8, g9⟩ := HG.out V hg
          simp [Oper.looksAt, Op.operands, Call.operands, famAt, famOf, isV] at hl
          simp [famWants, boolIs_bool, boolIs_undef, execOp, rho, go_sem, hl, g0, g1, g2, g3, g4, g5, g6, g7, g8, g9, famUpon, famOf, isV, Grows.refl]
        · intro f V hg hl
          simp [Oper.looksAt, Op.operands, Call.operands, famAt, famOf, isV] at hl
          simp [famWants, boolIs_bool, boolIs_undef, execOp, rho, go_sem, hl, famUpon, famOf, isV, Grows.refl]
        · intro f V hg hl
          simp [Oper.looksAt, Op.operands, Call.operands, famAt, famOf, isV] at hl
          simp [famWants, boolIs_bool, boolIs_undef, execOp, rho, go_sem, hl, famUpon, famOf, isV, Grows.refl]
        · intro f V hg hl
          simp [Oper.looksAt, Op.operands, Call.operands, famAt, famOf, isV] at hl
          simp [famWants, boolIs_bool, boolIs_undef, execOp, rho, go_sem, hl, famUpon, famOf, isV, Grows.refl]
        · intro f V hg hl
          obtain ⟨c0, c1, c2, c3, c4, c5, c6, c7, c8, c9, c10, c11, c12, c13⟩ := HE.out V hg
          simp [Oper.looksAt, Op.operands, Call.operands, famAt, famOf, isV] at hl
          simp [famWants, boolIs_bool, boolIs_undef, execOp, rho, go_sem, hl, c0, c1, c2, c3, c4, c5, c6, c7, c8, c9, c10, c11, c12, c13, famUpon, famOf, isV, Grows.refl]
        · intro f V hg hl
          simp [Oper.looksAt, Op.operands, Call.operands, famAt, famOf, isV] at hl
          simp [famWants, boolIs_bool, boolIs_undef, execOp, rho, go_sem, hl, h2, famUpon, famOf, isV, Grows.refl]
        · intro f V hg hl
          simp [Oper.looksAt, Op.operands, Call.operands, famAt, famOf, isV] at hl
          simp [famWants, boolIs_bool, boolIs_undef, execOp, rho, go_sem, hl, famUpon, famOf, isV, Grows.refl]
        · trivial
      · intro u V hg hu
        have e17 : u 17 = .bool false := hu 17 (by decide)
        simp only [List.drop_succ_cons, List.drop_zero, fill, Act.put, List.setIfInBounds_toArray, List.set_cons_zero, List.set_cons_succ, e17]
        refine wpList_nil ?_
        clear hu e17
        have HG : Hid (∀ V', Grows V V' → _) := Lib.hid (fun V' hV => HG.out V' (Grows.trans hg hV))
        have HE : Hid (∀ V', Grows V V' → _) := Lib.hid (fun V' hV => HE.out V' (Grows.trans hg hV))
        have HC : Hid (∀ V', Grows V V' → _) := Lib.hid (fun V' hV => HC.out V' (Grows.trans hg hV))
        go_wp2_with fail
        refine wp_fam (n := 10) (size := 45) (D := [18, 19, 20, 21, 22, 23, 24, 25, 26, 27]) [(18, isV (.pointer (some ⟨p, 0, none⟩))), (19, isV (.pointer (some ⟨p, 0, none⟩))), (20, isV (.pointer (some ⟨p, 0, none⟩))), (21, isV (.pointer (some ⟨p, 1, none⟩))), (22, isV (sv U1 A1 n1 c1)), (23, isV (.pointer (some ⟨gx, 0, none⟩))), (24, isV (.agg #[.int .i64 (F 0), .int .i64 (F 1)])), (25, withV V.heap.size (fun b => B ≤ b) T1 (F 0, F 1)), (26, isV (.pointer (some ⟨p, 0, none⟩))), (27, isV (.pointer (some ⟨p, 1, none⟩)))] (by kernel_rfl) (by rfl) (by kernel_rfl) ?_ ?_
        · simp only [List.take_succ_cons, List.take_zero, famAll]
          repeat' apply And.intro
          · intro f V hg hl
            simp [Oper.looksAt, Op.operands, Call.operands, famAt, famOf, isV] at hl
            simp [famWants, boolIs_bool, boolIs_undef, execOp, rho, go_sem, hl, famUpon, famOf, isV, Grows.refl]
          · intro f V hg hl
            simp [Oper.looksAt, Op.operands, Call.operands, famAt, famOf, isV] at hl
            simp [famWants, boolIs_bool, boolIs_undef, execOp, rho, go_sem, hl, famUpon, famOf, isV, Grows.refl]
          · intro f V hg hl
            simp [Oper.looksAt, Op.operands, Call.operands, famAt, famOf, isV] at hl
            simp [famWants, boolIs_bool, boolIs_undef, execOp, rho, go_sem, hl, famUpon, famOf, isV, Grows.refl]
          · intro f V hg hl
            simp [Oper.looksAt, Op.operands, Call.operands, famAt, famOf, isV] at hl
            simp [famWants, boolIs_bool, boolIs_undef, execOp, rho, go_sem, hl, famUpon, famOf, isV, Grows.refl]
          · intro f V hg hl
            obtain ⟨g0, g1, g2, g3, g4, g5, g6, g7, g8, g9⟩ := HG.out V hg
            simp [Oper.looksAt, Op.operands, Call.operands, famAt, famOf, isV] at hl
            simp [famWants, boolIs_bool, boolIs_undef, execOp, rho, go_sem, hl, g0, g1, g2, g3, g4, g5, g6, g7, g8, g9, famUpon, famOf, isV, Grows.refl]
          · intro f V hg hl
            simp [Oper.looksAt, Op.operands, Call.operands, famAt, famOf, isV] at hl
            simp [famWants, boolIs_bool, boolIs_undef, execOp, rho, go_sem, hl, famUpon, famOf, isV, Grows.refl]
          · intro f V hg hl
            obtain ⟨c0, c1, c2, c3, c4, c5, c6, c7, c8, c9, c10, c11, c12, c13⟩ := HE.out V hg
            simp [Oper.looksAt, Op.operands, Call.operands, famAt, famOf, isV] at hl
            simp [famWants, boolIs_bool, boolIs_undef, execOp, rho, go_sem, hl, c0, c1, c2, c3, c4, c5, c6, c7, c8, c9, c10, c11, c12, c13, famUpon, famOf, isV, Grows.refl]
          · intro f V hg hl
            simp [Oper.looksAt, Op.operands, Call.operands, famAt, famOf, isV] at hl
            simp [famWants, boolIs_bool, boolIs_undef, execOp, rho, go_sem, hl, famUpon, famOf, isV, Grows.refl]
            refine (HC.out V hg).mono ?_
            rintro e w'' ⟨T', A', c', rfl, hT', hR', hb'⟩
            exact ⟨_, rfl, hb', T', A', c', rfl, hT', hR'.mono fun x hx => hx.imp id fun hx => Nat.le_trans (Below.size hg) hx⟩
          · intro f V hg hl
            simp [Oper.looksAt, Op.operands, Call.operands, famAt, famOf, isV] at hl
            simp [famWants, boolIs_bool, boolIs_undef, execOp, rho, go_sem, hl, famUpon, famOf, isV, Grows.refl]
          · intro f V hg hl
            simp [Oper.looksAt, Op.operands, Call.operands, famAt, famOf, isV] at hl
            simp [famWants, boolIs_bool, boolIs_undef, execOp, rho, go_sem, hl, famUpon, famOf, isV, Grows.refl]
          · trivial
        · intro u V2 hg2 hu
          obtain ⟨T', A', c', e25, hT', hR'⟩ : ∃ T' A' c', u 25 = sv (D.cU T') A' (D.cM T').length c' ∧ (∀ x, D.may x = true → T' x = (T1 x || x == (F 0, F 1))) ∧ DRd V2 (fun b => B ≤ b ∨ V.heap.size ≤ b) A' (D.cM T') := hu 25 (by decide)
          have e27 : u 27 = .pointer (some ⟨p, 1, none⟩) := hu 27 (by decide)
          simp only [List.drop_succ_cons, List.drop_zero, fill, Act.put, List.setIfInBounds_toArray, List.set_cons_zero, List.set_cons_succ, e25, e27]
          have hg12 := Grows.trans hg hg2
          have hBV := hB1.new hg12
          have hXV := hX1.new hg12
          have hrV := hr1.new hg12
          have hbV : Below B w V2 := hb01.trans (Below.mono hg12 hBw)
          have hdV : ∀ x, DB w x → V2.heap[x]? = w.heap[x]? := fun x hx => (Below.block hg12 x (Nat.lt_of_lt_of_le hx.lt hs1)).trans (hd1 x hx)
          have hVs : B ≤ V.heap.size := Nat.le_trans hBw (Below.size hg)
          clear hu e25 e27 HG HE HC
          go_wp2_with (refine wpList_setg _ rfl _ _ rfl p rfl U1 (D.cU T') A1 A' n1 c1 (D.cM T').length c' (F 4) rfl hBV ?_)
          intro w4 hB4 hg4
          have hG4 := Grd.put (T := T1) (d := (F 0, F 1)) hp hBV hB4 hg4 hT' (hR'.mono fun b hb => hb.elim id fun h => Nat.le_trans hVs h)
          have hX4 := hXV.grown hg4 (fun e => by injection e with e; exact hgxp e)
          have hr4 := hrV.grown hg4 (fun b hb _ e => by injection e with e; have := hS b hb; omega)
          have hb4 : Below B w w4 := hbV.trans ⟨hg4.os, hg4.tape, hg4.output, hg4.size, fun i hi => hg4.block i (by have := hbV.size; have := hb01.size; omega) (fun e => by injection e with e; omega)⟩
          have hd4 : ∀ x, DB w x → w4.heap[x]? = w.heap[x]? := fun x hx => by
            have hx2 : DB V2 x := hx.keep (hdV x hx)
            exact (hg4.block x hx2.lt (fun e => hx2.blo hBV (by decide) (by injection e))).trans (hdV x hx)
          have hG4' : Grd w4 B p (F 4) (addL T (F 0, F 1) (M.take 0)) := hG4.congr fun x hx => by rw [hT1 x hx]; simp [addL]
          have y13 : w4.cell? ⟨gx, 13, none⟩ = some (.slice A n c) := by simpa using hX4.cell 13
          clear hG4 hB4 hg4 hBV hXV hrV hbV hdV hT' hR' hg12 hg hg2
          go_wp2_with fail
          clear y13
          go_loopw [31] (fun iv wr => ∃ i : Nat, iv = .int .i64 i ∧ i ≤ n ∧ Grd wr B p (F 4) (addL T (F 0, F 1) (M.take i)) ∧ Rds wr S A (dvs M) ∧ Below B w wr ∧ (∀ x, DB w x → wr.heap[x]? = w.heap[x]?)) (fun iv _ => n - (intOf iv).toNat)
          case atStart => exact ⟨0, rfl, by omega, hG4', hr4, hb4, hd4⟩
          case round =>
            obtain ⟨i, rfl, hi, hGi, hri, hbi, hdi⟩ := hrel
            by_cases hlt : i < n
            · have hlt' : i < M.length := by rw [HN.out]; exact hlt
              obtain ⟨xd, rfl, _, y0, y1⟩ := hri.dot hlt'
              obtain ⟨dd, hdd⟩ : ∃ d, d = M[i] := ⟨_, rfl⟩
              rw [← hdd] at y0 y1
              have HTK : Hid (M.take (i + 1) = M.take i ++ [dd]) := Lib.hid (by rw [List.take_succ_eq_append_getElem hlt', ← hdd])
              obtain ⟨d1, d2⟩ := dd
              simp only at y0 y1
              obtain ⟨gd, hgd⟩ : ∃ q, q = wr.heap.size := ⟨_, rfl⟩
              obtain ⟨w5, hw5⟩ : ∃ W, wr.alloc (.cells #[.int .i64 d1, .int .i64 d2] 39) = W := ⟨_, rfl⟩
              have hb5 : Below wr.heap.size wr w5 := by rw [← hw5]; exact b_alloc _ _
              have hD5 : Blo w5 gd 39 #[.int .i64 d1, .int .i64 d2] := by rw [← hw5, hgd]; exact Blo.made _ _ _
              obtain ⟨_, T5, A5, c5, hT5, hB5, hR5⟩ := hGi.new hb5
              obtain ⟨n5, hn5⟩ : ∃ k, (D.cM T5).length = k := ⟨_, rfl⟩
              rw [hn5] at hB5
              have hr5 := hri.new hb5
              have hBi : B ≤ wr.heap.size := by have := hbi.size; omega
              have hb05 : Below B w w5 := hbi.trans (hb5.mono hBi)
              have hBw5 : B ≤ w5.heap.size := Nat.le_trans hBi hb5.size
              have hd05 : ∀ x, DB w x → w5.heap[x]? = w.heap[x]? := fun x hx => (hb5.block x ((hx.keep (hdi x hx)).lt)).trans (hdi x hx)
              have HC : Hid (∀ V, Grows w5 V → Calls Try.prog 66 #[sv (D.cU T5) A5 n5 c5, .agg #[.int .i64 d1, .int .i64 d2]] V (WithP (fun b => B ≤ b) T5 (d1, d2) V)) := Lib.hid (fun V hV => with_any _ T5 A5 n5 c5 d1 d2 V hn5 (hR5.new hV))
              obtain ⟨U5, hU5⟩ : ∃ U, D.cU T5 = U := ⟨_, rfl⟩
              rw [hU5] at HC hB5
              have HG : Hid (∀ V, Grows w5 V → _) := Lib.hid (fun V hV => set10 (hB5.new hV))
              have HDD : Hid (∀ V, Grows w5 V → V.cell? ⟨gd, 0, none⟩ = some (.int .i64 d1) ∧ V.cell? ⟨gd, 1, none⟩ = some (.int .i64 d2)) := Lib.hid (fun V hV => ⟨by simpa using (hD5.new hV).cell 0, by simpa using (hD5.new hV).cell 1⟩)
              have HW5 := Lib.hid hw5
              have HGD := Lib.hid hgd
              clear hw5 hgd hdd hU5 hn5 hGi hri hbi hdi hb5 hD5 hR5
              go_wp2_with fail
              rw [HW5.out, ← HGD.out]
              refine wp_fam (n := 9) (size := 45) (D := [35, 36, 37, 38, 39, 40, 41, 42, 43]) [(35, isV (.pointer (some ⟨p, 0, none⟩))), (36, isV (.pointer (some ⟨p, 0, none⟩))), (37, isV (.pointer (some ⟨p, 0, none⟩))), (38, isV (.pointer (some ⟨p, 1, none⟩))), (39, isV (sv U5 A5 n5 c5)), (40, isV (.agg #[.int .i64 d1, .int .i64 d2])), (41, withV w5.heap.size (fun b => B ≤ b) T5 (d1, d2)), (42, isV (.pointer (some ⟨p, 0, none⟩))), (43, isV (.pointer (some ⟨p, 1, none⟩)))] (by kernel_rfl) (by rfl) (by kernel_rfl) ?_ ?_
              · simp only [List.take_succ_cons, List.take_zero, famAll]
                repeat' apply And.intro
                · intro f V hg hl
                  simp [Oper.looksAt, Op.operands, Call.operands, famAt, famOf, isV] at hl
                  simp [famWants, boolIs_bool, boolIs_undef, execOp, rho, go_sem, hl, famUpon, famOf, isV, Grows.refl]
                · intro f V hg hl
                  simp [Oper.looksAt, Op.operands, Call.operands, famAt, famOf, isV] at hl
                  simp [famWants, boolIs_bool, boolIs_undef, execOp, rho, go_sem, hl, famUpon, famOf, isV, Grows.refl]
                · intro f V hg hl
                  simp [Oper.looksAt, Op.operands, Call.operands, famAt, famOf, isV] at hl
                  simp [famWants, boolIs_bool, boolIs_undef, execOp, rho, go_sem, hl, famUpon, famOf, isV, Grows.refl]
                · intro f V hg hl
                  simp [Oper.looksAt, Op.operands, Call.operands, famAt, famOf, isV] at hl
                  simp [famWants, boolIs_bool, boolIs_undef, execOp, rho, go_sem, hl, famUpon, famOf, isV, Grows.refl]
                · intro f V hg hl
                  obtain ⟨g0, g1, g2, g3, g4, g5, g6, g7, g8, g9⟩ := HG.out V hg
                  simp [Oper.looksAt, Op.operands, Call.operands, famAt, famOf, isV] at hl
                  simp [famWants, boolIs_bool, boolIs_undef, execOp, rho, go_sem, hl, g0, g1, g2, g3, g4, g5, g6, g7, g8, g9, famUpon, famOf, isV, Grows.refl]
                · intro f V hg hl
                  obtain ⟨q0, q1⟩ := HDD.out V hg
                  simp [Oper.looksAt, Op.operands, Call.operands, famAt, famOf, isV] at hl
                  simp [famWants, boolIs_bool, boolIs_undef, execOp, rho, go_sem, hl, q0, q1, famUpon, famOf, isV, Grows.refl]
                · intro f V hg hl
                  simp [Oper.looksAt, Op.operands, Call.operands, famAt, famOf, isV] at hl
                  simp [famWants, boolIs_bool, boolIs_undef, execOp, rho, go_sem, hl, famUpon, famOf, isV, Grows.refl]
                  refine (HC.out V hg).mono ?_
                  rintro e w'' ⟨T', A', c', rfl, hT', hR', hb'⟩
                  exact ⟨_, rfl, hb', T', A', c', rfl, hT', hR'.mono fun x hx => hx.imp id fun hx => Nat.le_trans (Below.size hg) hx⟩
                · intro f V hg hl
                  simp [Oper.looksAt, Op.operands, Call.operands, famAt, famOf, isV] at hl
                  simp [famWants, boolIs_bool, boolIs_undef, execOp, rho, go_sem, hl, famUpon, famOf, isV, Grows.refl]
                · intro f V hg hl
                  simp [Oper.looksAt, Op.operands, Call.operands, famAt, famOf, isV] at hl
                  simp [famWants, boolIs_bool, boolIs_undef, execOp, rho, go_sem, hl, famUpon, famOf, isV, Grows.refl]
                · trivial
              · intro u V hg hu
                obtain ⟨T', A', c', e41, hT', hR'⟩ : ∃ T' A' c', u 41 = sv (D.cU T') A' (D.cM T').length c' ∧ (∀ x, D.may x = true → T' x = (T5 x || x == (d1, d2))) ∧ DRd V (fun b => B ≤ b ∨ w5.heap.size ≤ b) A' (D.cM T') := hu 41 (by decide)
                have e43 : u 43 = .pointer (some ⟨p, 1, none⟩) := hu 43 (by decide)
                simp only [List.drop_succ_cons, List.drop_zero, fill, Act.put, List.setIfInBounds_toArray, List.set_cons_zero, List.set_cons_succ, e41, e43]
                have hBV := hB5.new hg
                have hrV := hr5.new hg
                have hbV : Below B w V := hb05.trans (Below.mono hg hBw5)
                have hdV : ∀ x, DB w x → V.heap[x]? = w.heap[x]? := fun x hx => (Below.block hg x ((hx.keep (hd05 x hx)).lt)).trans (hd05 x hx)
                clear hu e41 e43 HG HDD HC
                go_wp2_with (refine wpList_setg _ rfl _ _ rfl p rfl U5 (D.cU T') A5 A' n5 c5 (D.cM T').length c' (F 4) rfl hBV ?_)
                intro w7 hB7 hg7
                have hG7 := Grd.put (T := T5) (d := (d1, d2)) hp hBV hB7 hg7 hT' (hR'.mono fun b hb => hb.elim id fun h => Nat.le_trans hBw5 h)
                have hr7 := hrV.grown hg7 (fun b hb _ e => by injection e with e; have := hS b hb; omega)
                have hb7 : Below B w w7 := hbV.trans ⟨hg7.os, hg7.tape, hg7.output, hg7.size, fun i hi => hg7.block i (by have := hbV.size; have := hb01.size; omega) (fun e => by injection e with e; omega)⟩
                have hd7 : ∀ x, DB w x → w7.heap[x]? = w.heap[x]? := fun x hx => by
                  have hx2 : DB V x := hx.keep (hdV x hx)
                  exact (hg7.block x hx2.lt (fun e => hx2.blo hBV (by decide) (by injection e))).trans (hdV x hx)
                have hG7' : Grd w7 B p (F 4) (addL T (F 0, F 1) (M.take (i + 1))) := hG7.congr fun x hx => by rw [hT5 x hx, HTK.out]; simp [addL, dot_beq, Bool.or_assoc, Bool.decide_or]
                clear hG7 hB7 hg7 hBV hrV hbV hdV hT' hR' hg
                go_wp2
                go_roundw
                case rel => exact ⟨i + 1, by go_num, by omega, hG7', hr7, hb7, hd7⟩
                case measure => simp [intOf]; omega
            · have hMt : M.take i = M := List.take_of_length_le (by rw [HN.out]; omega)
              rw [hMt] at hGi
              go_wp2
              go_end0
              refine ⟨rfl, hGi.congr fun x _ => ?_, hbi, hdi⟩
              rw [Bool.eq_iff_iff]
              simp [addL, addE', HP.out, Go.Proofs.Ytedcgfcmhaeldaa.B.dotOf, or_assoc]
              exact or_congr Iff.rfl (or_congr ⟨fun h => decide_eq_true h, fun h => of_decide_eq_true h⟩ Iff.rfl)
  · have HP : Hid (Go.Proofs.Ytedcgfcmhaeldaa.B.ofPol work (F, M) = false) := Lib.hid (by simp [Go.Proofs.Ytedcgfcmhaeldaa.B.ofPol, h1])
    go_enter Try.func50, Try.ntmps50
    go_wp2_with fail
    rw [HW.out, ← HGX.out]
    refine wp_fam (n := 12) (size := 45) (D := [6, 7, 8, 9, 10, 11, 12, 13, 14, 15, 16, 17]) [(6, isV (.pointer (some ⟨gx, 4, none⟩))), (7, isV (.int .i64 (F 4))), (8, isV (.pointer (some ⟨p, 0, none⟩))), (9, isV (.pointer (some ⟨p, 0, none⟩))), (10, isV (.pointer (some ⟨p, 0, none⟩))), (11, isV (.int .i64 work)), (12, isV (.bool true)), (13, isV (.bool true)), (14, isV undef), (15, isV undef), (16, isV undef), (17, isV (.bool true))] (by kernel_rfl) (by rfl) (by kernel_rfl) ?_ ?_
    · simp only [List.take_succ_cons, List.take_zero, famAll]
      repeat' apply And.intro
      · intro f V hg hl
        simp [Oper.looksAt, Op.operands, Call.operands, famAt, famOf, isV] at hl
        simp [famWants, boolIs_bool, boolIs_undef, execOp, rho, go_sem, hl, famUpon, famOf, isV, Grows.refl]
      · intro f V hg hl
        obtain ⟨c0, c1, c2, c3, c4, c5, c6, c7, c8, c9, c10, c11, c12, c13⟩ := HE.out V hg
        simp [Oper.looksAt, Op.operands, Call.operands, famAt, famOf, isV] at hl
        simp [famWants, boolIs_bool, boolIs_undef, execOp, rho, go_sem, hl, c0, c1, c2, c3, c4, c5, c6, c7, c8, c9, c10, c11, c12, c13, famUpon, famOf, isV, Grows.refl]
      · intro f V hg hl
        simp [Oper.looksAt, Op.operands, Call.operands, famAt, famOf, isV] at hl
        simp [famWants, boolIs_bool, boolIs_undef, execOp, rho, go_sem, hl, famUpon, famOf, isV, Grows.refl]
      · intro f V hg hl
        simp [Oper.looksAt, Op.operands, Call.operands, famAt, famOf, isV] at hl
        simp [famWants, boolIs_bool, boolIs_undef, execOp, rho, go_sem, hl, famUpon, famOf, isV, Grows.refl]
      · intro f V hg hl
        simp [Oper.looksAt, Op.operands, Call.operands, famAt, famOf, isV] at hl
        simp [famWants, boolIs_bool, boolIs_undef, execOp, rho, go_sem, hl, famUpon, famOf, isV, Grows.refl]
      · intro f V hg hl
        obtain ⟨g0, g1, g2, g3, g4, g5, g6, g7, g8, g9⟩ := HG.out V hg
        simp [Oper.looksAt, Op.operands, Call.operands, famAt, famOf, isV] at hl
        simp [famWants, boolIs_bool, boolIs_undef, execOp, rho, go_sem, hl, g0, g1, g2, g3, g4, g5, g6, g7, g8, g9, famUpon, famOf, isV, Grows.refl]
      · intro f V hg hl
        simp [Oper.looksAt, Op.operands, Call.operands, famAt, famOf, isV] at hl
        simp [famWants, boolIs_bool, boolIs_undef, execOp, rho, go_sem, hl, h1, famUpon, famOf, isV, Grows.refl]
      · intro f V hg hl
        simp [Oper.looksAt, Op.operands, Call.operands, famAt, famOf, isV] at hl
        simp [famWants, boolIs_bool, boolIs_undef, execOp, rho, go_sem, hl, famUpon, famOf, isV, Grows.refl]
      · intro f V hg hl
        simp [Oper.looksAt, Op.operands, Call.operands, famAt, famOf, isV] at hl
        simp [famWants, boolIs_bool, boolIs_undef, execOp, rho, go_sem, hl, famUpon, famOf, isV, Grows.refl]
      · intro f V hg hl
        simp [Oper.looksAt, Op.operands, Call.operands, famAt, famOf, isV] at hl
        simp [famWants, boolIs_bool, boolIs_undef, execOp, rho, go_sem, hl, famUpon, famOf, isV, Grows.refl]
      · intro f V hg hl
        simp [Oper.looksAt, Op.operands, Call.operands, famAt, famOf, isV] at hl
        simp [famWants, boolIs_bool, boolIs_undef, execOp, rho, go_sem, hl, famUpon, famOf, isV, Grows.refl]
      · intro f V hg hl
        simp [Oper.looksAt, Op.operands, Call.operands, famAt, famOf, isV] at hl
        simp [famWants, boolIs_bool, boolIs_undef, execOp, rho, go_sem, hl, famUpon, famOf, isV, Grows.refl]
      · trivial
    · intro u V hg hu
      have e17 : u 17 = .bool true := hu 17 (by decide)
      simp only [List.drop_succ_cons, List.drop_zero, fill, Act.put, List.setIfInBounds_toArray, List.set_cons_zero, List.set_cons_succ, e17]
      refine wpList_nil ?_
      clear hu e17
      go_wp2
      go_end0
      refine ⟨rfl, ?_, hb01.trans (Below.mono hg hBw), fun x hx => (Below.block hg x (Nat.lt_of_lt_of_le hx.lt hs1)).trans (hd1 x hx)⟩
      refine Grd.congr (Grd.new (W := w1) ⟨hp, T1, A1, c1, hT1, by have := HB10.out; exact this, hR1⟩ hg) fun x _ => ?_
      simp [addE', HP.out]
def anyL (work : Int) (l : List E.Ev) : D.Dot → Bool := fun x => l.any fun e => B.ofPol work e && (decide (x = B.dotOf e) || decide (x ∈ e.2))
def GrdJ (B p : Nat) (work : Int) (l : List E.Ev) (W : World) : Prop := Grd W B p work (anyL work l)
theorem hand_g (B p : Nat) (work : Int) : Hand 50 B p (GrdJ B p work) where
  new := fun h hb => h.new hb
  call := fun l e W h hr hm hl => by
    refine (gtake_any (fun b => b < B) e.F e.A e.M.length e.c e.M W h rfl hr (fun b hb => hb) hm).mono ?_
    rintro r W' ⟨rfl, h3, h5, h6⟩
    refine ⟨rfl, h3.congr fun x _ => ?_, h5, h6⟩
    simp [addE', anyL]
end Go.Proofs.Ytedcgfcmhaeldaa
