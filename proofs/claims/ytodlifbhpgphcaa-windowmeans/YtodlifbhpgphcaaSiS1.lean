/- Layer 10, the library: swapRange of places. -/
import Derived.Test.YtodlifbhpgphcaaSiEx
import Derived.Test.YtodlifbhpgphcaaPolMath3
import Derived.Test.YtodlifbhpgphcaaSiP1
namespace Go.Proofs.Ytodlifbhpgphcaa
set_option linter.unusedVariables false
set_option linter.unusedSimpArgs false
open Go.ChangeShapes Go.WideShapes Go.ChangeAt Go.RowKit

/-- A call turns one row alone. -/
def RowP {q : Nat} (g : Nat) (w : World) (R : List (Fin q) → Prop) (e : Ending) (w' : World) : Prop := e = .returned (.tuple #[]) ∧ ∃ l', SRow w' g l' ∧ R l' ∧ w.grownBy w' (some g)
set_option maxRecDepth 100000 in
set_option maxHeartbeats 8000000 in
theorem swaprange_any {q : Nat} (g N c a b n : Nat) (cv : Value) (l0 : List (Fin q)) (w : World) (hN : l0.length = N) (hs : SRow w g l0) (h1 : a + n ≤ b) (h2 : b + n ≤ N) (hl : N ≤ 1000000) :
    Calls Try.prog 43 #[.slice (some ⟨g, 0, none⟩) N c, .int .i64 (a : Int), .int .i64 (b : Int), .int .i64 (n : Int), cv] w (RowP g w fun l' => P.Swd l0 l' a b n) := by
  have HB0 : Hid (P.Swp l0 l0 a b n 0) := Lib.hid (P.Swp.start h1 (by omega))
  have HN := Lib.hid hN
  clear hN
  go_enter Try.func43, Try.ntmps43
  go_wp2_with fail
  go_loopw [10] (fun iv wr => ∃ (i : Nat) (l : List (Fin q)), iv = .int .i64 i ∧ Hid (P.Swp l0 l a b n i) ∧ SRow wr g l ∧ w.grownBy wr (some g)) (fun iv _ => n - (intOf iv).toNat)
  case atStart => exact ⟨0, l0, rfl, HB0, hs, World.grownBy.refl _ _⟩
  case round =>
    clear hs HB0
    obtain ⟨i, l, rfl, HB, hS, hg⟩ := hrel
    have HBd := Lib.hid HB.out.bd
    have hin : i ≤ n := HB.out.bd.1
    by_cases hlt : i < n
    · have HI : Hid (a + i < l.length) := Lib.hid (by have := HBd.out; rw [this.2.2.2, HN.out]; omega)
      have HJ : Hid (b + i < l.length) := Lib.hid (by have := HBd.out; rw [this.2.2.2, HN.out]; omega)
      obtain ⟨x, hx⟩ : ∃ x, x = l[a + i] := ⟨_, rfl⟩
      obtain ⟨y, hy⟩ : ∃ y, y = l[b + i] := ⟨_, rfl⟩
      have HXX := Lib.hid hx
      have HYY := Lib.hid hy
      have HIJ : Hid ((a + i) ≠ (b + i)) := Lib.hid (by omega)
      have HLx : Hid (∀ W, SRow W g l → RvAt W ⟨g, (a + i), none⟩ x) := Lib.hid (fun W h => by rw [hx]; exact h.at HI.out)
      have HLy : Hid (∀ W, SRow W g l → RvAt W ⟨g, (b + i), none⟩ y) := Lib.hid (fun W h => by rw [hy]; exact h.at HJ.out)
      have HSc : Hid (∀ W (m : List (Fin q)), SRow W g m → m.length = l.length → ∃ W2, (Instr.storeAt 3 (.pointer (some ⟨g, (a + i), none⟩)) (vI y)).run Try.prog W = .ok () W2 ∧ SRow W2 g (m.set (a + i) y) ∧ W.grownBy W2 (some g)) := Lib.hid (fun W m h hm => run_setr W g m h _ (by rw [hm]; exact HI.out) y)
      have HSd : Hid (∀ W (m : List (Fin q)), SRow W g m → m.length = l.length → ∃ W2, (Instr.storeAt 3 (.pointer (some ⟨g, (b + i), none⟩)) (vI x)).run Try.prog W = .ok () W2 ∧ SRow W2 g (m.set (b + i) x) ∧ W.grownBy W2 (some g)) := Lib.hid (fun W m h hm => run_setr W g m h _ (by rw [hm]; exact HJ.out) x)
      have HX0 : Hid (∀ ft, ExX wr g l (a + i) (b + i) x y 21 23 (fun _ => false)  ft wr) := Lib.hid (fun ft => ⟨World.grownBy.refl _ _, by simpa [exL] using hS⟩)
      clear hx hy
      have ea : IntKind.i64.wrap ((a : Int) + (i : Int)) = ((a + i : Nat) : Int) := by rw [IntWalk.i64_in _ (by omega)]; simp
      have eb : IntKind.i64.wrap ((b : Int) + (i : Int)) = ((b + i : Nat) : Int) := by rw [IntWalk.i64_in _ (by omega)]; simp
      have ha0 : 0 ≤ (a : Int) + (i : Int) ∧ (a : Int) + (i : Int) < (N : Int) := by omega
      have hb0 : 0 ≤ (b : Int) + (i : Int) ∧ (b : Int) + (i : Int) < (N : Int) := by omega
      have haN : ((a : Int) + (i : Int)).toNat = a + i := by omega
      have hbN : ((b : Int) + (i : Int)).toNat = b + i := by omega
      go_wp2_with fail
      refine wp_famY (size := 38) (D := [16, 17, 18, 19, 20, 21, 22, 23, 24, 25, 26, 27, 28, 29, 30, 31, 32, 33, 34, 35, 36, 37]) [13, 19, 21, 23] [] [(16, isV (.slice (some ⟨g, 0, none⟩) N c)), (17, isV (.int .i64 ((a : Nat) : Int))), (18, isV (.int .i64 ((i : Nat) : Int))), (19, isV (.int .i64 ((a + i : Nat) : Int))), (20, isV (.slice (some ⟨g, 0, none⟩) N c)), (21, isV (.int .i64 ((b : Nat) : Int))), (22, isV (.int .i64 ((i : Nat) : Int))), (23, isV (.int .i64 ((b + i : Nat) : Int))), (24, isV (.slice (some ⟨g, 0, none⟩) N c)), (25, isV (.int .i64 ((b : Nat) : Int))), (26, isV (.int .i64 ((i : Nat) : Int))), (27, isV (.int .i64 ((b + i : Nat) : Int))), (28, isV (.pointer (some ⟨g, (b + i), none⟩))), (29, isV (vI y)), (30, isV (.slice (some ⟨g, 0, none⟩) N c)), (31, isV (.int .i64 ((a : Nat) : Int))), (32, isV (.int .i64 ((i : Nat) : Int))), (33, isV (.int .i64 ((a + i : Nat) : Int))), (34, isV (.pointer (some ⟨g, (a + i), none⟩))), (35, isV (vI x)), (36, isV (.pointer (some ⟨g, (a + i), none⟩))), (37, isV (.pointer (some ⟨g, (b + i), none⟩)))] (ExX wr g l (a + i) (b + i) x y 21 23) (ExX.up (by decide) (by decide)) (by kernel_rfl) (by rfl) (by kernel_rfl) (HX0.out _) ?_ ?_
      · simp only [famAllY]
        repeat' apply And.intro
        · rw [if_neg (by decide)]
          intro f W hl
          simp [Oper.looksAt, Op.operands, Call.operands, famAt, famOf, isV] at hl
          simp [famWants, boolIs_bool, boolIs_undef, execOp, rho, go_sem, hl, famUpon, famOf, isV, Grows.refl]
        · rw [if_neg (by decide)]
          intro f W hl
          simp [Oper.looksAt, Op.operands, Call.operands, famAt, famOf, isV] at hl
          simp [famWants, boolIs_bool, boolIs_undef, execOp, rho, go_sem, hl, famUpon, famOf, isV, Grows.refl]
        · rw [if_neg (by decide)]
          intro f W hl
          simp [Oper.looksAt, Op.operands, Call.operands, famAt, famOf, isV] at hl
          simp [famWants, boolIs_bool, boolIs_undef, execOp, rho, go_sem, hl, famUpon, famOf, isV, Grows.refl]
        · rw [if_neg (by decide)]
          intro f W hl
          simp [Oper.looksAt, Op.operands, Call.operands, famAt, famOf, isV] at hl
          simp [famWants, boolIs_bool, boolIs_undef, execOp, rho, go_sem, hl, ea, eb, famUpon, famOf, isV, Grows.refl]
        · rw [if_neg (by decide)]
          intro f W hl
          simp [Oper.looksAt, Op.operands, Call.operands, famAt, famOf, isV] at hl
          simp [famWants, boolIs_bool, boolIs_undef, execOp, rho, go_sem, hl, famUpon, famOf, isV, Grows.refl]
        · rw [if_neg (by decide)]
          intro f W hl
          simp [Oper.looksAt, Op.operands, Call.operands, famAt, famOf, isV] at hl
          simp [famWants, boolIs_bool, boolIs_undef, execOp, rho, go_sem, hl, famUpon, famOf, isV, Grows.refl]
        · rw [if_neg (by decide)]
          intro f W hl
          simp [Oper.looksAt, Op.operands, Call.operands, famAt, famOf, isV] at hl
          simp [famWants, boolIs_bool, boolIs_undef, execOp, rho, go_sem, hl, famUpon, famOf, isV, Grows.refl]
        · rw [if_neg (by decide)]
          intro f W hl
          simp [Oper.looksAt, Op.operands, Call.operands, famAt, famOf, isV] at hl
          simp [famWants, boolIs_bool, boolIs_undef, execOp, rho, go_sem, hl, ea, eb, famUpon, famOf, isV, Grows.refl]
        · rw [if_neg (by decide)]
          intro f W hl
          simp [Oper.looksAt, Op.operands, Call.operands, famAt, famOf, isV] at hl
          simp [famWants, boolIs_bool, boolIs_undef, execOp, rho, go_sem, hl, famUpon, famOf, isV, Grows.refl]
        · rw [if_neg (by decide)]
          intro f W hl
          simp [Oper.looksAt, Op.operands, Call.operands, famAt, famOf, isV] at hl
          simp [famWants, boolIs_bool, boolIs_undef, execOp, rho, go_sem, hl, famUpon, famOf, isV, Grows.refl]
        · rw [if_neg (by decide)]
          intro f W hl
          simp [Oper.looksAt, Op.operands, Call.operands, famAt, famOf, isV] at hl
          simp [famWants, boolIs_bool, boolIs_undef, execOp, rho, go_sem, hl, famUpon, famOf, isV, Grows.refl]
        · rw [if_neg (by decide)]
          intro f W hl
          simp [Oper.looksAt, Op.operands, Call.operands, famAt, famOf, isV] at hl
          simp [famWants, boolIs_bool, boolIs_undef, execOp, rho, go_sem, hl, ea, eb, famUpon, famOf, isV, Grows.refl]
        · rw [if_neg (by decide)]
          intro f W hl
          simp [Oper.looksAt, Op.operands, Call.operands, famAt, famOf, isV] at hl
          simp [famWants, boolIs_bool, boolIs_undef, execOp, rho, go_sem, hl, M.addMk, ha0, hb0, haN, hbN, famUpon, famOf, isV, Grows.refl]
        · rw [if_pos (by decide)]
          intro L f W hi hcl hwt hX hl
          simp [Oper.looksAt, Op.operands, Call.operands, famAt, famOf, isV] at hl
          have h21 : L 21 = false := by
            cases e : L 21 with
            | false => rfl
            | true => rw [hcl 21 13 (by kernel_rfl) e] at hi; cases hi
          have h23 : L 23 = false := by
            cases e : L 23 with
            | false => rfl
            | true => rw [hcl 23 13 (by kernel_rfl) e] at hi; cases hi
          have hld := run_loadr (HLy.out W (hX.before h21 h23))
          have hps := hX.pass (k := 13) (dst := some 29) (v := (vI y)) (by decide)
          refine ⟨fun _ => ?_, fun e => ?_⟩
          · unfold execOp
            simp only [rho, hl]
            simp only [Sem.run_bind, Sem.run_pure, hld, Result.andThen_ok, famUpon]
            exact ⟨fun d e => by injection e with e; subst e; simp [famOf, isV], hps⟩
          · simp [famWants] at e
        · rw [if_neg (by decide)]
          intro f W hl
          simp [Oper.looksAt, Op.operands, Call.operands, famAt, famOf, isV] at hl
          simp [famWants, boolIs_bool, boolIs_undef, execOp, rho, go_sem, hl, famUpon, famOf, isV, Grows.refl]
        · rw [if_neg (by decide)]
          intro f W hl
          simp [Oper.looksAt, Op.operands, Call.operands, famAt, famOf, isV] at hl
          simp [famWants, boolIs_bool, boolIs_undef, execOp, rho, go_sem, hl, famUpon, famOf, isV, Grows.refl]
        · rw [if_neg (by decide)]
          intro f W hl
          simp [Oper.looksAt, Op.operands, Call.operands, famAt, famOf, isV] at hl
          simp [famWants, boolIs_bool, boolIs_undef, execOp, rho, go_sem, hl, famUpon, famOf, isV, Grows.refl]
        · rw [if_neg (by decide)]
          intro f W hl
          simp [Oper.looksAt, Op.operands, Call.operands, famAt, famOf, isV] at hl
          simp [famWants, boolIs_bool, boolIs_undef, execOp, rho, go_sem, hl, ea, eb, famUpon, famOf, isV, Grows.refl]
        · rw [if_neg (by decide)]
          intro f W hl
          simp [Oper.looksAt, Op.operands, Call.operands, famAt, famOf, isV] at hl
          simp [famWants, boolIs_bool, boolIs_undef, execOp, rho, go_sem, hl, M.addMk, ha0, hb0, haN, hbN, famUpon, famOf, isV, Grows.refl]
        · rw [if_pos (by decide)]
          intro L f W hi hcl hwt hX hl
          simp [Oper.looksAt, Op.operands, Call.operands, famAt, famOf, isV] at hl
          have h21 : L 21 = false := by
            cases e : L 21 with
            | false => rfl
            | true => rw [hcl 21 19 (by kernel_rfl) e] at hi; cases hi
          have h23 : L 23 = false := by
            cases e : L 23 with
            | false => rfl
            | true => rw [hcl 23 19 (by kernel_rfl) e] at hi; cases hi
          have hld := run_loadr (HLx.out W (hX.before h21 h23))
          have hps := hX.pass (k := 19) (dst := some 35) (v := (vI x)) (by decide)
          refine ⟨fun _ => ?_, fun e => ?_⟩
          · unfold execOp
            simp only [rho, hl]
            simp only [Sem.run_bind, Sem.run_pure, hld, Result.andThen_ok, famUpon]
            exact ⟨fun d e => by injection e with e; subst e; simp [famOf, isV], hps⟩
          · simp [famWants] at e
        · rw [if_neg (by decide)]
          intro f W hl
          simp [Oper.looksAt, Op.operands, Call.operands, famAt, famOf, isV] at hl
          simp [famWants, boolIs_bool, boolIs_undef, execOp, rho, go_sem, hl, M.addMk, ha0, hb0, haN, hbN, famUpon, famOf, isV, Grows.refl]
        · rw [if_pos (by decide)]
          intro L f W hi hcl hwt hX hl
          simp [Oper.looksAt, Op.operands, Call.operands, famAt, famOf, isV] at hl
          obtain ⟨W2, hrun, hr, hg⟩ := HSc.out W _ hX.2 (exL_len _ _)
          refine ⟨fun _ => ?_, fun e => ?_⟩
          · unfold execOp
            simp only [rho, hl]
            simp only [Sem.run_bind, Sem.run_pure, hrun, Result.andThen_ok, famUpon]
            exact ⟨fun d e => (by cases e), hX.one (by decide) HIJ.out hi hr hg⟩
          · simp [famWants] at e
        · rw [if_neg (by decide)]
          intro f W hl
          simp [Oper.looksAt, Op.operands, Call.operands, famAt, famOf, isV] at hl
          simp [famWants, boolIs_bool, boolIs_undef, execOp, rho, go_sem, hl, M.addMk, ha0, hb0, haN, hbN, famUpon, famOf, isV, Grows.refl]
        · rw [if_pos (by decide)]
          intro L f W hi hcl hwt hX hl
          simp [Oper.looksAt, Op.operands, Call.operands, famAt, famOf, isV] at hl
          obtain ⟨W2, hrun, hr, hg⟩ := HSd.out W _ hX.2 (exL_len _ _)
          refine ⟨fun _ => ?_, fun e => ?_⟩
          · unfold execOp
            simp only [rho, hl]
            simp only [Sem.run_bind, Sem.run_pure, hrun, Result.andThen_ok, famUpon]
            exact ⟨fun d e => (by cases e), hX.two (by decide) hi hr hg⟩
          · simp [famWants] at e
        · trivial
      · intro L u W hL hX hu
        obtain ⟨hR, hG⟩ := hX.fin HI.out HJ.out HXX.out HYY.out (hL 21 (by decide)) (hL 23 (by decide))
        simp only [fill, Act.put, List.setIfInBounds_toArray, List.set_cons_zero, List.set_cons_succ]
        refine wpList_nil ?_
        have HB2 : Hid (P.Swp l0 (P.exch l (a + i) (b + i)) a b n (i + 1)) := Lib.hid (HB.out.step hlt)
        have hg2 := gb_trans hg hG
        clear hu hL hX HX0 hS hg hG
        go_wp2
        go_roundw
        case rel => exact ⟨i + 1, _, by go_num, HB2, hR, hg2⟩
        case measure => simp [intOf]; omega
    · have HF : Hid (P.Swd l0 l a b n) := Lib.hid (HB.out.fin hlt)
      go_wp2
      go_end0
      exact ⟨rfl, l, hS, HF.out, hg⟩
end Go.Proofs.Ytodlifbhpgphcaa
