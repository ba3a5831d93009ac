/- Layer 12, the library: one block of nodes in order, by insertion. -/
import Derived.Test.YtdgmbopdommnhaaSiEx
import Derived.Test.YtdgmbopdommnhaaPolMath3
import Derived.Test.YtdgmbopdommnhaaRkP1
namespace Go.Proofs.Ytdgmbopdommnhaa.Rk
set_option linter.unusedVariables false
set_option linter.unusedSimpArgs false
open Go.ChangeShapes Go.WideShapes Go.ChangeAt Go.RowKit

/-- A call turns one row alone. -/
def RowP {q : Nat} (g : Nat) (w : World) (R : List (Fin q) → Prop) (e : Ending) (w' : World) : Prop := e = .returned (.tuple #[]) ∧ ∃ l', SRow w' g l' ∧ R l' ∧ w.grownBy w' (some g)
set_option maxRecDepth 100000 in
set_option maxHeartbeats 8000000 in
theorem insertion_any (g N c a b0 : Nat) (p : Cap) (l0 : List (Fin p.n)) (w : World) (hN : l0.length = N) (hs : SRow w g l0) (hp : CmpAt w p) (hpg : p.off g) (h1 : a ≤ b0) (h2 : b0 ≤ N) (hl : N ≤ 1000000) :
    Calls Try.prog 31 #[.slice (some ⟨g, 0, none⟩) N c, .int .i64 (a : Int), .int .i64 (b0 : Int), cmpV p] w (RowP g w fun l' => P.Mg (ltI p) l0 l' a b0) := by
  have HN := Lib.hid hN
  have HO0 : Hid ((a < b0 → P.OutI (ltI p) l0 l0 a b0 (a + 1)) ∧ (¬ a < b0 → P.Mg (ltI p) l0 l0 a b0)) := Lib.hid ⟨fun h => P.OutI.start l0 h (by omega), fun h => P.Mg.self ⟨h1, by omega, fun i j _ _ _ => by omega⟩⟩
  clear hN
  go_enter Try.func31, Try.ntmps31
  go_wp2_with fail
  go_loopw [8] (fun iv wr => ∃ (i : Nat) (l : List (Fin p.n)), iv = .int .i64 i ∧ i ≤ 1000001 ∧ a < i ∧ Hid ((i ≤ b0 → P.OutI (ltI p) l0 l a b0 i) ∧ (¬ i ≤ b0 → P.Mg (ltI p) l0 l a b0)) ∧ SRow wr g l ∧ CmpAt wr p ∧ w.grownBy wr (some g)) (fun iv _ => b0 - (intOf iv).toNat)
  case atStart => exact ⟨a + 1, l0, by go_num, by omega, by omega, HO0, hs, hp, World.grownBy.refl _ _⟩
  case round =>
    clear hs HO0 hp
    obtain ⟨i, l1, rfl, hi, hai, HO, hS1, hP1, hg1⟩ := hrel
    by_cases hlt : i < b0
    · have HII : Hid (P.InI (ltI p) l0 l1 a b0 i i) := Lib.hid ((HO.out.1 (by omega)).next hlt)
      go_wp2_with fail
      go_loopw [9] (fun jv wr => ∃ (j : Nat) (l : List (Fin p.n)), jv = .int .i64 j ∧ a ≤ j ∧ j ≤ i ∧ Hid (P.InI (ltI p) l0 l a b0 i j) ∧ SRow wr g l ∧ CmpAt wr p ∧ w.grownBy wr (some g)) (fun jv _ => (intOf jv).toNat)
      case atStart => exact ⟨i, l1, rfl, by omega, by omega, HII, hS1, hP1, hg1⟩
      case round =>
        clear hS1 hP1 hg1 HII HO
        obtain ⟨j, l, rfl, haj, hji, HI1, hS, hP, hg⟩ := hrel
        have HBd := Lib.hid HI1.out.bd
        have HLen := Lib.hid HI1.out.len
        by_cases hja : a < j
        · obtain ⟨k, rfl⟩ : ∃ k, j = k + 1 := ⟨j - 1, by omega⟩
          have HI : Hid (k + 1 < l.length) := Lib.hid (by have := HBd.out; omega)
          have HJ : Hid (k < l.length) := Lib.hid (by have := HBd.out; omega)
          obtain ⟨x, hx⟩ : ∃ x, x = l[k + 1]'(HI.out) := ⟨_, rfl⟩
          obtain ⟨y, hy⟩ : ∃ y, y = l[k]'(HJ.out) := ⟨_, rfl⟩
          obtain ⟨b, hb⟩ : ∃ b, b = P.ltAt (ltI p) l (k + 1) (k) := ⟨_, rfl⟩
          have HLx : Hid (∀ W, Grows wr W → RvAt W ⟨g, (k + 1), none⟩ x) := Lib.hid (fun W h => by rw [hx]; exact (hS.new h).at HI.out)
          have HLy : Hid (∀ W, Grows wr W → RvAt W ⟨g, (k), none⟩ y) := Lib.hid (fun W h => by rw [hy]; exact (hS.new h).at HJ.out)
          have HCC : Hid (∀ W, Grows wr W → Calls Try.prog 21 #[vI x, vI y, .pointer (some ⟨p.b, 0, none⟩)] W fun e w' => e = .returned (.int .i64 (cmpI p x y)) ∧ Below W.heap.size W w') := Lib.hid (fun W h => by1_any p _ _ W (hP.new h))
          have HBB : Hid (b = P.ltAt (ltI p) l (k + 1) (k)) := Lib.hid hb
          have hcb : decide (cmpI p x y < 0) = b := by rw [hb, P.ltAt_eq HI.out HJ.out, ← hx, ← hy]; exact cmpI_neg p _ _
          clear hx hy hb
          have ek : IntKind.i64.wrap (((k + 1 : Nat) : Int) - 1) = (k : Int) := by rw [IntWalk.i64_in _ (by omega)]; omega
          have ek2 : ((k + 1 : Nat) : Int) - 1 = (k : Int) := by omega
          have ek4 : IntKind.i64.wrap (k : Int) = (k : Int) := IntWalk.i64_in _ (by omega)
          have hgt : (a : Int) < ((k + 1 : Nat) : Int) := by omega
          have hgt2 : (a : Int) < (k : Int) + 1 := by omega
          have ek3 : IntKind.i64.wrap ((k : Int) + 1 - 1) = (k : Int) := by rw [IntWalk.i64_in _ (by omega)]; omega
          have hkN : k + 1 < N := by have := HBd.out; omega
          have hb0' : 0 ≤ (k : Int) ∧ (k : Int) < (N : Int) := by omega
          have ha0' : 0 ≤ (k : Int) + 1 ∧ (k : Int) + 1 < (N : Int) := by omega
          have hta : ((k : Int) + 1).toNat = k + 1 := by omega
          have htb : ((k : Int)).toNat = k := by omega
          go_wp2_with fail
          refine wp_fam (n := 17) (size := 53) (D := [18, 19, 20, 21, 22, 23, 24, 25, 26, 27, 28, 29, 30, 31, 32, 33, 34]) [(18, isV (.int .i64 ((k + 1 : Nat) : Int))), (19, isV (.int .i64 ((a : Nat) : Int))), (20, isV (.bool true)), (21, isV (.bool true)), (22, isV (cmpV p)), (23, isV (.slice (some ⟨g, 0, none⟩) N c)), (24, isV (.int .i64 ((k + 1 : Nat) : Int))), (25, isV (.pointer (some ⟨g, (k + 1), none⟩))), (26, isV (vI x)), (27, isV (.slice (some ⟨g, 0, none⟩) N c)), (28, isV (.int .i64 ((k + 1 : Nat) : Int))), (29, isV (.int .i64 ((k : Nat) : Int))), (30, isV (.pointer (some ⟨g, (k), none⟩))), (31, isV (vI y)), (32, isV (.int .i64 (cmpI p x y))), (33, isV (.bool b)), (34, isV (.bool b))] (by kernel_rfl) (by rfl) (by kernel_rfl) ?_ ?_
          · simp only [List.take_succ_cons, List.take_zero, famAll]
            repeat' apply And.intro
            · intro f V hg hl
              simp [Oper.looksAt, Op.operands, Call.operands, famAt, famOf, isV] at hl
              simp [famWants, boolIs_bool, boolIs_undef, execOp, rho, go_sem, hl, famUpon, famOf, isV, Grows.refl]
            · intro f V hg hl
              simp [Oper.looksAt, Op.operands, Call.operands, famAt, famOf, isV] at hl
              simp [famWants, boolIs_bool, boolIs_undef, execOp, rho, go_sem, hl, famUpon, famOf, isV, Grows.refl]
            · intro f V hg hl
              simp [Oper.looksAt, Op.operands, Call.operands, famAt, famOf, isV] at hl
              simp [famWants, boolIs_bool, boolIs_undef, execOp, rho, go_sem, hl, hgt, hgt2, famUpon, famOf, isV, Grows.refl]
            · intro f V hg hl
              simp [Oper.looksAt, Op.operands, Call.operands, famAt, famOf, isV] at hl
              simp [famWants, boolIs_bool, boolIs_undef, execOp, rho, go_sem, hl, famUpon, famOf, isV, Grows.refl]
            · intro f V hg hl
              simp [Oper.looksAt, Op.operands, Call.operands, famAt, famOf, isV] at hl
              simp [famWants, boolIs_bool, boolIs_undef, execOp, rho, go_sem, hl, famUpon, famOf, isV, Grows.refl]
            · intro f V hg hl
              simp [Oper.looksAt, Op.operands, Call.operands, famAt, famOf, isV] at hl
              simp [famWants, boolIs_bool, boolIs_undef, execOp, rho, go_sem, hl, famUpon, famOf, isV, Grows.refl]
            · intro f V hg hl
              simp [Oper.looksAt, Op.operands, Call.operands, famAt, famOf, isV] at hl
              simp [famWants, boolIs_bool, boolIs_undef, execOp, rho, go_sem, hl, famUpon, famOf, isV, Grows.refl]
            · intro f V hg hl
              simp [Oper.looksAt, Op.operands, Call.operands, famAt, famOf, isV] at hl
              simp [famWants, boolIs_bool, boolIs_undef, execOp, rho, go_sem, hl, M.addMk, ha0', hta, famUpon, famOf, isV, Grows.refl]
            · intro f V hg hl
              simp [Oper.looksAt, Op.operands, Call.operands, famAt, famOf, isV] at hl
              have hld := run_loadr (HLx.out V hg)
              refine ⟨fun _ => ?_, fun e => ?_⟩
              · unfold execOp
                simp only [rho, hl]
                simp only [Sem.run_bind, Sem.run_pure, hld, Result.andThen_ok, famUpon]
                exact ⟨Grows.refl _, fun d e => by injection e with e; subst e; simp [famOf, isV]⟩
              · simp [famWants, boolIs_bool, hl] at e
            · intro f V hg hl
              simp [Oper.looksAt, Op.operands, Call.operands, famAt, famOf, isV] at hl
              simp [famWants, boolIs_bool, boolIs_undef, execOp, rho, go_sem, hl, famUpon, famOf, isV, Grows.refl]
            · intro f V hg hl
              simp [Oper.looksAt, Op.operands, Call.operands, famAt, famOf, isV] at hl
              simp [famWants, boolIs_bool, boolIs_undef, execOp, rho, go_sem, hl, famUpon, famOf, isV, Grows.refl]
            · intro f V hg hl
              simp [Oper.looksAt, Op.operands, Call.operands, famAt, famOf, isV] at hl
              simp [famWants, boolIs_bool, boolIs_undef, execOp, rho, go_sem, hl, ek, ek2, ek3, ek4, famUpon, famOf, isV, Grows.refl]
            · intro f V hg hl
              simp [Oper.looksAt, Op.operands, Call.operands, famAt, famOf, isV] at hl
              simp [famWants, boolIs_bool, boolIs_undef, execOp, rho, go_sem, hl, M.addMk, hb0', htb, famUpon, famOf, isV, Grows.refl]
            · intro f V hg hl
              simp [Oper.looksAt, Op.operands, Call.operands, famAt, famOf, isV] at hl
              have hld := run_loadr (HLy.out V hg)
              refine ⟨fun _ => ?_, fun e => ?_⟩
              · unfold execOp
                simp only [rho, hl]
                simp only [Sem.run_bind, Sem.run_pure, hld, Result.andThen_ok, famUpon]
                exact ⟨Grows.refl _, fun d e => by injection e with e; subst e; simp [famOf, isV]⟩
              · simp [famWants, boolIs_bool, hl] at e
            · intro f V hg hl
              simp [Oper.looksAt, Op.operands, Call.operands, famAt, famOf, isV] at hl
              simp [famWants, boolIs_bool, boolIs_undef, execOp, rho, go_sem, hl, famUpon, famOf, isV, Grows.refl]
              refine (HCC.out V hg).mono ?_
              rintro e w'' ⟨rfl, hb'⟩
              exact ⟨rfl, hb'⟩
            · intro f V hg hl
              simp [Oper.looksAt, Op.operands, Call.operands, famAt, famOf, isV] at hl
              simp [famWants, boolIs_bool, boolIs_undef, execOp, rho, go_sem, hl, hcb, famUpon, famOf, isV, Grows.refl]
            · intro f V hg hl
              simp [Oper.looksAt, Op.operands, Call.operands, famAt, famOf, isV] at hl
              simp [famWants, boolIs_bool, boolIs_undef, execOp, rho, go_sem, hl, famUpon, famOf, isV, Grows.refl]
            · trivial
          · intro u V hgV hu
            have e34 : u 34 = .bool b := hu 34 (by decide)
            simp only [List.drop_succ_cons, List.drop_zero, fill, Act.put, List.setIfInBounds_toArray, List.set_cons_zero, List.set_cons_succ, e34]
            refine wpList_nil ?_
            have hgV' := gb_below hgV (some g)
            have hSV := hS.new hgV
            have hPV := hP.new hgV
            clear hu e34 HLx HLy HCC hcb
            have hgW := gb_trans hg hgV'
            cases b with
            | false =>
              have HF : Hid ((i + 1 ≤ b0 → P.OutI (ltI p) l0 l a b0 (i + 1)) ∧ (¬ i + 1 ≤ b0 → P.Mg (ltI p) l0 l a b0)) := Lib.hid ⟨fun _ => HI1.out.fin (ordI p) (.inr ⟨k, rfl, HBB.out.symm⟩), fun h => by omega⟩
              clear HBB hS hP hg HI1 hgV hgV'
              go_wp2
              go_roundw
              case rel => exact ⟨i + 1, l, by go_num, by omega, by omega, HF, hSV, hPV, hgW⟩
              case measure => simp [intOf]; omega
            | true =>
              have HS1 : Hid (P.InI (ltI p) l0 (P.exch l (k + 1) k) a b0 i k) := Lib.hid (HI1.out.step hja HBB.out.symm)
              clear HBB hS hP hg HI1 hgV hgV'
              obtain ⟨wx, hwx⟩ : ∃ W, W = V := ⟨_, rfl⟩
              rw [← hwx] at hSV hPV hgW ⊢
              clear hwx x y
              have hS := hSV
              obtain ⟨x, hx⟩ : ∃ x, x = l[k + 1] := ⟨_, rfl⟩
              obtain ⟨y, hy⟩ : ∃ y, y = l[k] := ⟨_, rfl⟩
              have HXX := Lib.hid hx
              have HYY := Lib.hid hy
              have HIJ : Hid ((k + 1) ≠ (k)) := Lib.hid (by omega)
              have HLx : Hid (∀ W, SRow W g l → RvAt W ⟨g, (k + 1), none⟩ x) := Lib.hid (fun W h => by rw [hx]; exact h.at HI.out)
              have HLy : Hid (∀ W, SRow W g l → RvAt W ⟨g, (k), none⟩ y) := Lib.hid (fun W h => by rw [hy]; exact h.at HJ.out)
              have HSc : Hid (∀ W (m : List (Fin p.n)), SRow W g m → m.length = l.length → ∃ W2, (Instr.storeAt 3 (.pointer (some ⟨g, (k + 1), none⟩)) (vI y)).run Try.prog W = .ok () W2 ∧ SRow W2 g (m.set (k + 1) y) ∧ W.grownBy W2 (some g)) := Lib.hid (fun W m h hm => run_setr W g m h _ (by rw [hm]; exact HI.out) y)
              have HSd : Hid (∀ W (m : List (Fin p.n)), SRow W g m → m.length = l.length → ∃ W2, (Instr.storeAt 3 (.pointer (some ⟨g, (k), none⟩)) (vI x)).run Try.prog W = .ok () W2 ∧ SRow W2 g (m.set (k) x) ∧ W.grownBy W2 (some g)) := Lib.hid (fun W m h hm => run_setr W g m h _ (by rw [hm]; exact HJ.out) x)
              have HX0 : Hid (∀ ft, ExX wx g l (k + 1) (k) x y 15 17 (fun _ => false)  ft wx) := Lib.hid (fun ft => ⟨World.grownBy.refl _ _, by simpa [exL] using hS⟩)
              clear hx hy
              go_wp2_with fail
              refine wp_famY (size := 53) (D := [37, 38, 39, 40, 41, 42, 43, 44, 45, 46, 47, 48, 49, 50, 51, 52]) [9, 13, 15, 17] [] [(37, isV (.slice (some ⟨g, 0, none⟩) N c)), (38, isV (.int .i64 ((k + 1 : Nat) : Int))), (39, isV (.slice (some ⟨g, 0, none⟩) N c)), (40, isV (.int .i64 ((k + 1 : Nat) : Int))), (41, isV (.int .i64 ((k : Nat) : Int))), (42, isV (.slice (some ⟨g, 0, none⟩) N c)), (43, isV (.int .i64 ((k + 1 : Nat) : Int))), (44, isV (.int .i64 ((k : Nat) : Int))), (45, isV (.pointer (some ⟨g, (k), none⟩))), (46, isV (vI y)), (47, isV (.slice (some ⟨g, 0, none⟩) N c)), (48, isV (.int .i64 ((k + 1 : Nat) : Int))), (49, isV (.pointer (some ⟨g, (k + 1), none⟩))), (50, isV (vI x)), (51, isV (.pointer (some ⟨g, (k + 1), none⟩))), (52, isV (.pointer (some ⟨g, (k), none⟩)))] (ExX wx g l (k + 1) (k) x y 15 17) (ExX.up (by decide) (by decide)) (by kernel_rfl) (by rfl) (by kernel_rfl) (HX0.out _) ?_ ?_
              · simp only [famAllY]
                repeat' apply And.intro
                · rw [if_neg (by decide)]
                  intro f W hl
                  simp [Oper.looksAt, Op.operands, Call.operands, famAt, famOf, isV] at hl
                  simp [famWants, boolIs_bool, boolIs_undef, execOp, rho, go_sem, hl, famUpon, famOf, isV, Grows.refl]
                · rw [if_neg (by decide)]
                  intro f W hl
                  simp [Oper.looksAt, Op.operands, Call.operands, famAt, famOf, isV] at hl
                  simp [famWants, boolIs_bool, boolIs_undef, execOp, rho, go_sem, hl, famUpon, famOf, isV, Grows.refl]
                · rw [if_neg (by decide)]
                  intro f W hl
                  simp [Oper.looksAt, Op.operands, Call.operands, famAt, famOf, isV] at hl
                  simp [famWants, boolIs_bool, boolIs_undef, execOp, rho, go_sem, hl, famUpon, famOf, isV, Grows.refl]
                · rw [if_neg (by decide)]
                  intro f W hl
                  simp [Oper.looksAt, Op.operands, Call.operands, famAt, famOf, isV] at hl
                  simp [famWants, boolIs_bool, boolIs_undef, execOp, rho, go_sem, hl, famUpon, famOf, isV, Grows.refl]
                · rw [if_neg (by decide)]
                  intro f W hl
                  simp [Oper.looksAt, Op.operands, Call.operands, famAt, famOf, isV] at hl
                  simp [famWants, boolIs_bool, boolIs_undef, execOp, rho, go_sem, hl, ek, ek2, ek3, ek4, famUpon, famOf, isV, Grows.refl]
                · rw [if_neg (by decide)]
                  intro f W hl
                  simp [Oper.looksAt, Op.operands, Call.operands, famAt, famOf, isV] at hl
                  simp [famWants, boolIs_bool, boolIs_undef, execOp, rho, go_sem, hl, famUpon, famOf, isV, Grows.refl]
                · rw [if_neg (by decide)]
                  intro f W hl
                  simp [Oper.looksAt, Op.operands, Call.operands, famAt, famOf, isV] at hl
                  simp [famWants, boolIs_bool, boolIs_undef, execOp, rho, go_sem, hl, famUpon, famOf, isV, Grows.refl]
                · rw [if_neg (by decide)]
                  intro f W hl
                  simp [Oper.looksAt, Op.operands, Call.operands, famAt, famOf, isV] at hl
                  simp [famWants, boolIs_bool, boolIs_undef, execOp, rho, go_sem, hl, ek, ek2, ek3, ek4, famUpon, famOf, isV, Grows.refl]
                · rw [if_neg (by decide)]
                  intro f W hl
                  simp [Oper.looksAt, Op.operands, Call.operands, famAt, famOf, isV] at hl
                  simp [famWants, boolIs_bool, boolIs_undef, execOp, rho, go_sem, hl, M.addMk, hb0', htb, famUpon, famOf, isV, Grows.refl]
                · rw [if_pos (by decide)]
                  intro L f W hi hcl hwt hX hl
                  simp [Oper.looksAt, Op.operands, Call.operands, famAt, famOf, isV] at hl
                  have h15 : L 15 = false := by
                    cases e : L 15 with
                    | false => rfl
                    | true => rw [hcl 15 9 (by kernel_rfl) e] at hi; cases hi
                  have h17 : L 17 = false := by
                    cases e : L 17 with
                    | false => rfl
                    | true => rw [hcl 17 9 (by kernel_rfl) e] at hi; cases hi
                  have hld := run_loadr (HLy.out W (hX.before h15 h17))
                  have hps := hX.pass (k := 9) (dst := some 46) (v := (vI y)) (by decide)
                  refine ⟨fun _ => ?_, fun e => ?_⟩
                  · unfold execOp
                    simp only [rho, hl]
                    simp only [Sem.run_bind, Sem.run_pure, hld, Result.andThen_ok, famUpon]
                    exact ⟨fun d e => by injection e with e; subst e; simp [famOf, isV], hps⟩
                  · simp [famWants] at e
                · rw [if_neg (by decide)]
                  intro f W hl
                  simp [Oper.looksAt, Op.operands, Call.operands, famAt, famOf, isV] at hl
                  simp [famWants, boolIs_bool, boolIs_undef, execOp, rho, go_sem, hl, famUpon, famOf, isV, Grows.refl]
                · rw [if_neg (by decide)]
                  intro f W hl
                  simp [Oper.looksAt, Op.operands, Call.operands, famAt, famOf, isV] at hl
                  simp [famWants, boolIs_bool, boolIs_undef, execOp, rho, go_sem, hl, famUpon, famOf, isV, Grows.refl]
                · rw [if_neg (by decide)]
                  intro f W hl
                  simp [Oper.looksAt, Op.operands, Call.operands, famAt, famOf, isV] at hl
                  simp [famWants, boolIs_bool, boolIs_undef, execOp, rho, go_sem, hl, M.addMk, ha0', hta, famUpon, famOf, isV, Grows.refl]
                · rw [if_pos (by decide)]
                  intro L f W hi hcl hwt hX hl
                  simp [Oper.looksAt, Op.operands, Call.operands, famAt, famOf, isV] at hl
                  have h15 : L 15 = false := by
                    cases e : L 15 with
                    | false => rfl
                    | true => rw [hcl 15 13 (by kernel_rfl) e] at hi; cases hi
                  have h17 : L 17 = false := by
                    cases e : L 17 with
                    | false => rfl
                    | true => rw [hcl 17 13 (by kernel_rfl) e] at hi; cases hi
                  have hld := run_loadr (HLx.out W (hX.before h15 h17))
                  have hps := hX.pass (k := 13) (dst := some 50) (v := (vI x)) (by decide)
                  refine ⟨fun _ => ?_, fun e => ?_⟩
                  · unfold execOp
                    simp only [rho, hl]
                    simp only [Sem.run_bind, Sem.run_pure, hld, Result.andThen_ok, famUpon]
                    exact ⟨fun d e => by injection e with e; subst e; simp [famOf, isV], hps⟩
                  · simp [famWants] at e
                · rw [if_neg (by decide)]
                  intro f W hl
                  simp [Oper.looksAt, Op.operands, Call.operands, famAt, famOf, isV] at hl
                  simp [famWants, boolIs_bool, boolIs_undef, execOp, rho, go_sem, hl, M.addMk, ha0', hta, famUpon, famOf, isV, Grows.refl]
                · rw [if_pos (by decide)]
                  intro L f W hi hcl hwt hX hl
                  simp [Oper.looksAt, Op.operands, Call.operands, famAt, famOf, isV] at hl
                  obtain ⟨W2, hrun, hr, hg⟩ := HSc.out W _ hX.2 (exL_len _ _)
                  refine ⟨fun _ => ?_, fun e => ?_⟩
                  · unfold execOp
                    simp only [rho, hl]
                    simp only [Sem.run_bind, Sem.run_pure, hrun, Result.andThen_ok, famUpon]
                    exact ⟨fun d e => (by cases e), hX.one (by decide) HIJ.out hi hr hg⟩
                  · simp [famWants] at e
                · rw [if_neg (by decide)]
                  intro f W hl
                  simp [Oper.looksAt, Op.operands, Call.operands, famAt, famOf, isV] at hl
                  simp [famWants, boolIs_bool, boolIs_undef, execOp, rho, go_sem, hl, M.addMk, hb0', htb, famUpon, famOf, isV, Grows.refl]
                · rw [if_pos (by decide)]
                  intro L f W hi hcl hwt hX hl
                  simp [Oper.looksAt, Op.operands, Call.operands, famAt, famOf, isV] at hl
                  obtain ⟨W2, hrun, hr, hg⟩ := HSd.out W _ hX.2 (exL_len _ _)
                  refine ⟨fun _ => ?_, fun e => ?_⟩
                  · unfold execOp
                    simp only [rho, hl]
                    simp only [Sem.run_bind, Sem.run_pure, hrun, Result.andThen_ok, famUpon]
                    exact ⟨fun d e => (by cases e), hX.two (by decide) hi hr hg⟩
                  · simp [famWants] at e
                · trivial
              · intro L u W hL hX hu
                obtain ⟨hR, hG⟩ := hX.fin HI.out HJ.out HXX.out HYY.out (hL 15 (by decide)) (hL 17 (by decide))
                simp only [fill, Act.put, List.setIfInBounds_toArray, List.set_cons_zero, List.set_cons_succ]
                refine wpList_nil ?_
                have hg2 := gb_trans hgW hG
                have hP2 := hPV.gb hG hpg
                clear hu hL hX HX0 hS hgW hG hPV hSV
                go_wp2
                go_roundw
                case rel => exact ⟨k, _, (by first | rfl | go_num), by omega, by omega, HS1, hR, hP2, hg2⟩
                case measure => simp [intOf]
        · have hja' : j = a := by omega
          have HF : Hid ((i + 1 ≤ b0 → P.OutI (ltI p) l0 l a b0 (i + 1)) ∧ (¬ i + 1 ≤ b0 → P.Mg (ltI p) l0 l a b0)) := Lib.hid ⟨fun _ => HI1.out.fin (ordI p) (.inl hja'), fun h => by omega⟩
          have hgt : ¬ (a : Int) < (j : Int) := by omega
          have hgt2 : ¬ a < j := by omega
          clear hja'
          go_wp2_with fail
          refine wp_fam (n := 17) (size := 53) (D := [18, 19, 20, 21, 22, 23, 24, 25, 26, 27, 28, 29, 30, 31, 32, 33, 34]) [(18, isV (.int .i64 ((j : Nat) : Int))), (19, isV (.int .i64 ((a : Nat) : Int))), (20, isV (.bool false)), (21, isV (.bool false)), (22, isV undef), (23, isV undef), (24, isV undef), (25, isV undef), (26, isV undef), (27, isV undef), (28, isV undef), (29, isV undef), (30, isV undef), (31, isV undef), (32, isV undef), (33, isV undef), (34, isV (.bool false))] (by kernel_rfl) (by rfl) (by kernel_rfl) ?_ ?_
          · simp only [List.take_succ_cons, List.take_zero, famAll]
            repeat' apply And.intro
            · intro f V hg hl
              simp [Oper.looksAt, Op.operands, Call.operands, famAt, famOf, isV] at hl
              simp [famWants, boolIs_bool, boolIs_undef, execOp, rho, go_sem, hl, famUpon, famOf, isV, Grows.refl]
            · intro f V hg hl
              simp [Oper.looksAt, Op.operands, Call.operands, famAt, famOf, isV] at hl
              simp [famWants, boolIs_bool, boolIs_undef, execOp, rho, go_sem, hl, famUpon, famOf, isV, Grows.refl]
            · intro f V hg hl
              simp [Oper.looksAt, Op.operands, Call.operands, famAt, famOf, isV] at hl
              simp [famWants, boolIs_bool, boolIs_undef, execOp, rho, go_sem, hl, hgt, hgt2, famUpon, famOf, isV, Grows.refl]
            · intro f V hg hl
              simp [Oper.looksAt, Op.operands, Call.operands, famAt, famOf, isV] at hl
              simp [famWants, boolIs_bool, boolIs_undef, execOp, rho, go_sem, hl, famUpon, famOf, isV, Grows.refl]
            · intro f V hg hl
              simp [Oper.looksAt, Op.operands, Call.operands, famAt, famOf, isV] at hl
              simp [famWants, boolIs_bool, boolIs_undef, execOp, rho, go_sem, hl, famUpon, famOf, isV, Grows.refl]
            · intro f V hg hl
              simp [Oper.looksAt, Op.operands, Call.operands, famAt, famOf, isV] at hl
              simp [famWants, boolIs_bool, boolIs_undef, execOp, rho, go_sem, hl, famUpon, famOf, isV, Grows.refl]
            · intro f V hg hl
              simp [Oper.looksAt, Op.operands, Call.operands, famAt, famOf, isV] at hl
              simp [famWants, boolIs_bool, boolIs_undef, execOp, rho, go_sem, hl, famUpon, famOf, isV, Grows.refl]
            · intro f V hg hl
              simp [Oper.looksAt, Op.operands, Call.operands, famAt, famOf, isV] at hl
              simp [famWants, boolIs_bool, boolIs_undef, execOp, rho, go_sem, hl, famUpon, famOf, isV, Grows.refl]
            · intro f V hg hl
              simp [Oper.looksAt, Op.operands, Call.operands, famAt, famOf, isV] at hl
              simp [famWants, boolIs_bool, boolIs_undef, execOp, rho, go_sem, hl, famUpon, famOf, isV, Grows.refl]
            · intro f V hg hl
              simp [Oper.looksAt, Op.operands, Call.operands, famAt, famOf, isV] at hl
              simp [famWants, boolIs_bool, boolIs_undef, execOp, rho, go_sem, hl, famUpon, famOf, isV, Grows.refl]
            · intro f V hg hl
              simp [Oper.looksAt, Op.operands, Call.operands, famAt, famOf, isV] at hl
              simp [famWants, boolIs_bool, boolIs_undef, execOp, rho, go_sem, hl, famUpon, famOf, isV, Grows.refl]
            · intro f V hg hl
              simp [Oper.looksAt, Op.operands, Call.operands, famAt, famOf, isV] at hl
              simp [famWants, boolIs_bool, boolIs_undef, execOp, rho, go_sem, hl, famUpon, famOf, isV, Grows.refl]
            · intro f V hg hl
              simp [Oper.looksAt, Op.operands, Call.operands, famAt, famOf, isV] at hl
              simp [famWants, boolIs_bool, boolIs_undef, execOp, rho, go_sem, hl, famUpon, famOf, isV, Grows.refl]
            · intro f V hg hl
              simp [Oper.looksAt, Op.operands, Call.operands, famAt, famOf, isV] at hl
              simp [famWants, boolIs_bool, boolIs_undef, execOp, rho, go_sem, hl, famUpon, famOf, isV, Grows.refl]
            · intro f V hg hl
              simp [Oper.looksAt, Op.operands, Call.operands, famAt, famOf, isV] at hl
              simp [famWants, boolIs_bool, boolIs_undef, execOp, rho, go_sem, hl, famUpon, famOf, isV, Grows.refl]
            · intro f V hg hl
              simp [Oper.looksAt, Op.operands, Call.operands, famAt, famOf, isV] at hl
              simp [famWants, boolIs_bool, boolIs_undef, execOp, rho, go_sem, hl, famUpon, famOf, isV, Grows.refl]
            · intro f V hg hl
              simp [Oper.looksAt, Op.operands, Call.operands, famAt, famOf, isV] at hl
              simp [famWants, boolIs_bool, boolIs_undef, execOp, rho, go_sem, hl, famUpon, famOf, isV, Grows.refl]
            · trivial
          · intro u V hgV hu
            have e34 : u 34 = .bool false := hu 34 (by decide)
            simp only [List.drop_succ_cons, List.drop_zero, fill, Act.put, List.setIfInBounds_toArray, List.set_cons_zero, List.set_cons_succ, e34]
            refine wpList_nil ?_
            have hgW := gb_trans hg (gb_below hgV (some g))
            have hSV := hS.new hgV
            have hPV := hP.new hgV
            clear hu e34 hS hP hg HI1 hgV
            go_wp2
            go_roundw
            case rel => exact ⟨i + 1, l, by go_num, by omega, by omega, HF, hSV, hPV, hgW⟩
            case measure => simp [intOf]; omega
    · have HF : Hid (P.Mg (ltI p) l0 l1 a b0) := Lib.hid (by
        rcases Nat.lt_or_ge b0 i with h | h
        · exact HO.out.2 (by omega)
        · exact (HO.out.1 (by omega)).fin hlt)
      go_wp2
      go_end0
      exact ⟨rfl, l1, hS1, HF.out, hg1⟩
end Go.Proofs.Ytdgmbopdommnhaa.Rk
