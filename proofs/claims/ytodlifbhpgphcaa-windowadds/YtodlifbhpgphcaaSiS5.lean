/- Layer 10, the library: a merge in place of others with one place. -/
import Derived.Test.YtodlifbhpgphcaaSiS2
namespace Go.Proofs.Ytodlifbhpgphcaa
set_option linter.unusedVariables false
set_option linter.unusedSimpArgs false
open Go.ChangeShapes Go.WideShapes Go.ChangeAt Go.RowKit

set_option maxRecDepth 100000 in
set_option maxHeartbeats 8000000 in
theorem sym2_any (g N c a m b0 : Nat) (p : Cap) (l0 : List (Fin p.n)) (w : World) (hN : l0.length = N) (hs : SRow w g l0) (hp : CmpAt w p) (hpg : p.off g) (h1 : a < m) (h2 : m < b0) (h3 : b0 ≤ N) (hl : N ≤ 1000000) (hs1 : P.SrtAt (ltI p) l0 a m) (hs2 : P.SrtAt (ltI p) l0 m b0) (hm1 : m ≠ a + 1) (hm : b0 = m + 1) : Calls Try.prog 41 #[.slice (some ⟨g, 0, none⟩) N c, .int .i64 (a : Int), .int .i64 (m : Int), .int .i64 (b0 : Int), cmpV p] w (RowP g w fun l' => P.Mg (ltI p) l0 l' a b0) := by
  have HN := Lib.hid hN
  have HM := Lib.hid hm
  have HMo : Hid (P.Mono (fun k => P.ltAt (ltI p) l0 m k) a m) := Lib.hid (P.mono2 (ordI p) hs1 (by omega))
  have HB0 : Hid (P.Bs (fun k => P.ltAt (ltI p) l0 m k) a m a m) := Lib.hid (P.Bs.start _ (by omega))
  have HS1 : Hid (P.SrtAt (ltI p) l0 a m) := Lib.hid hs1
  have he1 : IntKind.i64.wrap ((m : Int) - (a : Int)) = (m : Int) - (a : Int) := IntWalk.i64_in _ (by omega)
  have he2 : (((m : Int) - (a : Int)) == 1) = false := by simp; omega
  have he4 : ¬ ((m : Int) - (a : Int) = 1) := by omega
  have he3 : IntKind.i64.wrap ((b0 : Int) - (m : Int)) = 1 := by rw [IntWalk.i64_in _ (by omega)]; omega
  clear hN hm hs1 hs2 hm1
  go_enter Try.func41, Try.ntmps41
  go_wp2_with fail
  clear he1 he2 he3 he4
  go_loopw [14, 15] (fun iv jv wr => ∃ i j : Nat, iv = .int .i64 i ∧ jv = .int .i64 j ∧ a ≤ i ∧ i ≤ j ∧ j ≤ m ∧ Hid (P.Bs (fun k => P.ltAt (ltI p) l0 m k) a m i j) ∧ SRow wr g l0 ∧ CmpAt wr p ∧ w.grownBy wr (some g)) (fun iv jv _ => (intOf jv).toNat - (intOf iv).toNat)
  case atStart => exact ⟨a, m, rfl, rfl, by omega, by omega, by omega, HB0, hs, hp, World.grownBy.refl _ _⟩
  case round =>
    clear hs HB0 hp
    obtain ⟨i, j, rfl, rfl, hmi, hij, hjb, HB, hS, hP, hg⟩ := hrel
    by_cases hlt : i < j
    · obtain ⟨l, hll⟩ : ∃ l, l = l0 := ⟨_, rfl⟩
      obtain ⟨h, hh⟩ : ∃ h : Nat, h = (i + j) / 2 := ⟨_, rfl⟩
      have eh0 : IntKind.i64.wrap ((i : Int) + (j : Int)) = (i : Int) + (j : Int) := IntWalk.i64_in _ (by omega)
      have eh1 : IntKind.u64.wrap ((i : Int) + (j : Int)) = (i : Int) + (j : Int) := IntWalk.u64_in _ (by omega)
      have eh2 : ((i : Int) + (j : Int)) / 2 = (h : Int) := by omega
      have eh3 : IntKind.i64.wrap (h : Int) = (h : Int) := IntWalk.i64_in _ (by omega)
      have HI : Hid (m < l.length) := Lib.hid (by rw [hll, HN.out]; omega)
      have HJ : Hid (h < l.length) := Lib.hid (by rw [hll, HN.out]; omega)
      have hih : i ≤ h := by omega
      have hhj : h < j := by omega
      rw [← hll] at hS
      obtain ⟨x, hx⟩ : ∃ x, x = l[m]'(HI.out) := ⟨_, rfl⟩
      obtain ⟨y, hy⟩ : ∃ y, y = l[h]'(HJ.out) := ⟨_, rfl⟩
      obtain ⟨b, hb⟩ : ∃ b, b = P.ltAt (ltI p) l (m) (h) := ⟨_, rfl⟩
      have HLx : Hid (∀ W, Grows wr W → RvAt W ⟨g, (m), none⟩ x) := Lib.hid (fun W h => by rw [hx]; exact (hS.new h).at HI.out)
      have HLy : Hid (∀ W, Grows wr W → RvAt W ⟨g, (h), none⟩ y) := Lib.hid (fun W h => by rw [hy]; exact (hS.new h).at HJ.out)
      have HCC : Hid (∀ W, Grows wr W → Calls Try.prog 30 #[vI x, vI y, .pointer (some ⟨p.b, 0, none⟩)] W fun e w' => e = .returned (.int .i64 (cmpI p x y)) ∧ Below W.heap.size W w') := Lib.hid (fun W h => by1_any p _ _ W (hP.new h))
      have HBB : Hid (b = P.ltAt (ltI p) l (m) (h)) := Lib.hid hb
      have hcb : decide (cmpI p x y < 0) = b := by rw [hb, P.ltAt_eq HI.out HJ.out, ← hx, ← hy]; exact cmpI_neg p _ _
      clear hx hy hb
      have HLL := Lib.hid hll
      clear hll hh
      have hph : 0 ≤ (h : Int) ∧ (h : Int) < (N : Int) := by omega
      have hpa : 0 ≤ (m : Int) ∧ (m : Int) < (N : Int) := by omega
      have hth : ((h : Int)).toNat = h := by omega
      have hta : ((m : Int)).toNat = m := by omega
      go_wp2_with fail
      refine wp_fam (n := 12) (size := 220) (D := [92, 93, 94, 95, 96, 97, 98, 99, 100, 101, 102, 103]) [(92, isV (cmpV p)), (93, isV (.slice (some ⟨g, 0, none⟩) N c)), (94, isV (.int .i64 ((m : Nat) : Int))), (95, isV (.pointer (some ⟨g, (m), none⟩))), (96, isV (vI x)), (97, isV (.slice (some ⟨g, 0, none⟩) N c)), (98, isV (.int .i64 ((h : Nat) : Int))), (99, isV (.pointer (some ⟨g, (h), none⟩))), (100, isV (vI y)), (101, isV (.int .i64 (cmpI p x y))), (102, isV (.bool b)), (103, isV (.bool (!b)))] (by kernel_rfl) (by rfl) (by kernel_rfl) ?_ ?_
      · simp only [List.take_succ_cons, List.take_zero, famAll]
        repeat' apply And.intro
        · intro f V hg hl
          simp [Oper.looksAt, Op.operands, Call.operands, famAt, famOf, isV] at hl
          simp [famWants, boolIs_bool, boolIs_undef, execOp, rho, go_sem, hl, famUpon, famOf, isV, Grows.refl]
        · intro f V hg hl
          simp [Oper.looksAt, Op.operands, Call.operands, famAt, famOf, isV] at hl
          simp [famWants, boolIs_bool, boolIs_undef, execOp, rho, go_sem, hl, famUpon, famOf, isV, Grows.refl]
        · intro f V hg hl
          simp [Oper.looksAt, Op.operands, Call.operands, famAt, famOf, isV] at hl
          simp [famWants, boolIs_bool, boolIs_undef, execOp, rho, go_sem, hl, famUpon, famOf, isV, Grows.refl]
        · intro f V hg hl
          simp [Oper.looksAt, Op.operands, Call.operands, famAt, famOf, isV] at hl
          simp [famWants, boolIs_bool, boolIs_undef, execOp, rho, go_sem, hl, M.addMk, hpa, hta, famUpon, famOf, isV, Grows.refl]
        · intro f V hg hl
          simp [Oper.looksAt, Op.operands, Call.operands, famAt, famOf, isV] at hl
          have hld := run_loadr (HLx.out V hg)
          refine ⟨fun _ => ?_, fun e => ?_⟩
          · unfold execOp
            simp only [rho, hl]
            simp only [Sem.run_bind, Sem.run_pure, hld, Result.andThen_ok, famUpon]
            exact ⟨Grows.refl _, fun d e => by injection e with e; subst e; simp [famOf, isV]⟩
          · simp [famWants, boolIs_bool, hl] at e
        · intro f V hg hl
          simp [Oper.looksAt, Op.operands, Call.operands, famAt, famOf, isV] at hl
          simp [famWants, boolIs_bool, boolIs_undef, execOp, rho, go_sem, hl, famUpon, famOf, isV, Grows.refl]
        · intro f V hg hl
          simp [Oper.looksAt, Op.operands, Call.operands, famAt, famOf, isV] at hl
          simp [famWants, boolIs_bool, boolIs_undef, execOp, rho, go_sem, hl, famUpon, famOf, isV, Grows.refl]
        · intro f V hg hl
          simp [Oper.looksAt, Op.operands, Call.operands, famAt, famOf, isV] at hl
          simp [famWants, boolIs_bool, boolIs_undef, execOp, rho, go_sem, hl, M.addMk, hph, hth, famUpon, famOf, isV, Grows.refl]
        · intro f V hg hl
          simp [Oper.looksAt, Op.operands, Call.operands, famAt, famOf, isV] at hl
          have hld := run_loadr (HLy.out V hg)
          refine ⟨fun _ => ?_, fun e => ?_⟩
          · unfold execOp
            simp only [rho, hl]
            simp only [Sem.run_bind, Sem.run_pure, hld, Result.andThen_ok, famUpon]
            exact ⟨Grows.refl _, fun d e => by injection e with e; subst e; simp [famOf, isV]⟩
          · simp [famWants, boolIs_bool, hl] at e
        · intro f V hg hl
          simp [Oper.looksAt, Op.operands, Call.operands, famAt, famOf, isV] at hl
          simp [famWants, boolIs_bool, boolIs_undef, execOp, rho, go_sem, hl, famUpon, famOf, isV, Grows.refl]
          refine (HCC.out V hg).mono ?_
          rintro e w'' ⟨rfl, hb'⟩
          exact ⟨rfl, hb'⟩
        · intro f V hg hl
          simp [Oper.looksAt, Op.operands, Call.operands, famAt, famOf, isV] at hl
          simp [famWants, boolIs_bool, boolIs_undef, execOp, rho, go_sem, hl, hcb, famUpon, famOf, isV, Grows.refl]
        · intro f V hg hl
          simp [Oper.looksAt, Op.operands, Call.operands, famAt, famOf, isV] at hl
          simp [famWants, boolIs_bool, boolIs_undef, execOp, rho, go_sem, hl, famUpon, famOf, isV, Grows.refl]
        · trivial
      · intro u V hgV hu
        have e103 : u 103 = .bool (!b) := hu 103 (by decide)
        simp only [List.drop_succ_cons, List.drop_zero, fill, Act.put, List.setIfInBounds_toArray, List.set_cons_zero, List.set_cons_succ, e103]
        refine wpList_nil ?_
        have hgV' := gb_below hgV (some g)
        have hSV := hS.new hgV
        have hPV := hP.new hgV
        clear hu e103 HLx HLy HCC hcb
        have hgW := gb_trans hg hgV'
        rw [HLL.out] at hSV
        cases b with
        | false =>
          have HB2 : Hid (P.Bs (fun k => P.ltAt (ltI p) l0 m k) a m (h + 1) j) := Lib.hid (HB.out.up HMo.out hih hhj (by rw [← HLL.out, ← HBB.out]))
          clear HBB hS hP hg hgV hgV' HB HLL
          simp only [Bool.not_false]
          go_wp2
          go_roundw
          case rel => exact ⟨h + 1, j, by go_num, rfl, by omega, by omega, by omega, HB2, hSV, hPV, hgW⟩
          case measure => simp [intOf]; omega
        | true =>
          have HB2 : Hid (P.Bs (fun k => P.ltAt (ltI p) l0 m k) a m i h) := Lib.hid (HB.out.down HMo.out hih hhj (by rw [← HLL.out, ← HBB.out]))
          clear HBB hS hP hg hgV hgV' HB HLL
          simp only [Bool.not_true]
          go_wp2
          go_roundw
          case rel => exact ⟨i, h, rfl, rfl, by omega, by omega, by omega, HB2, hSV, hPV, hgW⟩
          case measure => simp [intOf]; omega
    · have hij' : j = i := by omega
      have HV0 : Hid (P.MvL (ltI p) l0 l0 a i m m) := Lib.hid (P.MvL.start (ordI p) HS1.out (by rw [HN.out]; omega) (by have := HB.out; rw [hij'] at this; exact this))
      clear hij' HB
      go_wp2_with fail
      go_loopw [17] (fun kv wr => ∃ (k : Nat) (l : List (Fin p.n)), kv = .int .i64 k ∧ Hid (P.MvL (ltI p) l0 l a i m k) ∧ SRow wr g l ∧ w.grownBy wr (some g)) (fun kv _ => (intOf kv).toNat)
      case atStart => exact ⟨m, l0, rfl, HV0, hS, hg⟩
      case round =>
        clear hS hP hg HV0
        obtain ⟨q, l, rfl, HV, hS, hg⟩ := hrel
        have HBd := Lib.hid HV.out.bd
        by_cases hk : i < q
        · obtain ⟨k, rfl⟩ : ∃ k, q = k + 1 := ⟨q - 1, by omega⟩
          have hkN : k + 1 < N := by have := HBd.out; rw [this.2.2.2.2, HN.out] at this; omega
          have hk' : (i : Int) < ((k + 1 : Nat) : Int) := by omega
          have hk2 : (i : Int) < (k : Int) + 1 := by omega
          have HI : Hid (k + 1 < l.length) := Lib.hid (by have := HBd.out; omega)
          have HJ : Hid (k < l.length) := Lib.hid (by have := HBd.out; omega)
          have HS3 : Hid (P.MvL (ltI p) l0 (P.exch l (k + 1) k) a i m k) := Lib.hid (HV.out.step hk)
          obtain ⟨x, hx⟩ : ∃ x, x = l[k + 1] := ⟨_, rfl⟩
          obtain ⟨y, hy⟩ : ∃ y, y = l[k] := ⟨_, rfl⟩
          have HXX := Lib.hid hx
          have HYY := Lib.hid hy
          have HIJ : Hid ((k + 1) ≠ (k)) := Lib.hid (by omega)
          have HLx : Hid (∀ W, SRow W g l → RvAt W ⟨g, (k + 1), none⟩ x) := Lib.hid (fun W h => by rw [hx]; exact h.at HI.out)
          have HLy : Hid (∀ W, SRow W g l → RvAt W ⟨g, (k), none⟩ y) := Lib.hid (fun W h => by rw [hy]; exact h.at HJ.out)
          have HSc : Hid (∀ W (m : List (Fin p.n)), SRow W g m → m.length = l.length → ∃ W2, (Instr.storeAt 3 (.pointer (some ⟨g, (k + 1), none⟩)) (vI y)).run Try.prog W = .ok () W2 ∧ SRow W2 g (m.set (k + 1) y) ∧ W.grownBy W2 (some g)) := Lib.hid (fun W m h hm => run_setr W g m h _ (by rw [hm]; exact HI.out) y)
          have HSd : Hid (∀ W (m : List (Fin p.n)), SRow W g m → m.length = l.length → ∃ W2, (Instr.storeAt 3 (.pointer (some ⟨g, (k), none⟩)) (vI x)).run Try.prog W = .ok () W2 ∧ SRow W2 g (m.set (k) x) ∧ W.grownBy W2 (some g)) := Lib.hid (fun W m h hm => run_setr W g m h _ (by rw [hm]; exact HJ.out) x)
          have HX0 : Hid (∀ ft, ExX wr g l (k + 1) (k) x y 15 17 (fun _ => false)  ft wr) := Lib.hid (fun ft => ⟨World.grownBy.refl _ _, by simpa [exL] using hS⟩)
          clear hx hy
          have ek : IntKind.i64.wrap (((k + 1 : Nat) : Int) - 1) = (k : Int) := by rw [IntWalk.i64_in _ (by omega)]; omega
          have ek2 : ((k + 1 : Nat) : Int) - 1 = (k : Int) := by omega
          have ek3 : IntKind.i64.wrap ((k : Int) + 1 - 1) = (k : Int) := by rw [IntWalk.i64_in _ (by omega)]; omega
          have ek4 : IntKind.i64.wrap (k : Int) = (k : Int) := IntWalk.i64_in _ (by omega)
          have hpk : 0 ≤ (k : Int) ∧ (k : Int) < (N : Int) := by omega
          have hpl : 0 ≤ (k : Int) + 1 ∧ (k : Int) + 1 < (N : Int) := by omega
          have htk : ((k : Int)).toNat = k := by omega
          have htl : ((k : Int) + 1).toNat = k + 1 := by omega
          go_wp2_with fail
          refine wp_famY (size := 220) (D := [113, 114, 115, 116, 117, 118, 119, 120, 121, 122, 123, 124, 125, 126, 127, 128]) [9, 13, 15, 17] [] [(113, isV (.slice (some ⟨g, 0, none⟩) N c)), (114, isV (.int .i64 ((k + 1 : Nat) : Int))), (115, isV (.slice (some ⟨g, 0, none⟩) N c)), (116, isV (.int .i64 ((k + 1 : Nat) : Int))), (117, isV (.int .i64 ((k : Nat) : Int))), (118, isV (.slice (some ⟨g, 0, none⟩) N c)), (119, isV (.int .i64 ((k + 1 : Nat) : Int))), (120, isV (.int .i64 ((k : Nat) : Int))), (121, isV (.pointer (some ⟨g, (k), none⟩))), (122, isV (vI y)), (123, isV (.slice (some ⟨g, 0, none⟩) N c)), (124, isV (.int .i64 ((k + 1 : Nat) : Int))), (125, isV (.pointer (some ⟨g, (k + 1), none⟩))), (126, isV (vI x)), (127, isV (.pointer (some ⟨g, (k + 1), none⟩))), (128, isV (.pointer (some ⟨g, (k), none⟩)))] (ExX wr g l (k + 1) (k) x y 15 17) (ExX.up (by decide) (by decide)) (by kernel_rfl) (by rfl) (by kernel_rfl) (HX0.out _) ?_ ?_
          · simp only [famAllY]
            repeat' apply And.intro
            · rw [if_neg (by decide)]
              intro f W hl
              simp [Oper.looksAt, Op.operands, Call.operands, famAt, famOf, isV] at hl
              simp [famWants, boolIs_bool, boolIs_undef, execOp, rho, go_sem, hl, famUpon, famOf, isV, Grows.refl]
            · rw [if_neg (by decide)]
              intro f W hl
              simp [Oper.looksAt, Op.operands, Call.operands, famAt, famOf, isV] at hl
              simp [famWants, boolIs_bool, boolIs_undef, execOp, rho, go_sem, hl, famUpon, famOf, isV, Grows.refl]
            · rw [if_neg (by decide)]
              intro f W hl
              simp [Oper.looksAt, Op.operands, Call.operands, famAt, famOf, isV] at hl
              simp [famWants, boolIs_bool, boolIs_undef, execOp, rho, go_sem, hl, famUpon, famOf, isV, Grows.refl]
            · rw [if_neg (by decide)]
              intro f W hl
              simp [Oper.looksAt, Op.operands, Call.operands, famAt, famOf, isV] at hl
              simp [famWants, boolIs_bool, boolIs_undef, execOp, rho, go_sem, hl, famUpon, famOf, isV, Grows.refl]
            · rw [if_neg (by decide)]
              intro f W hl
              simp [Oper.looksAt, Op.operands, Call.operands, famAt, famOf, isV] at hl
              simp [famWants, boolIs_bool, boolIs_undef, execOp, rho, go_sem, hl, ek, ek2, ek3, ek4, famUpon, famOf, isV, Grows.refl]
            · rw [if_neg (by decide)]
              intro f W hl
              simp [Oper.looksAt, Op.operands, Call.operands, famAt, famOf, isV] at hl
              simp [famWants, boolIs_bool, boolIs_undef, execOp, rho, go_sem, hl, famUpon, famOf, isV, Grows.refl]
            · rw [if_neg (by decide)]
              intro f W hl
              simp [Oper.looksAt, Op.operands, Call.operands, famAt, famOf, isV] at hl
              simp [famWants, boolIs_bool, boolIs_undef, execOp, rho, go_sem, hl, famUpon, famOf, isV, Grows.refl]
            · rw [if_neg (by decide)]
              intro f W hl
              simp [Oper.looksAt, Op.operands, Call.operands, famAt, famOf, isV] at hl
              simp [famWants, boolIs_bool, boolIs_undef, execOp, rho, go_sem, hl, ek, ek2, ek3, ek4, famUpon, famOf, isV, Grows.refl]
            · rw [if_neg (by decide)]
              intro f W hl
              simp [Oper.looksAt, Op.operands, Call.operands, famAt, famOf, isV] at hl
              simp [famWants, boolIs_bool, boolIs_undef, execOp, rho, go_sem, hl, M.addMk, hpk, htk, famUpon, famOf, isV, Grows.refl]
            · rw [if_pos (by decide)]
              intro L f W hi hcl hwt hX hl
              simp [Oper.looksAt, Op.operands, Call.operands, famAt, famOf, isV] at hl
              have h15 : L 15 = false := by
                cases e : L 15 with
                | false => rfl
                | true => rw [hcl 15 9 (by kernel_rfl) e] at hi; cases hi
              have h17 : L 17 = false := by
                cases e : L 17 with
                | false => rfl
                | true => rw [hcl 17 9 (by kernel_rfl) e] at hi; cases hi
              have hld := run_loadr (HLy.out W (hX.before h15 h17))
              have hps := hX.pass (k := 9) (dst := some 122) (v := (vI y)) (by decide)
              refine ⟨fun _ => ?_, fun e => ?_⟩
              · unfold execOp
                simp only [rho, hl]
                simp only [Sem.run_bind, Sem.run_pure, hld, Result.andThen_ok, famUpon]
                exact ⟨fun d e => by injection e with e; subst e; simp [famOf, isV], hps⟩
              · simp [famWants] at e
            · rw [if_neg (by decide)]
              intro f W hl
              simp [Oper.looksAt, Op.operands, Call.operands, famAt, famOf, isV] at hl
              simp [famWants, boolIs_bool, boolIs_undef, execOp, rho, go_sem, hl, famUpon, famOf, isV, Grows.refl]
            · rw [if_neg (by decide)]
              intro f W hl
              simp [Oper.looksAt, Op.operands, Call.operands, famAt, famOf, isV] at hl
              simp [famWants, boolIs_bool, boolIs_undef, execOp, rho, go_sem, hl, famUpon, famOf, isV, Grows.refl]
            · rw [if_neg (by decide)]
              intro f W hl
              simp [Oper.looksAt, Op.operands, Call.operands, famAt, famOf, isV] at hl
              simp [famWants, boolIs_bool, boolIs_undef, execOp, rho, go_sem, hl, M.addMk, hpl, htl, famUpon, famOf, isV, Grows.refl]
            · rw [if_pos (by decide)]
              intro L f W hi hcl hwt hX hl
              simp [Oper.looksAt, Op.operands, Call.operands, famAt, famOf, isV] at hl
              have h15 : L 15 = false := by
                cases e : L 15 with
                | false => rfl
                | true => rw [hcl 15 13 (by kernel_rfl) e] at hi; cases hi
              have h17 : L 17 = false := by
                cases e : L 17 with
                | false => rfl
                | true => rw [hcl 17 13 (by kernel_rfl) e] at hi; cases hi
              have hld := run_loadr (HLx.out W (hX.before h15 h17))
              have hps := hX.pass (k := 13) (dst := some 126) (v := (vI x)) (by decide)
              refine ⟨fun _ => ?_, fun e => ?_⟩
              · unfold execOp
                simp only [rho, hl]
                simp only [Sem.run_bind, Sem.run_pure, hld, Result.andThen_ok, famUpon]
                exact ⟨fun d e => by injection e with e; subst e; simp [famOf, isV], hps⟩
              · simp [famWants] at e
            · rw [if_neg (by decide)]
              intro f W hl
              simp [Oper.looksAt, Op.operands, Call.operands, famAt, famOf, isV] at hl
              simp [famWants, boolIs_bool, boolIs_undef, execOp, rho, go_sem, hl, M.addMk, hpl, htl, famUpon, famOf, isV, Grows.refl]
            · rw [if_pos (by decide)]
              intro L f W hi hcl hwt hX hl
              simp [Oper.looksAt, Op.operands, Call.operands, famAt, famOf, isV] at hl
              obtain ⟨W2, hrun, hr, hg⟩ := HSc.out W _ hX.2 (exL_len _ _)
              refine ⟨fun _ => ?_, fun e => ?_⟩
              · unfold execOp
                simp only [rho, hl]
                simp only [Sem.run_bind, Sem.run_pure, hrun, Result.andThen_ok, famUpon]
                exact ⟨fun d e => (by cases e), hX.one (by decide) HIJ.out hi hr hg⟩
              · simp [famWants] at e
            · rw [if_neg (by decide)]
              intro f W hl
              simp [Oper.looksAt, Op.operands, Call.operands, famAt, famOf, isV] at hl
              simp [famWants, boolIs_bool, boolIs_undef, execOp, rho, go_sem, hl, M.addMk, hpk, htk, famUpon, famOf, isV, Grows.refl]
            · rw [if_pos (by decide)]
              intro L f W hi hcl hwt hX hl
              simp [Oper.looksAt, Op.operands, Call.operands, famAt, famOf, isV] at hl
              obtain ⟨W2, hrun, hr, hg⟩ := HSd.out W _ hX.2 (exL_len _ _)
              refine ⟨fun _ => ?_, fun e => ?_⟩
              · unfold execOp
                simp only [rho, hl]
                simp only [Sem.run_bind, Sem.run_pure, hrun, Result.andThen_ok, famUpon]
                exact ⟨fun d e => (by cases e), hX.two (by decide) hi hr hg⟩
              · simp [famWants] at e
            · trivial
          · intro L u W hL hX hu
            obtain ⟨hR, hG⟩ := hX.fin HI.out HJ.out HXX.out HYY.out (hL 15 (by decide)) (hL 17 (by decide))
            simp only [fill, Act.put, List.setIfInBounds_toArray, List.set_cons_zero, List.set_cons_succ]
            refine wpList_nil ?_
            have hg2 := gb_trans hg hG
            clear hu hL hX HX0 hS hg hG
            go_wp2
            go_roundw
            case rel => exact ⟨k, _, (by first | rfl | go_num), HS3, hR, hg2⟩
            case measure => simp [intOf]
        · have hk' : ¬ (i : Int) < (q : Int) := by omega
          have HF : Hid (P.Mg (ltI p) l0 l a b0) := Lib.hid (by rw [HM.out]; exact HV.out.fin (ordI p) hk)
          go_wp2
          first | go_end0 | refine bodyPost_ret (results_none rfl _ _ _) rfl ?_
          exact ⟨rfl, l, hS, HF.out, hg⟩
end Go.Proofs.Ytodlifbhpgphcaa
