/- Layer 10, the library: a merge in place, where the second row is the shorter one. -/
import Derived.Test.YtodlifbhpgphcaaSiS2
import Derived.Test.YtodlifbhpgphcaaSiS3
namespace Go.Proofs.Ytodlifbhpgphcaa
set_option linter.unusedVariables false
set_option linter.unusedSimpArgs false
open Go.ChangeShapes Go.WideShapes Go.ChangeAt Go.RowKit

set_option maxRecDepth 100000 in
set_option maxHeartbeats 8000000 in
theorem sym3a_any (g N c a m b0 : Nat) (p : Cap) (l0 : List (Fin p.n)) (w : World) (hN : l0.length = N) (hs : SRow w g l0) (hp : CmpAt w p) (hpg : p.off g) (h1 : a < m) (h2 : m < b0) (h3 : b0 ≤ N) (hl : N ≤ 1000000) (hs1 : P.SrtAt (ltI p) l0 a m) (hs2 : P.SrtAt (ltI p) l0 m b0) (hm1 : m ≠ a + 1) (hm2 : b0 ≠ m + 1) (hw : (a + b0) / 2 < m) (HIH : Hid (∀ (a' m' b' : Nat) (l' : List (Fin p.n)) (w' : World), b' - a' < b0 - a → l'.length = N → SRow w' g l' → CmpAt w' p → a' < m' → m' < b' → b' ≤ N → P.SrtAt (ltI p) l' a' m' → P.SrtAt (ltI p) l' m' b' → Calls Try.prog 41 #[.slice (some ⟨g, 0, none⟩) N c, .int .i64 (a' : Int), .int .i64 (m' : Int), .int .i64 (b' : Int), cmpV p] w' (RowP g w' fun l'' => P.Mg (ltI p) l' l'' a' b'))) : Calls Try.prog 41 #[.slice (some ⟨g, 0, none⟩) N c, .int .i64 (a : Int), .int .i64 (m : Int), .int .i64 (b0 : Int), cmpV p] w (RowP g w fun l' => P.Mg (ltI p) l0 l' a b0) := by
  have HN := Lib.hid hN
  have HS1 : Hid (P.SrtAt (ltI p) l0 a m) := Lib.hid hs1
  have HS2 : Hid (P.SrtAt (ltI p) l0 m b0) := Lib.hid hs2
  obtain ⟨mid, hmid⟩ : ∃ q : Nat, q = (a + b0) / 2 := ⟨_, rfl⟩
  obtain ⟨n, hn⟩ : ∃ q : Nat, q = mid + m := ⟨_, rfl⟩
  obtain ⟨q, hq⟩ : ∃ q : Nat, q + 1 = n := ⟨n - 1, by omega⟩
  obtain ⟨lo, hlo⟩ : ∃ q : Nat, q = n - b0 := ⟨_, rfl⟩
  obtain ⟨hi, hhi⟩ : ∃ q : Nat, q = mid := ⟨_, rfl⟩
  have hmb : mid < b0 := by omega
  have ham : a < mid := by omega
  have hlh : lo ≤ hi := by omega
  have hal : a ≤ lo := by omega
  have hhm : hi ≤ m := by omega
  have hhd : hi ≤ mid := by omega
  have hwm : mid < m := by omega
  have HW : Hid ((mid < m ∧ lo + b0 = n ∧ a ≤ lo ∧ hi = mid) ∨ (m ≤ mid ∧ lo = a ∧ hi = m ∧ n ≤ a + b0)) := Lib.hid (by omega)
  have HNN : Hid (n = mid + m) := Lib.hid hn
  have HLO := Lib.hid hlo
  have HHI := Lib.hid hhi
  have HC3 : Hid (∀ c, lo ≤ c → c < hi → m ≤ n - 1 - c ∧ n - 1 - c < b0 ∧ c < n) := Lib.hid (fun c h1 h2 => by omega)
  have HMo : Hid (P.Mono (fun c => P.ltAt (ltI p) l0 (n - 1 - c) c) lo hi) := Lib.hid (P.mono3 (ordI p) hs1 hs2 hal hhm HC3.out)
  have HB0 : Hid (P.Bs (fun c => P.ltAt (ltI p) l0 (n - 1 - c) c) lo hi lo hi) := Lib.hid (P.Bs.start _ hlh)
  have he1 : IntKind.i64.wrap ((m : Int) - (a : Int)) = (m : Int) - (a : Int) := IntWalk.i64_in _ (by omega)
  have he2 : (((m : Int) - (a : Int)) == 1) = false := by simp; omega
  have he4 : ¬ ((m : Int) - (a : Int) = 1) := by omega
  have he3 : IntKind.i64.wrap ((b0 : Int) - (m : Int)) = (b0 : Int) - (m : Int) := IntWalk.i64_in _ (by omega)
  have he5 : (((b0 : Int) - (m : Int)) == 1) = false := by simp; omega
  have he6 : ¬ ((b0 : Int) - (m : Int) = 1) := by omega
  have eh0 : IntKind.i64.wrap ((a : Int) + (b0 : Int)) = (a : Int) + (b0 : Int) := IntWalk.i64_in _ (by omega)
  have eh1 : IntKind.u64.wrap ((a : Int) + (b0 : Int)) = (a : Int) + (b0 : Int) := IntWalk.u64_in _ (by omega)
  have eh2 : ((a : Int) + (b0 : Int)) / 2 = (mid : Int) := by omega
  have eh3 : IntKind.i64.wrap (mid : Int) = (mid : Int) := IntWalk.i64_in _ (by omega)
  have en : IntKind.i64.wrap ((mid : Int) + (m : Int)) = (n : Int) := by rw [IntWalk.i64_in _ (by omega)]; omega
  have ew : (mid : Int) < (m : Int) := by omega
  have ep : IntKind.i64.wrap ((n : Int) - 1) = (q : Int) := by rw [IntWalk.i64_in _ (by omega)]; omega
  have es : IntKind.i64.wrap ((n : Int) - (b0 : Int)) = (lo : Int) := by rw [IntWalk.i64_in _ (by omega)]; omega
  have hqN : q + 1 = n ∧ n ≤ 2000000 := by omega
  have HQ := Lib.hid hq
  clear hN hs1 hs2 hm1 hm2 hw hmid hn hlo hhi hq
  go_enter Try.func41, Try.ntmps41
  go_wp2_with fail
  clear he1 he2 he3 he4 he5 he6 eh0 eh1 eh2 eh3 en ew ep es
  go_loopw [20, 21] (fun iv jv wr => ∃ i j : Nat, iv = .int .i64 i ∧ jv = .int .i64 j ∧ lo ≤ i ∧ i ≤ j ∧ j ≤ hi ∧ Hid (P.Bs (fun c => P.ltAt (ltI p) l0 (n - 1 - c) c) lo hi i j) ∧ SRow wr g l0 ∧ CmpAt wr p ∧ w.grownBy wr (some g)) (fun iv jv _ => (intOf jv).toNat - (intOf iv).toNat)
  case atStart => exact ⟨lo, hi, rfl, by rw [HHI.out], by omega, by omega, by omega, HB0, hs, hp, World.grownBy.refl _ _⟩
  case round =>
    clear hs HB0 hp
    obtain ⟨i, j, rfl, rfl, hmi, hij, hjb, HB, hS, hP, hg⟩ := hrel
    by_cases hlt : i < j
    · obtain ⟨l, hll⟩ : ∃ l, l = l0 := ⟨_, rfl⟩
      obtain ⟨h, hh⟩ : ∃ h : Nat, h = (i + j) / 2 := ⟨_, rfl⟩
      have eh0 : IntKind.i64.wrap ((i : Int) + (j : Int)) = (i : Int) + (j : Int) := IntWalk.i64_in _ (by omega)
      have eh1 : IntKind.u64.wrap ((i : Int) + (j : Int)) = (i : Int) + (j : Int) := IntWalk.u64_in _ (by omega)
      have eh2 : ((i : Int) + (j : Int)) / 2 = (h : Int) := by omega
      have eh3 : IntKind.i64.wrap (h : Int) = (h : Int) := IntWalk.i64_in _ (by omega)
      have hih : i ≤ h := by omega
      have hhj : h < j := by omega
      obtain ⟨d, hd⟩ : ∃ d : Nat, d = n - 1 - h := ⟨_, rfl⟩
      have hdd := HC3.out h (by omega) (by omega)
      have hdN : d < N := by omega
      have ed : IntKind.i64.wrap ((q : Int) - (h : Int)) = (d : Int) := by rw [IntWalk.i64_in _ (by omega)]; omega
      have HI : Hid (d < l.length) := Lib.hid (by rw [hll, HN.out]; omega)
      have HJ : Hid (h < l.length) := Lib.hid (by rw [hll, HN.out]; omega)
      rw [← hll] at hS
      obtain ⟨x, hx⟩ : ∃ x, x = l[d]'(HI.out) := ⟨_, rfl⟩
      obtain ⟨y, hy⟩ : ∃ y, y = l[h]'(HJ.out) := ⟨_, rfl⟩
      obtain ⟨b, hb⟩ : ∃ b, b = P.ltAt (ltI p) l (d) (h) := ⟨_, rfl⟩
      have HLx : Hid (∀ W, Grows wr W → RvAt W ⟨g, (d), none⟩ x) := Lib.hid (fun W h => by rw [hx]; exact (hS.new h).at HI.out)
      have HLy : Hid (∀ W, Grows wr W → RvAt W ⟨g, (h), none⟩ y) := Lib.hid (fun W h => by rw [hy]; exact (hS.new h).at HJ.out)
      have HCC : Hid (∀ W, Grows wr W → Calls Try.prog 30 #[vI x, vI y, .pointer (some ⟨p.b, 0, none⟩)] W fun e w' => e = .returned (.int .i64 (cmpI p x y)) ∧ Below W.heap.size W w') := Lib.hid (fun W h => by1_any p _ _ W (hP.new h))
      have HBB : Hid (b = P.ltAt (ltI p) l (d) (h)) := Lib.hid hb
      have hcb : decide (cmpI p x y < 0) = b := by rw [hb, P.ltAt_eq HI.out HJ.out, ← hx, ← hy]; exact cmpI_neg p _ _
      clear hx hy hb
      have HLL := Lib.hid hll
      have HD := Lib.hid hd
      have hph : 0 ≤ (h : Int) ∧ (h : Int) < (N : Int) := by omega
      have hpa : 0 ≤ (d : Int) ∧ (d : Int) < (N : Int) := by omega
      have hth : ((h : Int)).toNat = h := by omega
      have hta : ((d : Int)).toNat = d := by omega
      clear hll hh hd hdd
      go_wp2_with fail
      refine wp_fam (n := 14) (size := 220) (D := [158, 159, 160, 161, 162, 163, 164, 165, 166, 167, 168, 169, 170, 171]) [(158, isV (cmpV p)), (159, isV (.slice (some ⟨g, 0, none⟩) N c)), (160, isV (.int .i64 ((q : Nat) : Int))), (161, isV (.int .i64 ((h : Nat) : Int))), (162, isV (.int .i64 ((d : Nat) : Int))), (163, isV (.pointer (some ⟨g, (d), none⟩))), (164, isV (vI x)), (165, isV (.slice (some ⟨g, 0, none⟩) N c)), (166, isV (.int .i64 ((h : Nat) : Int))), (167, isV (.pointer (some ⟨g, (h), none⟩))), (168, isV (vI y)), (169, isV (.int .i64 (cmpI p x y))), (170, isV (.bool b)), (171, isV (.bool (!b)))] (by kernel_rfl) (by rfl) (by kernel_rfl) ?_ ?_
      · simp only [List.take_succ_cons, List.take_zero, famAll]
        repeat' apply And.intro
        · intro f V hg hl
          simp [Oper.looksAt, Op.operands, Call.operands, famAt, famOf, isV] at hl
          simp [famWants, boolIs_bool, boolIs_undef, execOp, rho, go_sem, hl, famUpon, famOf, isV, Grows.refl]
        · intro f V hg hl
          simp [Oper.looksAt, Op.operands, Call.operands, famAt, famOf, isV] at hl
          simp [famWants, boolIs_bool, boolIs_undef, execOp, rho, go_sem, hl, famUpon, famOf, isV, Grows.refl]
        · intro f V hg hl
          simp [Oper.looksAt, Op.operands, Call.operands, famAt, famOf, isV] at hl
          simp [famWants, boolIs_bool, boolIs_undef, execOp, rho, go_sem, hl, famUpon, famOf, isV, Grows.refl]
        · intro f V hg hl
          simp [Oper.looksAt, Op.operands, Call.operands, famAt, famOf, isV] at hl
          simp [famWants, boolIs_bool, boolIs_undef, execOp, rho, go_sem, hl, famUpon, famOf, isV, Grows.refl]
        · intro f V hg hl
          simp [Oper.looksAt, Op.operands, Call.operands, famAt, famOf, isV] at hl
          simp [famWants, boolIs_bool, boolIs_undef, execOp, rho, go_sem, hl, ed, famUpon, famOf, isV, Grows.refl]
        · intro f V hg hl
          simp [Oper.looksAt, Op.operands, Call.operands, famAt, famOf, isV] at hl
          simp [famWants, boolIs_bool, boolIs_undef, execOp, rho, go_sem, hl, M.addMk, hpa, hta, famUpon, famOf, isV, Grows.refl]
        · intro f V hg hl
          simp [Oper.looksAt, Op.operands, Call.operands, famAt, famOf, isV] at hl
          have hld := run_loadr (HLx.out V hg)
          refine ⟨fun _ => ?_, fun e => ?_⟩
          · unfold execOp
            simp only [rho, hl]
            simp only [Sem.run_bind, Sem.run_pure, hld, Result.andThen_ok, famUpon]
            exact ⟨Grows.refl _, fun d e => by injection e with e; subst e; simp [famOf, isV]⟩
          · simp [famWants, boolIs_bool, hl] at e
        · intro f V hg hl
          simp [Oper.looksAt, Op.operands, Call.operands, famAt, famOf, isV] at hl
          simp [famWants, boolIs_bool, boolIs_undef, execOp, rho, go_sem, hl, famUpon, famOf, isV, Grows.refl]
        · intro f V hg hl
          simp [Oper.looksAt, Op.operands, Call.operands, famAt, famOf, isV] at hl
          simp [famWants, boolIs_bool, boolIs_undef, execOp, rho, go_sem, hl, famUpon, famOf, isV, Grows.refl]
        · intro f V hg hl
          simp [Oper.looksAt, Op.operands, Call.operands, famAt, famOf, isV] at hl
          simp [famWants, boolIs_bool, boolIs_undef, execOp, rho, go_sem, hl, M.addMk, hph, hth, famUpon, famOf, isV, Grows.refl]
        · intro f V hg hl
          simp [Oper.looksAt, Op.operands, Call.operands, famAt, famOf, isV] at hl
          have hld := run_loadr (HLy.out V hg)
          refine ⟨fun _ => ?_, fun e => ?_⟩
          · unfold execOp
            simp only [rho, hl]
            simp only [Sem.run_bind, Sem.run_pure, hld, Result.andThen_ok, famUpon]
            exact ⟨Grows.refl _, fun d e => by injection e with e; subst e; simp [famOf, isV]⟩
          · simp [famWants, boolIs_bool, hl] at e
        · intro f V hg hl
          simp [Oper.looksAt, Op.operands, Call.operands, famAt, famOf, isV] at hl
          simp [famWants, boolIs_bool, boolIs_undef, execOp, rho, go_sem, hl, famUpon, famOf, isV, Grows.refl]
          refine (HCC.out V hg).mono ?_
          rintro e w'' ⟨rfl, hb'⟩
          exact ⟨rfl, hb'⟩
        · intro f V hg hl
          simp [Oper.looksAt, Op.operands, Call.operands, famAt, famOf, isV] at hl
          simp [famWants, boolIs_bool, boolIs_undef, execOp, rho, go_sem, hl, hcb, famUpon, famOf, isV, Grows.refl]
        · intro f V hg hl
          simp [Oper.looksAt, Op.operands, Call.operands, famAt, famOf, isV] at hl
          simp [famWants, boolIs_bool, boolIs_undef, execOp, rho, go_sem, hl, famUpon, famOf, isV, Grows.refl]
        · trivial
      · intro u V hgV hu
        have e171 : u 171 = .bool (!b) := hu 171 (by decide)
        simp only [List.drop_succ_cons, List.drop_zero, fill, Act.put, List.setIfInBounds_toArray, List.set_cons_zero, List.set_cons_succ, e171]
        refine wpList_nil ?_
        have hgV' := gb_below hgV (some g)
        have hSV := hS.new hgV
        have hPV := hP.new hgV
        clear hu e171 HLx HLy HCC hcb
        have hgW := gb_trans hg hgV'
        rw [HLL.out] at hSV
        cases b with
        | false =>
          have HB2 : Hid (P.Bs (fun c => P.ltAt (ltI p) l0 (n - 1 - c) c) lo hi (h + 1) j) := Lib.hid (HB.out.up HMo.out hih hhj (by rw [← HLL.out, ← HD.out, ← HBB.out]))
          clear HBB hS hP hg hgV hgV' HB HLL
          simp only [Bool.not_false]
          go_wp2
          go_roundw
          case rel => exact ⟨h + 1, j, by go_num, rfl, by omega, by omega, by omega, HB2, hSV, hPV, hgW⟩
          case measure => simp [intOf]; omega
        | true =>
          have HB2 : Hid (P.Bs (fun c => P.ltAt (ltI p) l0 (n - 1 - c) c) lo hi i h) := Lib.hid (HB.out.down HMo.out hih hhj (by rw [← HLL.out, ← HD.out, ← HBB.out]))
          clear HBB hS hP hg hgV hgV' HB HLL
          simp only [Bool.not_true]
          go_wp2
          go_roundw
          case rel => exact ⟨i, h, rfl, rfl, by omega, by omega, by omega, HB2, hSV, hPV, hgW⟩
          case measure => simp [intOf]; omega
    · have hij' : j = i := by omega
      have HBS : Hid (P.Bs (fun c => P.ltAt (ltI p) l0 (n - 1 - c) c) lo hi i i) := Lib.hid (by have := HB.out; rw [hij'] at this; exact this)
      have hih : i ≤ hi := by omega
      clear hij' HB
      obtain ⟨t, ht⟩ : ∃ t : Nat, t = n - i := ⟨_, rfl⟩
      have hnn := HNN.out
      have et : IntKind.i64.wrap ((n : Int) - (i : Int)) = (t : Int) := by rw [IntWalk.i64_in _ (by omega)]; omega
      have hlo := HLO.out
      have hhi := HHI.out
      have hti : t + i = mid + m := by omega
      have hww := HW.out
      have htb : t ≤ b0 := by omega
      clear hww
      have HT : Hid (t = n - i) := Lib.hid ht
      have HLN := HN.out
      clear ht hnn hlo hhi
      by_cases hr : i < mid
      · by_cases hf : a < i
        · by_cases hs : t < b0
          · skip
            have g0 : (i : Int) < (m : Int) := by omega
            have g1 : (m : Int) < (t : Int) := by omega
            have g2 : (a : Int) < (i : Int) := by omega
            have g3 : (i : Int) < (mid : Int) := by omega
            have g4 : (mid : Int) < (t : Int) := by omega
            have g5 : (t : Int) < (b0 : Int) := by omega
            have HSO : Hid (∀ l1, P.Rot l0 l1 i m t → P.Sym (ltI p) l0 l1 a i mid t b0) := Lib.hid (fun l1 hr => by have := P.Sym.of (ordI p) HS1.out HS2.out HBS.out HNN.out HW.out (by rw [← HT.out]; exact hr); rw [← HT.out] at this; exact this)
            have hc := rotate_any g N c i m t (cmpV p) l0 wr HLN hS (by omega) (by omega) (by omega) hl
            have HC := Lib.hid hc
            clear hc hS
            go_wp2_with fail
            refine HC.out.mono ?_
            rintro e W1 ⟨rfl, l1, hS1, hR1, hg1⟩
            have hP1 := hP.gb hg1 hpg
            have hgg1 := gb_trans hg hg1
            clear HC hg hg1 hP
            have HSy := Lib.hid (HSO.out l1 hR1)
            have hl1 : l1.length = N := by rw [HSy.out.first.2.2.1, HLN]
            have hc := HIH.out a i mid l1 _ (by omega) hl1 hS1 hP1 (by omega) (by omega) (by omega) HSy.out.first.1 HSy.out.first.2.1
            have HC := Lib.hid hc
            have HL1 := Lib.hid hl1
            clear hc hS1 hR1 hl1
            go_wp2_with fail
            refine HC.out.mono ?_
            rintro e W2 ⟨rfl, l2, hS2, hM2, hg2⟩
            have hP2 := hP1.gb hg2 hpg
            have hgg2 := gb_trans hgg1 hg2
            have hl1 := HL1.out
            clear HC hgg1 hg2 hP1
            have HM2 := Lib.hid hM2
            have hl2 : l2.length = N := by rw [hM2.len, hl1]
            have hc := HIH.out mid t b0 l2 _ (by omega) hl2 hS2 hP2 (by omega) (by omega) h3 (HSy.out.second hM2).1 (HSy.out.second hM2).2
            have HC := Lib.hid hc
            clear hc hS2 hM2 hl2
            go_wp2_with fail
            refine HC.out.mono ?_
            rintro e W3 ⟨rfl, l3, hS3, hM3, hg3⟩
            have hgg3 := gb_trans hgg2 hg3
            have HF := Lib.hid (HSy.out.fin (ordI p) HM2.out hM3)
            clear HC hgg2 hg3 hP2 hM3
            go_wp2
            first | go_end0 | refine bodyPost_ret (results_none rfl _ _ _) rfl ?_
            exact ⟨rfl, l3, hS3, HF.out, hgg3⟩
          · skip
            have g0 : (i : Int) < (m : Int) := by omega
            have g1 : (m : Int) < (t : Int) := by omega
            have g2 : (a : Int) < (i : Int) := by omega
            have g3 : (i : Int) < (mid : Int) := by omega
            have g4 : (mid : Int) < (t : Int) := by omega
            have g5 : ¬ (t : Int) < (b0 : Int) := by omega
            have HSO : Hid (∀ l1, P.Rot l0 l1 i m t → P.Sym (ltI p) l0 l1 a i mid t b0) := Lib.hid (fun l1 hr => by have := P.Sym.of (ordI p) HS1.out HS2.out HBS.out HNN.out HW.out (by rw [← HT.out]; exact hr); rw [← HT.out] at this; exact this)
            have hc := rotate_any g N c i m t (cmpV p) l0 wr HLN hS (by omega) (by omega) (by omega) hl
            have HC := Lib.hid hc
            clear hc hS
            go_wp2_with fail
            refine HC.out.mono ?_
            rintro e W1 ⟨rfl, l1, hS1, hR1, hg1⟩
            have hP1 := hP.gb hg1 hpg
            have hgg1 := gb_trans hg hg1
            clear HC hg hg1 hP
            have HSy := Lib.hid (HSO.out l1 hR1)
            have hl1 : l1.length = N := by rw [HSy.out.first.2.2.1, HLN]
            have hc := HIH.out a i mid l1 _ (by omega) hl1 hS1 hP1 (by omega) (by omega) (by omega) HSy.out.first.1 HSy.out.first.2.1
            have HC := Lib.hid hc
            have HL1 := Lib.hid hl1
            clear hc hS1 hR1 hl1
            go_wp2_with fail
            refine HC.out.mono ?_
            rintro e W2 ⟨rfl, l2, hS2, hM2, hg2⟩
            have hP2 := hP1.gb hg2 hpg
            have hgg2 := gb_trans hgg1 hg2
            have hl1 := HL1.out
            clear HC hgg1 hg2 hP1
            have HM2 := Lib.hid hM2
            have hl2 : l2.length = N := by rw [hM2.len, hl1]
            obtain ⟨l3, hS3, hM3⟩ : ∃ l3, SRow _ g l3 ∧ P.Mg (ltI p) l2 l3 mid b0 := ⟨l2, hS2, P.Mg.self (P.SrtAt.glue (HSy.out.second hM2).1 (HSy.out.second hM2).2 (by omega))⟩
            have hgg3 := hgg2
            have HF := Lib.hid (HSy.out.fin (ordI p) HM2.out hM3)
            clear hgg2 hM3 hM2 hl2
            go_wp2
            first | go_end0 | refine bodyPost_ret (results_none rfl _ _ _) rfl ?_
            exact ⟨rfl, l3, hS3, HF.out, hgg3⟩
        · by_cases hs : t < b0
          · skip
            have g0 : (i : Int) < (m : Int) := by omega
            have g1 : (m : Int) < (t : Int) := by omega
            have g2 : ¬ (a : Int) < (i : Int) := by omega
            have g3 : (mid : Int) < (t : Int) := by omega
            have g4 : (t : Int) < (b0 : Int) := by omega
            have HSO : Hid (∀ l1, P.Rot l0 l1 i m t → P.Sym (ltI p) l0 l1 a i mid t b0) := Lib.hid (fun l1 hr => by have := P.Sym.of (ordI p) HS1.out HS2.out HBS.out HNN.out HW.out (by rw [← HT.out]; exact hr); rw [← HT.out] at this; exact this)
            have hc := rotate_any g N c i m t (cmpV p) l0 wr HLN hS (by omega) (by omega) (by omega) hl
            have HC := Lib.hid hc
            clear hc hS
            go_wp2_with fail
            refine HC.out.mono ?_
            rintro e W1 ⟨rfl, l1, hS1, hR1, hg1⟩
            have hP1 := hP.gb hg1 hpg
            have hgg1 := gb_trans hg hg1
            clear HC hg hg1 hP
            have HSy := Lib.hid (HSO.out l1 hR1)
            have hl1 : l1.length = N := by rw [HSy.out.first.2.2.1, HLN]
            obtain ⟨l2, hS2, hM2⟩ : ∃ l2, SRow _ g l2 ∧ P.Mg (ltI p) l1 l2 a mid := ⟨l1, hS1, P.Mg.self (P.SrtAt.glue HSy.out.first.1 HSy.out.first.2.1 (by omega))⟩
            have hP2 := hP1
            have hgg2 := hgg1
            clear hP1 hgg1 hS1
            have HM2 := Lib.hid hM2
            have hl2 : l2.length = N := by rw [hM2.len, hl1]
            have hc := HIH.out mid t b0 l2 _ (by omega) hl2 hS2 hP2 (by omega) (by omega) h3 (HSy.out.second hM2).1 (HSy.out.second hM2).2
            have HC := Lib.hid hc
            clear hc hS2 hM2 hl2
            go_wp2_with fail
            refine HC.out.mono ?_
            rintro e W3 ⟨rfl, l3, hS3, hM3, hg3⟩
            have hgg3 := gb_trans hgg2 hg3
            have HF := Lib.hid (HSy.out.fin (ordI p) HM2.out hM3)
            clear HC hgg2 hg3 hP2 hM3
            go_wp2
            first | go_end0 | refine bodyPost_ret (results_none rfl _ _ _) rfl ?_
            exact ⟨rfl, l3, hS3, HF.out, hgg3⟩
          · skip
            have g0 : (i : Int) < (m : Int) := by omega
            have g1 : (m : Int) < (t : Int) := by omega
            have g2 : ¬ (a : Int) < (i : Int) := by omega
            have g3 : (mid : Int) < (t : Int) := by omega
            have g4 : ¬ (t : Int) < (b0 : Int) := by omega
            have HSO : Hid (∀ l1, P.Rot l0 l1 i m t → P.Sym (ltI p) l0 l1 a i mid t b0) := Lib.hid (fun l1 hr => by have := P.Sym.of (ordI p) HS1.out HS2.out HBS.out HNN.out HW.out (by rw [← HT.out]; exact hr); rw [← HT.out] at this; exact this)
            have hc := rotate_any g N c i m t (cmpV p) l0 wr HLN hS (by omega) (by omega) (by omega) hl
            have HC := Lib.hid hc
            clear hc hS
            go_wp2_with fail
            refine HC.out.mono ?_
            rintro e W1 ⟨rfl, l1, hS1, hR1, hg1⟩
            have hP1 := hP.gb hg1 hpg
            have hgg1 := gb_trans hg hg1
            clear HC hg hg1 hP
            have HSy := Lib.hid (HSO.out l1 hR1)
            have hl1 : l1.length = N := by rw [HSy.out.first.2.2.1, HLN]
            obtain ⟨l2, hS2, hM2⟩ : ∃ l2, SRow _ g l2 ∧ P.Mg (ltI p) l1 l2 a mid := ⟨l1, hS1, P.Mg.self (P.SrtAt.glue HSy.out.first.1 HSy.out.first.2.1 (by omega))⟩
            have hP2 := hP1
            have hgg2 := hgg1
            clear hP1 hgg1 hS1
            have HM2 := Lib.hid hM2
            have hl2 : l2.length = N := by rw [hM2.len, hl1]
            obtain ⟨l3, hS3, hM3⟩ : ∃ l3, SRow _ g l3 ∧ P.Mg (ltI p) l2 l3 mid b0 := ⟨l2, hS2, P.Mg.self (P.SrtAt.glue (HSy.out.second hM2).1 (HSy.out.second hM2).2 (by omega))⟩
            have hgg3 := hgg2
            have HF := Lib.hid (HSy.out.fin (ordI p) HM2.out hM3)
            clear hgg2 hM3 hM2 hl2
            go_wp2
            first | go_end0 | refine bodyPost_ret (results_none rfl _ _ _) rfl ?_
            exact ⟨rfl, l3, hS3, HF.out, hgg3⟩
      · skip
        have g0 : (i : Int) < (m : Int) := by omega
        have g1 : ¬ (m : Int) < (t : Int) := by omega
        have g2 : (a : Int) < (i : Int) := by omega
        have g3 : ¬ (i : Int) < (mid : Int) := by omega
        have g4 : (mid : Int) < (t : Int) := by omega
        have g5 : (t : Int) < (b0 : Int) := by omega
        have HSO : Hid (∀ l1, P.Rot l0 l1 i m t → P.Sym (ltI p) l0 l1 a i mid t b0) := Lib.hid (fun l1 hr => by have := P.Sym.of (ordI p) HS1.out HS2.out HBS.out HNN.out HW.out (by rw [← HT.out]; exact hr); rw [← HT.out] at this; exact this)
        obtain ⟨l1, hS1, hR1⟩ : ∃ l1, SRow wr g l1 ∧ P.Rot l0 l1 i m t := ⟨l0, hS, P.Rot.id l0 (by omega) (by omega) (by omega) (by omega)⟩
        have hP1 := hP
        have hgg1 := hg
        clear hP hg hS
        have HSy := Lib.hid (HSO.out l1 hR1)
        have hl1 : l1.length = N := by rw [HSy.out.first.2.2.1, HLN]
        obtain ⟨l2, hS2, hM2⟩ : ∃ l2, SRow _ g l2 ∧ P.Mg (ltI p) l1 l2 a mid := ⟨l1, hS1, P.Mg.self (P.SrtAt.glue HSy.out.first.1 HSy.out.first.2.1 (by omega))⟩
        have hP2 := hP1
        have hgg2 := hgg1
        clear hP1 hgg1 hS1
        have HM2 := Lib.hid hM2
        have hl2 : l2.length = N := by rw [hM2.len, hl1]
        have hc := HIH.out mid t b0 l2 _ (by omega) hl2 hS2 hP2 (by omega) (by omega) h3 (HSy.out.second hM2).1 (HSy.out.second hM2).2
        have HC := Lib.hid hc
        clear hc hS2 hM2 hl2
        go_wp2_with fail
        refine HC.out.mono ?_
        rintro e W3 ⟨rfl, l3, hS3, hM3, hg3⟩
        have hgg3 := gb_trans hgg2 hg3
        have HF := Lib.hid (HSy.out.fin (ordI p) HM2.out hM3)
        clear HC hgg2 hg3 hP2 hM3
        go_wp2
        first | go_end0 | refine bodyPost_ret (results_none rfl _ _ _) rfl ?_
        exact ⟨rfl, l3, hS3, HF.out, hgg3⟩
end Go.Proofs.Ytodlifbhpgphcaa
