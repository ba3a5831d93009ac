/- The walk of BookGrows. -/
import Derived.Test.YtedcgfcmhaeldaaBkGrow
namespace Go.Proofs.Ytedcgfcmhaeldaa
set_option linter.unusedVariables false
set_option linter.unusedSimpArgs false
open Go.ChangeShapes Go.WideShapes Go.ChangeAt Go.RowKit

theorem Out.other {w0 W W' : World} {g1 g2 x : Nat} {A : Option Addr} {l : List EvV} {X : List E.Ev} {H : D.Dot → Bool} (h : Out w0 W g1 g2 A l X) (hx : Is W x H) (hg : W.grownBy W' (some x)) : Out w0 W' g1 g2 A l X := ⟨⟨hx.rds h.er.1 hg, fun e he => hx.rds (h.er.2 e he) hg⟩, h.pl⟩

set_option maxRecDepth 100000 in
set_option maxHeartbeats 16000000 in
theorem grows_main (A : Option Addr) (n c : Nat) (l : List EvV) (w : World) (hA : EvsIn w A n c l) :
    Calls Try.prog 6 #[.slice A n c] w fun e w' => e = .returned (.bool true) ∧ Below w.heap.size w w' := by
  obtain ⟨hn, hnc, hcm, hr, hmk⟩ := hA
  have hnm : n ≤ maxLen := by omega
  have HN := Lib.hid hn
  have HMK := Lib.hid hmk
  clear hn hmk hnc hcm
  by_cases h40 : 100 < n
  · have q40 : decide ((100 : Int) < (n : Int)) = true := by simp; omega
    clear h40
    go_enter Try.func6, Try.ntmps6
    go_wp2_with fail
    refine (balive_any _).mono ?_
    rintro e w1 ⟨rfl, hb1⟩
    go_wp2
    go_ret
    exact ⟨rfl, hb1⟩
  have q40 : decide ((100 : Int) < (n : Int)) = false := by simp; omega
  have hnb : n ≤ 1000000 := by omega
  clear h40
  go_enter Try.func6, Try.ntmps6
  go_wp2_with fail
  refine (balive_any _).mono ?_
  rintro e w1 ⟨rfl, hb1⟩
  have hgr := great_any _ A n c l w1 HN.out (hr.new hb1) hnm
  go_wp2_with fail
  refine hgr.mono ?_
  rintro e w2 ⟨gt, rfl, hb2, hgt⟩
  have hb02 := below_new hb1 hb2
  clear hgr
  cases gt with
  | true =>
    clear hgt
    go_wp2
    go_ret
    exact ⟨rfl, hb02⟩
  | false =>
    have HBK : Hid (bulk l ≤ 3000) := Lib.hid (hgt rfl HMK.out)
    clear hgt hb1 hb2 HMK
    go_wp2_with fail
    refine (bnew_bok hb02).mono ?_
    rintro e w3 ⟨rfl, hB3, hb3⟩
    obtain ⟨g, hg⟩ : ∃ q, q = w2.heap.size := ⟨_, rfl⟩
    rw [← hg] at hB3 ⊢
    clear hg hb3 hb02
    obtain ⟨w4, hw4⟩ : ∃ W, w3.alloc (.map #[] 0) = W := ⟨_, rfl⟩
    obtain ⟨hR, hhR⟩ : ∃ q, q = w3.heap.size := ⟨_, rfl⟩
    have hb4 : Below w3.heap.size w3 w4 := by rw [← hw4]; exact b_alloc _ _
    have hI4 : Is w4 hR fun _ => false := by rw [← hw4, hhR]; exact Is.made _
    have hG4 : GSt w w4 g hR none B.new fun _ => false := ⟨hB3.new hb4, hI4, by simp, by rw [hhR]; exact hB3.bl.size⟩
    have HGR0 : Hid (B.Grw B.new fun _ => false) := Lib.hid B.grw_new
    have HW4 := Lib.hid hw4
    have HHR := Lib.hid hhR
    have hmm := @run_makeMap Try.prog
    clear hw4 hhR hI4 hb4 hB3
    go_wp2_with fail
    rw [HW4.out, ← HHR.out]
    go_loopw [28] (fun iv wr => ∃ (i : Nat) (m : Option Nat) (R : D.Dot → Bool), iv = .int .i64 i ∧ i ≤ n ∧ GSt w wr g hR m (B.run B.new (plain (l.take i))) R ∧ Hid (B.Grw (B.run B.new (plain (l.take i))) R)) (fun iv _ => n - (intOf iv).toNat)
    case atStart => exact ⟨0, none, _, rfl, by omega, hG4, HGR0⟩
    case round =>
      obtain ⟨i, m, R, rfl, hi, hG, HGR⟩ := hrel
      clear hG4 HGR0
      by_cases hlt : i < n
      · have hlt' : i < l.length := by rw [HN.out]; exact hlt
        obtain ⟨ad, rfl, _, hrx, c0, c1, c2, c3, c4, c5, c6, c7, c8, c9, c10, c11, c12, c13⟩ := (hG.bok.erds hr).cells hlt'
        obtain ⟨x, hx⟩ : ∃ x, x = l[i] := ⟨_, rfl⟩
        rw [← hx] at hrx c0 c1 c2 c3 c4 c5 c6 c7 c8 c9 c10 c11 c12 c13
        have hxl : x ∈ l := by rw [hx]; exact List.getElem_mem hlt'
        have HXX := Lib.hid hx
        obtain ⟨F, M, Ax, cx⟩ := x
        simp only at hrx c0 c1 c2 c3 c4 c5 c6 c7 c8 c9 c10 c11 c12 c13
        obtain ⟨q, hq⟩ : ∃ q, M.length = q := ⟨_, rfl⟩
        rw [hq] at c13
        have hqm : q ≤ maxLen := by rw [← hq]; exact len_max (bulk_max HBK.out hxl)
        have HQ := Lib.hid hq
        have HXL := Lib.hid hxl
        clear hq hx hxl
        obtain ⟨gx, hgx⟩ : ∃ q, q = wr.heap.size := ⟨_, rfl⟩
        obtain ⟨w5, hw5⟩ : ∃ W, wr.alloc (.cells (ecs F Ax q cx) 43) = W := ⟨_, rfl⟩
        have hb5 : Below wr.heap.size wr w5 := by rw [← hw5]; exact b_alloc _ _
        have hX5 : Blo w5 gx 43 (ecs F Ax q cx) := by rw [← hw5, hgx]; exact Blo.made _ _ _
        have hgxg : gx ≠ g := by have := hG.bok.lt; omega
        have hrM : Rds w (fun b => b < w.heap.size) Ax (dvs M) := hr.2 _ HXL.out
        have HRM := Lib.hid hrM
        have HW5 := Lib.hid hw5
        have HGX := Lib.hid hgx
        have HRS := Lib.hid (run_take (b := B.new) hlt' HXX.out)
        obtain ⟨b, hb⟩ : ∃ b, b = B.run B.new (plain (l.take i)) := ⟨_, rfl⟩
        rw [← hb] at hG HGR HRS
        have hG5 := hG.new hb5
        have hse := bseen_any w5 hG5.bok.pb
        have hgl := hG.bok.gl
        have hgw := hG.bok.lt
        have hs5 := hb5.size
        clear hw5 hgx hb hG hrx hrM
        go_wp2_with fail
        rw [HW5.out, ← HGX.out]
        refine hse.mono ?_
        rintro e w6 ⟨Ay, cy, rfl, hC6, hb6⟩
        have hs6 := hb6.size
        obtain ⟨w7, hw7⟩ : ∃ W, w6.alloc (.cells (scs (D.cU b.saw) Ay (D.cM b.saw).length cy) 53) = W := ⟨_, rfl⟩
        obtain ⟨gy, hgy⟩ : ∃ q, q = w6.heap.size := ⟨_, rfl⟩
        have hb7 : Below w6.heap.size w6 w7 := by rw [← hw7]; exact b_alloc _ _
        have hW7 : Was w7 gy b := ⟨Ay, cy, by rw [← hw7, hgy]; exact Blo.made _ _ _, (hC6.new hb7).drd.mono fun _ _ => trivial⟩
        have hX7 := (hX5.new hb6).new hb7
        have hG7 := (hG5.new hb6).new hb7
        have hgyg : gy ≠ g := by omega
        have hadd := badd_bok (fun b => b < w.heap.size) F Ax q cx M hG7.bok HQ.out (hG7.bok.rds HRM.out) (fun b hb => by omega) hqm
        obtain ⟨U6, hU6⟩ : ∃ U, U = D.cU b.saw := ⟨_, rfl⟩
        obtain ⟨n6, hn6⟩ : ∃ U, U = (D.cM b.saw).length := ⟨_, rfl⟩
        rw [← hU6, ← hn6] at hw7 ⊢
        obtain ⟨y0, y1, y2, y3, y4, y5, y6, y7, y8, y9, y10, y11, y12, y13⟩ := set14 hX7
        rw [← hw7] at y0 y1 y2 y3 y4 y5 y6 y7 y8 y9 y10 y11 y12 y13
        have HW7 := Lib.hid hw7
        have HGY := Lib.hid hgy
        clear hse hw7 hgy c0 c1 c2 c3 c4 c5 c6 c7 c8 c9 c10 c11 c12 c13 hX5 hG5 hC6 hU6 hn6 hb5 hb6 hb7
        go_wp2_with fail
        rw [HW7.out, ← HGY.out]
        refine hadd.mono ?_
        rintro e w8 ⟨rfl, ⟨m', hB8, hm8⟩, hK8⟩
        have hG8 := hG7.add hK8 hB8 hm8
        have hW8 := hW7.kpt hG7.bok.pb hK8 hgyg
        have hX8 := hG7.bok.pb.blo hK8 hX7 hgxg
        clear hadd y0 y1 y2 y3 y4 y5 y6 y7 y8 y9 y10 y11 y12 y13 hB8 hm8 hK8 hG7 hW7 hX7 hs5 hs6 hgw hgyg hgxg
        by_cases h0 : B.addE b (F, M) = 0
        · have HG0 : Hid (B.Grw (B.add b (F, M)) (B.rmv R (F, M))) := Lib.hid (B.grw_ok HGR.out h0)
          rw [h0]
          obtain ⟨y0, y1, y2, y3, y4, y5, y6, y7, y8, y9, y10, y11, y12, y13⟩ := set14 hX8
          have hqb : q ≤ 1000000 := by rw [← HQ.out]; have := bulk_max HBK.out HXL.out; simp only at this; omega
          clear h0 y0 y1 y2 y3 y4 y5 y6 y7 y8 y9 y10 y11 y12 hX8
          go_wp2_with fail
          clear y13
          go_loopw [41] (fun iv ws => ∃ j : Nat, iv = .int .i64 j ∧ j ≤ q ∧ GSt w ws g hR m' (B.add b (F, M)) (orT R M j) ∧ Was ws gy b) (fun iv _ => q - (intOf iv).toNat)
          case atStart => exact ⟨0, rfl, by omega, by rw [orT_zero]; exact hG8, hW8⟩
          case round =>
            obtain ⟨j, rfl, hj, hGj, hWj⟩ := hrel
            clear hG8 hW8
            by_cases hltj : j < q
            · have hltM : j < M.length := by rw [HQ.out]; exact hltj
              obtain ⟨xd, rfl, _, y0, y1⟩ := (hGj.bok.rds HRM.out).dot hltM
              obtain ⟨dd, hdd⟩ : ∃ d, d = M[j] := ⟨_, rfl⟩
              rw [← hdd] at y0 y1
              have HOS := Lib.hid (orT_snoc R M hltM)
              rw [← hdd] at HOS
              obtain ⟨d1, d2⟩ := dd
              simp only at y0 y1
              obtain ⟨gd, hgd⟩ : ∃ q, q = wr.heap.size := ⟨_, rfl⟩
              obtain ⟨w9, hw9⟩ : ∃ W, wr.alloc (.cells #[.int .i64 d1, .int .i64 d2] 39) = W := ⟨_, rfl⟩
              have hb9 : Below wr.heap.size wr w9 := by rw [← hw9]; exact b_alloc _ _
              have hG9 := hGj.new hb9
              have hW9 := hWj.new hb9
              have hI9 := hG9.rm
              have HW9 := Lib.hid hw9
              rw [← hw9] at hI9
              clear hw9 hdd hgd hGj hWj hb9
              go_wp2_with (refine wpList_isput _ rfl _ _ _ rfl hR rfl (d1, d2) rfl rfl hI9 ?_)
              intro w10 hI10 hg10
              rw [HW9.out] at hg10
              rw [HOS.out] at hI10
              have hG10 := hG9.put hg10 hI10
              have hW10 := hW9.other hG9.rm hg10
              clear hI9 hI10 hg10 hG9 hW9 y0 y1
              go_wp2
              go_roundw
              case rel => exact ⟨j + 1, by go_num, by omega, hG10, hW10⟩
              case measure => simp [intOf]; omega
            · have hrt := orT_all R F M (j := j) (by rw [HQ.out]; omega)
              rw [hrt] at hGj
              clear hrt
              have hGe := hGj
              obtain ⟨Ay, cy, hYb, hYd⟩ := hWj
              obtain ⟨U6, hU6⟩ : ∃ U, U = D.cU b.saw := ⟨_, rfl⟩
              obtain ⟨M6, hM6⟩ : ∃ M, M = D.cM b.saw := ⟨_, rfl⟩
              obtain ⟨n6, hn6⟩ : ∃ k, M6.length = k := ⟨_, rfl⟩
              rw [← hU6, ← hM6, hn6] at hYb
              rw [← hM6] at hYd
              obtain ⟨U7, hU7⟩ : ∃ U, U = D.cU (B.add b (F, M)).saw := ⟨_, rfl⟩
              obtain ⟨M7, hM7⟩ : ∃ M1, M1 = D.cM (B.add b (F, M)).saw := ⟨_, rfl⟩
              obtain ⟨n7, hn7⟩ : ∃ k, M7.length = k := ⟨_, rfl⟩
              have hn6l : n6 ≤ 1000000 := by rw [← hn6, hM6]; exact Nat.le_trans (D.cM_len _) (by omega)
              have hn7l : n7 ≤ 1000000 := by rw [← hn7, hM7]; exact Nat.le_trans (D.cM_len _) (by omega)
              have HLE : Hid (D.lst (D.less U6 M6 U7 M7) = []) := Lib.hid (by rw [hU6, hM6, hU7, hM7]; exact grows_less b (F, M))
              have HY : Hid (∀ V, Grows wr V → _) := Lib.hid (fun V hV => set9 (hYb.new hV))
              have HSE : Hid (∀ V, Grows wr V → Calls Try.prog 19 #[.pointer (some ⟨g, 0, none⟩)] V (CopyPost U7 M7 V)) := Lib.hid (fun V hV => by rw [hU7, hM7]; exact bseen_any V (hGe.bok.new hV).pb)
              have HLS : Hid (∀ V A c, Grows wr V → Copy V wr.heap.size A c M7 → Calls Try.prog 34 #[sv U6 Ay n6 cy, sv U7 A n7 c] V (DotsPost [] V)) := Lib.hid (fun V A c hV hC => by
                have := dless_any _ _ U6 Ay n6 cy M6 U7 A n7 c M7 V hn6 (hYd.new hV).rds hn6l hn7 hC.rds hn7l
                rw [HLE.out] at this
                exact this)
              have HN7 := Lib.hid hn7
              clear hU6 hM6 hn6 hU7 hM7 hn7 hYb hYd HLE
              go_wp2_with fail
              refine wp_fam (n := 6) (size := 87) (D := [48, 49, 50, 51, 52, 53]) [(48, isV (sv U6 Ay n6 cy)), (49, isV (.pointer (some ⟨g, 0, none⟩))), (50, seenV wr.heap.size n7 U7 M7), (51, drowV wr.heap.size 0 []), (52, isV (.int .i64 0)), (53, isV (.bool false))] (by kernel_rfl) (by rfl) (by kernel_rfl) ?_ ?_
              · simp only [List.take_succ_cons, List.take_zero, famAll]
                repeat' apply And.intro
                · intro f V hg hl
                  obtain ⟨k0, k1, k2, k3, k4, k5, k6, k7, k8⟩ := HY.out V hg
                  simp [Oper.looksAt, Op.operands, Call.operands, famAt, famOf, isV] at hl
                  simp [famWants, boolIs_bool, boolIs_undef, execOp, rho, go_sem, hl, k0, k1, k2, k3, k4, k5, k6, k7, k8, famUpon, famOf, isV, Grows.refl]
                · intro f V hg hl
                  simp [Oper.looksAt, Op.operands, Call.operands, famAt, famOf, isV] at hl
                  simp [famWants, boolIs_bool, boolIs_undef, execOp, rho, go_sem, hl, famUpon, famOf, isV, Grows.refl]
                · intro f V hg hl
                  simp [Oper.looksAt, Op.operands, Call.operands, famAt, famOf, isV] at hl
                  simp [famWants, boolIs_bool, boolIs_undef, execOp, rho, go_sem, hl, famUpon, famOf, isV, Grows.refl]
                  refine (HSE.out V hg).mono ?_
                  rintro e w'' ⟨A', c', rfl, hc, hb⟩
                  exact ⟨_, rfl, hb, A', c', by rw [HN7.out], hc.mono (Below.size hg)⟩
                · intro f V hg hl
                  simp [Oper.looksAt, Op.operands, Call.operands, famAt, famOf, isV] at hl
                  obtain ⟨e48, A', c', e50, hc⟩ := hl
                  have hl := e48
                  simp [famWants, boolIs_bool, boolIs_undef, execOp, rho, go_sem, hl, e50, famUpon, famOf, isV, Grows.refl]
                  refine (HLS.out V A' c' hg hc).mono ?_
                  rintro e w'' ⟨A2, c2, rfl, hR', hb'⟩
                  exact ⟨_, rfl, hb', A2, c2, rfl, hR'.mono (Below.size hg)⟩
                · intro f V hg hl
                  simp [Oper.looksAt, Op.operands, Call.operands, famAt, famOf, isV] at hl
                  obtain ⟨A', c', e51, hc⟩ := hl
                  have hl := e51
                  simp [famWants, boolIs_bool, boolIs_undef, execOp, rho, go_sem, hl, e51, famUpon, famOf, isV, Grows.refl]
                · intro f V hg hl
                  simp [Oper.looksAt, Op.operands, Call.operands, famAt, famOf, isV] at hl
                  simp [famWants, boolIs_bool, boolIs_undef, execOp, rho, go_sem, hl, famUpon, famOf, isV, Grows.refl]
                · trivial
              · intro u V hg hu
                have e53 : u 53 = .bool false := hu 53 (by decide)
                simp only [List.drop_succ_cons, List.drop_zero, fill, Act.put, List.setIfInBounds_toArray, List.set_cons_zero, List.set_cons_succ, e53]
                refine wpList_nil ?_
                have hGV := hGe.new hg
                rw [HRS.out] at hGV
                clear hu e53 HY HSE HLS hGe
                go_wp2
                go_roundw
                case rel => exact ⟨i + 1, m', _, by go_num, by omega, hGV, by rw [← HRS.out]; exact HG0⟩
                case measure => simp [intOf]; omega
        · have HG0 : Hid (B.Grw (B.add b (F, M)) R) := Lib.hid (B.grw_no HGR.out h0)
          obtain ⟨ra, hra⟩ : ∃ r, r = B.addE b (F, M) := ⟨_, rfl⟩
          rw [← hra] at h0 ⊢
          clear hra hX8
          have hGe := hG8
          obtain ⟨Ay, cy, hYb, hYd⟩ := hW8
          obtain ⟨U6, hU6⟩ : ∃ U, U = D.cU b.saw := ⟨_, rfl⟩
          obtain ⟨M6, hM6⟩ : ∃ M, M = D.cM b.saw := ⟨_, rfl⟩
          obtain ⟨n6, hn6⟩ : ∃ k, M6.length = k := ⟨_, rfl⟩
          rw [← hU6, ← hM6, hn6] at hYb
          rw [← hM6] at hYd
          obtain ⟨U7, hU7⟩ : ∃ U, U = D.cU (B.add b (F, M)).saw := ⟨_, rfl⟩
          obtain ⟨M7, hM7⟩ : ∃ M1, M1 = D.cM (B.add b (F, M)).saw := ⟨_, rfl⟩
          obtain ⟨n7, hn7⟩ : ∃ k, M7.length = k := ⟨_, rfl⟩
          have hn6l : n6 ≤ 1000000 := by rw [← hn6, hM6]; exact Nat.le_trans (D.cM_len _) (by omega)
          have hn7l : n7 ≤ 1000000 := by rw [← hn7, hM7]; exact Nat.le_trans (D.cM_len _) (by omega)
          have HLE : Hid (D.lst (D.less U6 M6 U7 M7) = []) := Lib.hid (by rw [hU6, hM6, hU7, hM7]; exact grows_less b (F, M))
          have HY : Hid (∀ V, Grows w8 V → _) := Lib.hid (fun V hV => set9 (hYb.new hV))
          have HSE : Hid (∀ V, Grows w8 V → Calls Try.prog 19 #[.pointer (some ⟨g, 0, none⟩)] V (CopyPost U7 M7 V)) := Lib.hid (fun V hV => by rw [hU7, hM7]; exact bseen_any V (hGe.bok.new hV).pb)
          have HLS : Hid (∀ V A c, Grows w8 V → Copy V w8.heap.size A c M7 → Calls Try.prog 34 #[sv U6 Ay n6 cy, sv U7 A n7 c] V (DotsPost [] V)) := Lib.hid (fun V A c hV hC => by
            have := dless_any _ _ U6 Ay n6 cy M6 U7 A n7 c M7 V hn6 (hYd.new hV).rds hn6l hn7 hC.rds hn7l
            rw [HLE.out] at this
            exact this)
          have HN7 := Lib.hid hn7
          clear hU6 hM6 hn6 hU7 hM7 hn7 hYb hYd HLE
          go_wp2_with fail
          refine wp_fam (n := 6) (size := 87) (D := [48, 49, 50, 51, 52, 53]) [(48, isV (sv U6 Ay n6 cy)), (49, isV (.pointer (some ⟨g, 0, none⟩))), (50, seenV w8.heap.size n7 U7 M7), (51, drowV w8.heap.size 0 []), (52, isV (.int .i64 0)), (53, isV (.bool false))] (by kernel_rfl) (by rfl) (by kernel_rfl) ?_ ?_
          · simp only [List.take_succ_cons, List.take_zero, famAll]
            repeat' apply And.intro
            · intro f V hg hl
              obtain ⟨k0, k1, k2, k3, k4, k5, k6, k7, k8⟩ := HY.out V hg
              simp [Oper.looksAt, Op.operands, Call.operands, famAt, famOf, isV] at hl
              simp [famWants, boolIs_bool, boolIs_undef, execOp, rho, go_sem, hl, k0, k1, k2, k3, k4, k5, k6, k7, k8, famUpon, famOf, isV, Grows.refl]
            · intro f V hg hl
              simp [Oper.looksAt, Op.operands, Call.operands, famAt, famOf, isV] at hl
              simp [famWants, boolIs_bool, boolIs_undef, execOp, rho, go_sem, hl, famUpon, famOf, isV, Grows.refl]
            · intro f V hg hl
              simp [Oper.looksAt, Op.operands, Call.operands, famAt, famOf, isV] at hl
              simp [famWants, boolIs_bool, boolIs_undef, execOp, rho, go_sem, hl, famUpon, famOf, isV, Grows.refl]
              refine (HSE.out V hg).mono ?_
              rintro e w'' ⟨A', c', rfl, hc, hb⟩
              exact ⟨_, rfl, hb, A', c', by rw [HN7.out], hc.mono (Below.size hg)⟩
            · intro f V hg hl
              simp [Oper.looksAt, Op.operands, Call.operands, famAt, famOf, isV] at hl
              obtain ⟨e48, A', c', e50, hc⟩ := hl
              have hl := e48
              simp [famWants, boolIs_bool, boolIs_undef, execOp, rho, go_sem, hl, e50, famUpon, famOf, isV, Grows.refl]
              refine (HLS.out V A' c' hg hc).mono ?_
              rintro e w'' ⟨A2, c2, rfl, hR', hb'⟩
              exact ⟨_, rfl, hb', A2, c2, rfl, hR'.mono (Below.size hg)⟩
            · intro f V hg hl
              simp [Oper.looksAt, Op.operands, Call.operands, famAt, famOf, isV] at hl
              obtain ⟨A', c', e51, hc⟩ := hl
              have hl := e51
              simp [famWants, boolIs_bool, boolIs_undef, execOp, rho, go_sem, hl, e51, famUpon, famOf, isV, Grows.refl]
            · intro f V hg hl
              simp [Oper.looksAt, Op.operands, Call.operands, famAt, famOf, isV] at hl
              simp [famWants, boolIs_bool, boolIs_undef, execOp, rho, go_sem, hl, famUpon, famOf, isV, Grows.refl]
            · trivial
          · intro u V hg hu
            have e53 : u 53 = .bool false := hu 53 (by decide)
            simp only [List.drop_succ_cons, List.drop_zero, fill, Act.put, List.setIfInBounds_toArray, List.set_cons_zero, List.set_cons_succ, e53]
            refine wpList_nil ?_
            have hGV := hGe.new hg
            rw [HRS.out] at hGV
            clear hu e53 HY HSE HLS hGe
            go_wp2
            go_roundw
            case rel => exact ⟨i + 1, m', _, by go_num, by omega, hGV, by rw [← HRS.out]; exact HG0⟩
            case measure => simp [intOf]; omega
      · obtain ⟨b, hb⟩ : ∃ b, b = B.run B.new (plain (l.take i)) := ⟨_, rfl⟩
        rw [← hb] at hG HGR
        clear hb
        obtain ⟨w5, hw5⟩ : ∃ W, wr.alloc (.map #[] 0) = W := ⟨_, rfl⟩
        obtain ⟨hH, hhH⟩ : ∃ q, q = wr.heap.size := ⟨_, rfl⟩
        have hb5 : Below wr.heap.size wr w5 := by rw [← hw5]; exact b_alloc _ _
        have hI5 : Is w5 hH fun _ => false := by rw [← hw5, hhH]; exact Is.made _
        have hG5 := hG.new hb5
        have hlR := hG.rm.lt
        have HHR2 : Hid (hH ≠ hR) := Lib.hid (by omega)
        have HMH : Hid (m ≠ some hH) := Lib.hid (fun e => by
          obtain ⟨_, T, _, h3⟩ := hG.bok.pb
          have := h3.ltm e
          omega)
        have HLH : Hid (w.heap.size ≤ hH) := Lib.hid (by rw [hhH]; exact hG.bok.bl.size)
        have hglt := hG5.bok.lt
        have hev := bevents_any w5 hG5.bok.pb
        have HW5 := Lib.hid hw5
        have HHH := Lib.hid hhH
        have hmm := @run_makeMap Try.prog
        clear hw5 hhH hG hlR hb5
        go_wp2_with fail
        rw [HW5.out, ← HHH.out]
        refine hev.mono ?_
        rintro e w6 ⟨A6, N6, c6, lf, rfl, HN6, hl6, hO6, hb6⟩
        have hG6 := hG5.new hb6
        have hI6 := hI5.new hb6
        have hOf6 : Out w w6 g g A6 lf b.hold := ⟨hO6.erdsS.mono fun x hx => by
          have : w5.heap.size ≤ x := hx.elim id id
          exact ⟨by omega, by omega⟩, hl6⟩
        have hN6 : N6 ≤ 1000000 := by have := hold_len hG5.bok.pb.1; rw [HN6.out, ← plain_len, hl6]; omega
        clear hev hO6 hG5 hI5 hl6 hglt hmm hb6
        go_wp2_with fail
        go_loopw [59] (fun iv wr => ∃ i : Nat, iv = .int .i64 i ∧ i ≤ N6 ∧ GSt w wr g hR m b R ∧ Is wr hH (dotsE lf i) ∧ Out w wr g g A6 lf b.hold) (fun iv _ => N6 - (intOf iv).toNat)
        case atStart => exact ⟨0, rfl, by omega, hG6, by rw [dotsE_zero]; exact hI6, hOf6⟩
        case round =>
          obtain ⟨i, rfl, hi, hG, hI, hOf⟩ := hrel
          clear hG6 hI6 hOf6
          by_cases hlt : i < N6
          · have hlt' : i < lf.length := by rw [← HN6.out]; exact hlt
            have HDS := Lib.hid (dotsE_snoc hlt')
            have HDI : Hid (R (lf[i].F 0, lf[i].F 1) = false) := Lib.hid (HGR.out.dis (lf[i].F, lf[i].M) (by rw [← hOf.pl]; exact plain_mem hlt'))
            obtain ⟨ad, rfl, _, hrx, c0, c1, c2, c3, c4, c5, c6, c7, c8, c9, c10, c11, c12, c13⟩ := (hOf.er).cells hlt'
            obtain ⟨x, hx⟩ : ∃ x, x = lf[i] := ⟨_, rfl⟩
            rw [← hx] at hrx c0 c1 c2 c3 c4 c5 c6 c7 c8 c9 c10 c11 c12 c13
            have hxl : x ∈ lf := by rw [hx]; exact List.getElem_mem hlt'
            have HXX := Lib.hid hx
            obtain ⟨F, M, Ax, cx⟩ := x
            simp only at hrx c0 c1 c2 c3 c4 c5 c6 c7 c8 c9 c10 c11 c12 c13
            obtain ⟨q, hq⟩ : ∃ q, M.length = q := ⟨_, rfl⟩
            rw [hq] at c13
            have HXL := Lib.hid hxl
            clear hq hx hxl hrx
            rw [← HXX.out] at HDS HDI
            simp only at HDS HDI
            obtain ⟨gx, hgx⟩ : ∃ q, q = wr.heap.size := ⟨_, rfl⟩
            obtain ⟨w8, hw8⟩ : ∃ W, wr.alloc (.cells (ecs F Ax q cx) 43) = W := ⟨_, rfl⟩
            have hb8 : Below wr.heap.size wr w8 := by rw [← hw8]; exact b_alloc _ _
            have hX8 : Blo w8 gx 43 (ecs F Ax q cx) := by rw [← hw8, hgx]; exact Blo.made _ _ _
            have hG8 := hG.new hb8
            have hI8 := hI.new hb8
            have hO8 := hOf.new hb8
            have hI8' := hI8
            have HW8 := Lib.hid hw8
            have HGX := Lib.hid hgx
            rw [← hw8] at hI8'
            clear hw8 hgx hG hI hOf hb8
            go_wp2_with (refine wpList_isput _ rfl _ _ _ rfl hH rfl (F 0, F 1) rfl rfl hI8' ?_)
            intro w10 hI10 hg10
            rw [HW8.out] at hg10
            rw [HDS.out] at hI10
            rw [← HGX.out]
            have hG10 := hG8.other hI8 HHR2.out HMH.out HLH.out hg10
            have hO10 := hO8.other hI8 hg10
            have hX10 := hX8.grown hg10 (fun e => by injection e with e; exact hI8.blo hX8 e)
            obtain ⟨y0, y1, y2, y3, y4, y5, y6, y7, y8, y9, y10, y11, y12, y13⟩ := set14 hX10
            have hlook := hG10.rm.look' (F 0) (F 1)
            rw [HDI.out] at hlook
            clear hI8' hI8 hG8 hO8 hX8 hX10 hg10 c0 c1 c2 c3 c4 c5 c6 c7 c8 c9 c10 c11 c12 c13 y2 y3 y4 y5 y6 y7 y8 y9 y10 y11 y12 y13
            go_wp2
            go_roundw
            case rel => exact ⟨i + 1, by go_num, by omega, hG10, hI10, hO10⟩
            case measure => simp [intOf]; omega
          · have HXO : Hid (∀ d, b.saw d = true → dotsE lf i d = !R d) := Lib.hid (fun d hd => grw_xor HGR.out hOf.pl (by rw [← HN6.out]; omega) hd)
            obtain ⟨H, hHe⟩ : ∃ H, H = dotsE lf i := ⟨_, rfl⟩
            rw [← hHe] at hI HXO
            have hse := bseen_any wr hG.bok.pb
            obtain ⟨U7, hU7⟩ : ∃ U, U = D.cU b.saw := ⟨_, rfl⟩
            obtain ⟨M7, hM7⟩ : ∃ M, M = D.cM b.saw := ⟨_, rfl⟩
            obtain ⟨n7, hn7⟩ : ∃ k, M7.length = k := ⟨_, rfl⟩
            rw [← hU7, ← hM7] at hse
            have hn7l : n7 ≤ 1000000 := by rw [← hn7, hM7]; exact Nat.le_trans (D.cM_len _) (by omega)
            have HMS : Hid (∀ d, d ∈ D.lst (D.has U7 M7) → b.saw d = true) := Lib.hid (fun d hd => by
              have := (D.mem_lst.1 hd).2
              rw [hU7, hM7, D.cl_has] at this
              simp at this
              exact this.2)
            have HN7 := Lib.hid hn7
            clear hHe hU7 hM7 hn7 hOf
            go_wp2_with fail
            refine hse.mono ?_
            rintro e w6 ⟨Ay, cy, rfl, hC6, hb6⟩
            rw [HN7.out]
            have hG6 := hG.new hb6
            have hI6 := hI.new hb6
            have hli := dlist_any _ U7 Ay n7 cy M7 w6 HN7.out hC6.rds hn7l
            obtain ⟨L, hL⟩ : ∃ L, L = D.lst (D.has U7 M7) := ⟨_, rfl⟩
            rw [← hL] at hli HMS
            obtain ⟨NL, hNL⟩ : ∃ k, L.length = k := ⟨_, rfl⟩
            have hNLb : NL ≤ 1000000 := by rw [← hNL, hL]; exact Nat.le_trans (D.lst_len _) (by omega)
            have HNL := Lib.hid hNL
            clear hse hG hI hC6 hb6 hL hNL
            go_wp2_with fail
            refine hli.mono ?_
            rintro e w7 ⟨A7, c7, rfl, hD7, hb7⟩
            rw [HNL.out]
            have hG7 := hG6.new hb7
            have hI7 := hI6.new hb7
            have hD7' : Rds w7 (fun _ => True) A7 (dvs L) := hD7.rdsT
            clear hli hG6 hI6 hD7 hb7
            go_wp2_with fail
            go_loopw [75] (fun iv wr => ∃ i : Nat, iv = .int .i64 i ∧ i ≤ NL ∧ GSt w wr g hR m b R ∧ Is wr hH H ∧ Rds wr (fun _ => True) A7 (dvs L)) (fun iv _ => NL - (intOf iv).toNat)
            case atStart => exact ⟨0, rfl, by omega, hG7, hI7, hD7'⟩
            case round =>
              obtain ⟨i, rfl, hi, hG, hI, hD⟩ := hrel
              clear hG7 hI7 hD7'
              by_cases hlt : i < NL
              · have hltL : i < L.length := by rw [HNL.out]; exact hlt
                have HXD : Hid (H L[i] = !R L[i]) := Lib.hid (HXO.out _ (HMS.out _ (List.getElem_mem hltL)))
                obtain ⟨xd, rfl, _, y0, y1⟩ := hD.dot hltL
                obtain ⟨dd, hdd⟩ : ∃ d, d = L[i] := ⟨_, rfl⟩
                rw [← hdd] at y0 y1 HXD
                obtain ⟨d1, d2⟩ := dd
                simp only at y0 y1
                obtain ⟨gd, hgd⟩ : ∃ q, q = wr.heap.size := ⟨_, rfl⟩
                obtain ⟨w9, hw9⟩ : ∃ W, wr.alloc (.cells #[.int .i64 d1, .int .i64 d2] 39) = W := ⟨_, rfl⟩
                have hb9 : Below wr.heap.size wr w9 := by rw [← hw9]; exact b_alloc _ _
                have hX9 : Blo w9 gd 39 #[.int .i64 d1, .int .i64 d2] := by rw [← hw9, hgd]; exact Blo.made _ _ _
                have hG9 := hG.new hb9
                have hI9 := hI.new hb9
                have hD9 := hD.new hb9
                have HDD : Hid (∀ V, Grows w9 V → V.cell? ⟨gd, 0, none⟩ = some (.int .i64 d1) ∧ V.cell? ⟨gd, 1, none⟩ = some (.int .i64 d2)) := Lib.hid (fun V hV => ⟨by simpa using (hX9.new hV).cell 0, by simpa using (hX9.new hV).cell 1⟩)
                have HL1 : Hid (∀ V, Grows w9 V → _) := Lib.hid (fun V hV => (hI9.new hV).look' d1 d2)
                have HL2 : Hid (∀ V, Grows w9 V → _) := Lib.hid (fun V hV => (hG9.new hV).rm.look' d1 d2)
                have HW9 := Lib.hid hw9
                have HGD := Lib.hid hgd
                rw [HXD.out] at HL1
                generalize R (d1, d2) = rd at HL1 HL2
                clear hw9 hgd hdd hG hI hD hb9 hX9
                cases rd with
                | true =>
                  simp only [Bool.not_true] at HL1
                  go_wp2_with fail
                  rw [HW9.out, ← HGD.out]
                  refine wp_fam (n := 7) (size := 87) (D := [79, 80, 81, 82, 83, 84, 85]) [(79, isV (.map (some hH))), (80, isV (.agg #[.int .i64 d1, .int .i64 d2])), (81, isV (.bool false)), (82, isV (.map (some hR))), (83, isV (.agg #[.int .i64 d1, .int .i64 d2])), (84, isV (.bool true)), (85, isV (.bool false))] (by kernel_rfl) (by rfl) (by kernel_rfl) ?_ ?_
                  · simp only [List.take_succ_cons, List.take_zero, famAll]
                    repeat' apply And.intro
                    · intro f V hg hl
                      simp [Oper.looksAt, Op.operands, Call.operands, famAt, famOf, isV] at hl
                      simp [famWants, boolIs_bool, boolIs_undef, execOp, rho, go_sem, hl, famUpon, famOf, isV, Grows.refl]
                    · intro f V hg hl
                      obtain ⟨q0, q1⟩ := HDD.out V hg
                      simp [Oper.looksAt, Op.operands, Call.operands, famAt, famOf, isV] at hl
                      simp [famWants, boolIs_bool, boolIs_undef, execOp, rho, go_sem, hl, q0, q1, famUpon, famOf, isV, Grows.refl]
                    · intro f V hg hl
                      simp [Oper.looksAt, Op.operands, Call.operands, famAt, famOf, isV] at hl
                      simp [famWants, boolIs_bool, boolIs_undef, execOp, rho, go_sem, hl, HL1.out V hg, famUpon, famOf, isV, Grows.refl]
                    · intro f V hg hl
                      simp [Oper.looksAt, Op.operands, Call.operands, famAt, famOf, isV] at hl
                      simp [famWants, boolIs_bool, boolIs_undef, execOp, rho, go_sem, hl, famUpon, famOf, isV, Grows.refl]
                    · intro f V hg hl
                      obtain ⟨q0, q1⟩ := HDD.out V hg
                      simp [Oper.looksAt, Op.operands, Call.operands, famAt, famOf, isV] at hl
                      simp [famWants, boolIs_bool, boolIs_undef, execOp, rho, go_sem, hl, q0, q1, famUpon, famOf, isV, Grows.refl]
                    · intro f V hg hl
                      simp [Oper.looksAt, Op.operands, Call.operands, famAt, famOf, isV] at hl
                      simp [famWants, boolIs_bool, boolIs_undef, execOp, rho, go_sem, hl, HL2.out V hg, famUpon, famOf, isV, Grows.refl]
                    · intro f V hg hl
                      simp [Oper.looksAt, Op.operands, Call.operands, famAt, famOf, isV] at hl
                      simp [famWants, boolIs_bool, boolIs_undef, execOp, rho, go_sem, hl, famUpon, famOf, isV, Grows.refl]
                    · trivial
                  · intro u V hg hu
                    have e85 : u 85 = .bool false := hu 85 (by decide)
                    simp only [List.drop_succ_cons, List.drop_zero, fill, Act.put, List.setIfInBounds_toArray, List.set_cons_zero, List.set_cons_succ, e85]
                    refine wpList_nil ?_
                    have hGV := hG9.new hg
                    have hIV := hI9.new hg
                    have hDV := hD9.new hg
                    clear hu e85 HDD HL1 HL2 hG9 hI9 hD9
                    go_wp2
                    go_roundw
                    case rel => exact ⟨i + 1, by go_num, by omega, hGV, hIV, hDV⟩
                    case measure => simp [intOf]; omega
                | false =>
                  simp only [Bool.not_false] at HL1
                  go_wp2_with fail
                  rw [HW9.out, ← HGD.out]
                  refine wp_fam (n := 7) (size := 87) (D := [79, 80, 81, 82, 83, 84, 85]) [(79, isV (.map (some hH))), (80, isV (.agg #[.int .i64 d1, .int .i64 d2])), (81, isV (.bool true)), (82, isV (.map (some hR))), (83, isV (.agg #[.int .i64 d1, .int .i64 d2])), (84, isV (.bool false)), (85, isV (.bool false))] (by kernel_rfl) (by rfl) (by kernel_rfl) ?_ ?_
                  · simp only [List.take_succ_cons, List.take_zero, famAll]
                    repeat' apply And.intro
                    · intro f V hg hl
                      simp [Oper.looksAt, Op.operands, Call.operands, famAt, famOf, isV] at hl
                      simp [famWants, boolIs_bool, boolIs_undef, execOp, rho, go_sem, hl, famUpon, famOf, isV, Grows.refl]
                    · intro f V hg hl
                      obtain ⟨q0, q1⟩ := HDD.out V hg
                      simp [Oper.looksAt, Op.operands, Call.operands, famAt, famOf, isV] at hl
                      simp [famWants, boolIs_bool, boolIs_undef, execOp, rho, go_sem, hl, q0, q1, famUpon, famOf, isV, Grows.refl]
                    · intro f V hg hl
                      simp [Oper.looksAt, Op.operands, Call.operands, famAt, famOf, isV] at hl
                      simp [famWants, boolIs_bool, boolIs_undef, execOp, rho, go_sem, hl, HL1.out V hg, famUpon, famOf, isV, Grows.refl]
                    · intro f V hg hl
                      simp [Oper.looksAt, Op.operands, Call.operands, famAt, famOf, isV] at hl
                      simp [famWants, boolIs_bool, boolIs_undef, execOp, rho, go_sem, hl, famUpon, famOf, isV, Grows.refl]
                    · intro f V hg hl
                      obtain ⟨q0, q1⟩ := HDD.out V hg
                      simp [Oper.looksAt, Op.operands, Call.operands, famAt, famOf, isV] at hl
                      simp [famWants, boolIs_bool, boolIs_undef, execOp, rho, go_sem, hl, q0, q1, famUpon, famOf, isV, Grows.refl]
                    · intro f V hg hl
                      simp [Oper.looksAt, Op.operands, Call.operands, famAt, famOf, isV] at hl
                      simp [famWants, boolIs_bool, boolIs_undef, execOp, rho, go_sem, hl, HL2.out V hg, famUpon, famOf, isV, Grows.refl]
                    · intro f V hg hl
                      simp [Oper.looksAt, Op.operands, Call.operands, famAt, famOf, isV] at hl
                      simp [famWants, boolIs_bool, boolIs_undef, execOp, rho, go_sem, hl, famUpon, famOf, isV, Grows.refl]
                    · trivial
                  · intro u V hg hu
                    have e85 : u 85 = .bool false := hu 85 (by decide)
                    simp only [List.drop_succ_cons, List.drop_zero, fill, Act.put, List.setIfInBounds_toArray, List.set_cons_zero, List.set_cons_succ, e85]
                    refine wpList_nil ?_
                    have hGV := hG9.new hg
                    have hIV := hI9.new hg
                    have hDV := hD9.new hg
                    clear hu e85 HDD HL1 HL2 hG9 hI9 hD9
                    go_wp2
                    go_roundw
                    case rel => exact ⟨i + 1, by go_num, by omega, hGV, hIV, hDV⟩
                    case measure => simp [intOf]; omega
              · have hbl := hG.bok.bl
                clear hG hI hD
                go_wp2
                go_ret
                exact ⟨rfl, hbl⟩
end Go.Proofs.Ytedcgfcmhaeldaa
