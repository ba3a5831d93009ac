/- The walk of BookStands. -/
import Derived.Test.YtedcgfcmhaeldaaBkLaw2
namespace Go.Proofs.Ytedcgfcmhaeldaa
set_option linter.unusedVariables false
set_option linter.unusedSimpArgs false
open Go.ChangeShapes Go.WideShapes Go.ChangeAt Go.RowKit

def cntS (l : List EvV) : Nat := ((plain l).filter B.isSmp).length
def cntW (work : Int) (l : List EvV) : Nat := ((plain l).filter (B.ofPol work)).length
theorem cntS_snoc {l : List EvV} {i : Nat} (h : i < l.length) : cntS (l.take (i + 1)) = cntS (l.take i) + if l[i].F 3 = 1 then 1 else 0 := by
  unfold cntS
  rw [plain_take h, List.filter_append, List.length_append]
  congr 1
  by_cases e : l[i].F 3 = 1 <;> simp [B.isSmp, e]
theorem cntW_snoc {work : Int} {l : List EvV} {i : Nat} (h : i < l.length) : cntW work (l.take (i + 1)) = cntW work (l.take i) + if ¬ l[i].F 3 = 1 ∧ l[i].F 4 = work then 1 else 0 := by
  unfold cntW
  rw [plain_take h, List.filter_append, List.length_append]
  congr 1
  by_cases e : l[i].F 3 = 1 <;> by_cases e2 : l[i].F 4 = work <;> simp [B.ofPol, e, e2]
theorem cntS_le (l : List EvV) (i : Nat) : cntS (l.take i) ≤ i := by
  unfold cntS
  refine Nat.le_trans (List.length_filter_le _ _) ?_
  rw [plain_len]
  simp
  omega
theorem cntW_le (work : Int) (l : List EvV) (i : Nat) : cntW work (l.take i) ≤ i := by
  unfold cntW
  refine Nat.le_trans (List.length_filter_le _ _) ?_
  rw [plain_len]
  simp
  omega

set_option maxRecDepth 100000 in
set_option maxHeartbeats 16000000 in
theorem stands_main (A : Option Addr) (n c : Nat) (l : List EvV) (work : Int) (w : World) (hA : EvsIn w A n c l) (hwk : -9223372036854775808 ≤ work ∧ work < 9223372036854775808) :
    Calls Try.prog 7 #[.slice A n c, .int .i64 work] w fun e w' => e = .returned (.bool true) ∧ Below w.heap.size w w' := by
  obtain ⟨hn, hnc, hcm, hr, hmk⟩ := hA
  have hnm : n ≤ maxLen := by omega
  have HN := Lib.hid hn
  have HMK := Lib.hid hmk
  clear hn hmk hnc hcm
  by_cases h40 : 100 < n
  · have q40 : decide ((100 : Int) < (n : Int)) = true := by simp; omega
    clear h40
    go_enter Try.func7, Try.ntmps7
    go_wp2_with fail
    refine (balive_any _).mono ?_
    rintro e w1 ⟨rfl, hb1⟩
    go_wp2
    go_ret
    exact ⟨rfl, hb1⟩
  have q40 : decide ((100 : Int) < (n : Int)) = false := by simp; omega
  have hnb : n ≤ 1000000 := by omega
  clear h40
  go_enter Try.func7, Try.ntmps7
  go_wp2_with fail
  refine (balive_any _).mono ?_
  rintro e w1 ⟨rfl, hb1⟩
  have hgr := great_any _ A n c l w1 HN.out (hr.new hb1) hnm
  go_wp2_with fail
  refine hgr.mono ?_
  rintro e w2 ⟨gt, rfl, hb2, hgt⟩
  have hb02 := below_new hb1 hb2
  clear hgr
  cases gt with
  | true =>
    clear hgt
    go_wp2
    go_ret
    exact ⟨rfl, hb02⟩
  | false =>
    have HBK : Hid (bulk l ≤ 3000) := Lib.hid (hgt rfl HMK.out)
    clear hgt hb1 hb2 HMK
    by_cases hw0 : work < 0
    · go_wp2
      go_ret
      exact ⟨rfl, hb02⟩
    by_cases hw8 : 8 ≤ work
    · go_wp2
      go_ret
      exact ⟨rfl, hb02⟩
    have HWK : Hid (0 ≤ work ∧ work ≤ 7) := Lib.hid (by omega)
    go_wp2_with fail
    refine (bnew_bok hb02).mono ?_
    rintro e w3 ⟨rfl, hB3, hb3⟩
    obtain ⟨g, hg⟩ : ∃ q, q = w2.heap.size := ⟨_, rfl⟩
    rw [← hg] at hB3 ⊢
    clear hg hb3 hb02
    go_wp2_with fail
    go_loopw [38] (fun iv wr => ∃ i m, iv = .int .i64 (i : Nat) ∧ i ≤ n ∧ Bok w wr g m (B.run B.new (plain (l.take i)))) (fun iv _ => n - (intOf iv).toNat)
    case atStart => exact ⟨0, none, rfl, by omega, hB3⟩
    case round =>
      obtain ⟨i, m, rfl, hi, hB⟩ := hrel
      clear hB3
      by_cases hlt : i < n
      · have hlt' : i < l.length := by rw [HN.out]; exact hlt
        obtain ⟨ad, rfl, _, hrx, c0, c1, c2, c3, c4, c5, c6, c7, c8, c9, c10, c11, c12, c13⟩ := (hB.erds hr).cells hlt'
        obtain ⟨x, hx⟩ : ∃ x, x = l[i] := ⟨_, rfl⟩
        rw [← hx] at hrx c0 c1 c2 c3 c4 c5 c6 c7 c8 c9 c10 c11 c12 c13
        have hxl : x ∈ l := by rw [hx]; exact List.getElem_mem hlt'
        have HXX := Lib.hid hx
        obtain ⟨F, M, Ax, cx⟩ := x
        simp only at hrx c0 c1 c2 c3 c4 c5 c6 c7 c8 c9 c10 c11 c12 c13
        obtain ⟨q, hq⟩ : ∃ q, M.length = q := ⟨_, rfl⟩
        rw [hq] at c13
        have hqm : q ≤ maxLen := by rw [← hq]; exact len_max (bulk_max HBK.out hxl)
        have HQ := Lib.hid hq
        have HXL := Lib.hid hxl
        clear hq hx hxl
        obtain ⟨w5, hw5⟩ : ∃ W, wr.alloc (.cells (ecs F Ax q cx) 43) = W := ⟨_, rfl⟩
        have hb5 : Below wr.heap.size wr w5 := by rw [← hw5]; exact b_alloc _ _
        have HW5 := Lib.hid hw5
        clear hw5
        have hB5 := hB.new hb5
        have hgl := hB.gl
        have hadd := badd_bok (fun b => b < w.heap.size) F Ax q cx M hB5 HQ.out (hrx.new hb5) (fun b hb => by omega) hqm
        have HRS := Lib.hid (run_take (b := B.new) hlt' HXX.out)
        go_wp2_with fail
        rw [HW5.out]
        refine hadd.mono ?_
        rintro e w6 ⟨rfl, ⟨m', hB6, _⟩, hK6⟩
        rw [HRS.out] at hB6
        generalize B.addE (B.run B.new (plain (l.take i))) (F, M) = ra
        clear hadd c0 c1 c2 c3 c4 c5 c6 c7 c8 c9 c10 c11 c12 c13 hK6 hB5 hB hb5
        go_wp2
        go_roundw
        case rel => exact ⟨i + 1, m', by go_num, by omega, hB6⟩
        case measure => simp [intOf]; omega
      · obtain ⟨b, hb⟩ : ∃ b, b = B.run B.new (plain (l.take i)) := ⟨_, rfl⟩
        rw [← hb] at hB
        clear hb
        have hev := bevents_any wr hB.pb
        have hglt := hB.lt
        go_wp2_with fail
        refine hev.mono ?_
        rintro e w4 ⟨A4, N4, c4, lf, rfl, HN4, hl4, hO4, hb4⟩
        have hB4 := hB.new hb4
        have hOf : Out w w4 g g A4 lf b.hold := ⟨hO4.erdsS.mono fun x hx => by
          have : wr.heap.size ≤ x := hx.elim id id
          exact ⟨by omega, by omega⟩, hl4⟩
        have hN4 : N4 ≤ 1000000 := by have := hold_len hB.pb.1; rw [HN4.out, ← plain_len, hl4]; omega
        have hst := bstands_any work w4 hB4.pb
        clear hev hO4 hB hl4
        go_wp2_with fail
        refine hst.mono ?_
        rintro e w5 ⟨A5, c5, rfl, hD5, hb5⟩
        have hB5 := hB4.new hb5
        have hOf5 := hOf.new hb5
        clear hst hB4 hOf
        by_cases hE : B.stE b work = 0
        · have hAL : B.stA b work = B.stL b work := by unfold B.stA; rw [if_pos hE]
          have hL96 : (B.stL b work).length ≤ 96 := by
            unfold B.stE at hE
            by_cases h : 96 < (B.stL b work).length
            · rw [if_pos h] at hE; cases hE
            · omega
          rw [hAL] at hD5 ⊢
          rw [hE]
          obtain ⟨M5, hM5⟩ : ∃ M, M = B.stL b work := ⟨_, rfl⟩
          rw [← hM5] at hD5 hL96 ⊢
          obtain ⟨n5, hn5⟩ : ∃ k, M5.length = k := ⟨_, rfl⟩
          rw [hn5] at hD5 hL96 ⊢
          have HM5 := Lib.hid hM5
          have HN5 := Lib.hid hn5
          have HL96 := Lib.hid hL96
          clear hAL hE hM5 hn5 hL96
          have hgl5 := hB5.lt
          obtain ⟨w6, hw6⟩ : ∃ W, w5.alloc (.cells #[.int .i64 7, .int .i64 96] 39) = W := ⟨_, rfl⟩
          obtain ⟨gd, hgd⟩ : ∃ q, q = w5.heap.size := ⟨_, rfl⟩
          have hb6 : Below w5.heap.size w5 w6 := by rw [← hw6]; exact b_alloc _ _
          have hX6 : Blo w6 gd 39 #[.int .i64 7, .int .i64 96] := by rw [← hw6, hgd]; exact Blo.made _ _ _
          have hB6 := hB5.new hb6
          have hOf6 := hOf5.new hb6
          have hD6 := hD5.new hb6
          obtain ⟨U6, hU6⟩ : ∃ U, U = D.cU b.saw := ⟨_, rfl⟩
          obtain ⟨M6, hM6⟩ : ∃ M, M = D.cM b.saw := ⟨_, rfl⟩
          obtain ⟨n6, hn6⟩ : ∃ n, M6.length = n := ⟨_, rfl⟩
          have hn6l : n6 ≤ 1000000 := by rw [← hn6, hM6]; exact Nat.le_trans (D.cM_len _) (by omega)
          have HSE : Hid (∀ V, Grows w6 V → Calls Try.prog 19 #[.pointer (some ⟨g, 0, none⟩)] V (CopyPost U6 M6 V)) := Lib.hid (fun V hV => by rw [hU6, hM6]; exact bseen_any V (hB6.new hV).pb)
          have HHS : Hid (∀ V A c, Copy V w6.heap.size A c M6 → Calls Try.prog 36 #[sv U6 A n6 c, .agg #[.int .i64 7, .int .i64 96]] V fun e w' => e = .returned (.bool (b.saw (7, 96))) ∧ Below V.heap.size V w') := Lib.hid (fun V A c hC => by
            have := has_any _ U6 A n6 c M6 7 96 V hn6 hC.rds hn6l
            rw [hU6, hM6, D.cl_has] at this
            rw [hU6]
            exact this)
          have HDD : Hid (∀ V, Grows w6 V → V.cell? ⟨gd, 0, none⟩ = some (.int .i64 7) ∧ V.cell? ⟨gd, 1, none⟩ = some (.int .i64 96)) := Lib.hid (fun V hV => ⟨by simpa using (hX6.new hV).cell 0, by simpa using (hX6.new hV).cell 1⟩)
          have HN6 := Lib.hid hn6
          have HW6 := Lib.hid hw6
          have HGD := Lib.hid hgd
          clear hU6 hM6 hn6 hw6 hgd hB5 hOf5 hD5
          go_wp2_with fail
          rw [HW6.out, ← HGD.out]
          refine wp_fam (n := 4) (size := 117) (D := [64, 65, 66, 67]) [(64, isV (.pointer (some ⟨g, 0, none⟩))), (65, seenV w6.heap.size n6 U6 M6), (66, isV (.agg #[.int .i64 7, .int .i64 96])), (67, isV (.bool (b.saw (7, 96))))] (by kernel_rfl) (by rfl) (by kernel_rfl) ?_ ?_
          · simp only [List.take_succ_cons, List.take_zero, famAll]
            repeat' apply And.intro
            · intro f V hg hl
              simp [Oper.looksAt, Op.operands, Call.operands, famAt, famOf, isV] at hl
              simp [famWants, boolIs_bool, boolIs_undef, execOp, rho, go_sem, hl, famUpon, famOf, isV, Grows.refl]
            · intro f V hg hl
              simp [Oper.looksAt, Op.operands, Call.operands, famAt, famOf, isV] at hl
              simp [famWants, boolIs_bool, boolIs_undef, execOp, rho, go_sem, hl, famUpon, famOf, isV, Grows.refl]
              refine (HSE.out V hg).mono ?_
              rintro e w'' ⟨A', c', rfl, hc, hb⟩
              exact ⟨_, rfl, hb, A', c', by rw [HN6.out], hc.mono (Below.size hg)⟩
            · intro f V hg hl
              obtain ⟨q0, q1⟩ := HDD.out V hg
              simp [Oper.looksAt, Op.operands, Call.operands, famAt, famOf, isV] at hl
              simp [famWants, boolIs_bool, boolIs_undef, execOp, rho, go_sem, hl, q0, q1, famUpon, famOf, isV, Grows.refl]
            · intro f V hg hl
              simp [Oper.looksAt, Op.operands, Call.operands, famAt, famOf, isV] at hl
              first | (obtain ⟨⟨A', c', e65, hc⟩, e66⟩ := hl; have hl := e66) | (obtain ⟨e66, A', c', e65, hc⟩ := hl; have hl := e66)
              simp [famWants, boolIs_bool, boolIs_undef, execOp, rho, go_sem, hl, e65, famUpon, famOf, isV, Grows.refl]
              refine (HHS.out V A' c' hc).mono ?_
              rintro e w'' ⟨rfl, hb⟩
              exact ⟨rfl, hb⟩
            · trivial
          · intro u V hg hu
            obtain ⟨sw, hsw⟩ : ∃ q, q = b.saw (7, 96) := ⟨_, rfl⟩
            have e67 : u 67 = .bool sw := by rw [hsw]; exact hu 67 (by decide)
            simp only [List.drop_succ_cons, List.drop_zero, fill, Act.put, List.setIfInBounds_toArray, List.set_cons_zero, List.set_cons_succ, e67]
            refine wpList_nil ?_
            have hBV := hB6.new hg
            have hOV := hOf6.new hg
            have hDV := hD6.new hg
            have hXV := hX6.new hg
            have HSW := Lib.hid hsw
            clear hu e67 HSE HHS HDD hB6 hOf6 hD6 hX6 hsw
            cases sw with
            | true =>
              have hbl := hBV.bl
              go_wp2
              go_ret
              exact ⟨rfl, hbl⟩
            | false =>
              have hright := B.del_right hBV.pb.1 HWK.out HSW.out.symm (by rw [← HM5.out, HN5.out]; exact HL96.out)
              rw [← HM5.out] at hright
              have HE0 : Hid (B.addE b (B.delF work, M5) = 0) := Lib.hid (B.addE_ok.2 ⟨hright, HSW.out.symm⟩)
              have hadd := badd_bok (fun x => x ≠ g) (B.delF work) A5 n5 c5 M5 hBV HN5.out (Rds.mono hDV.drd fun x hx => ?_) (fun b hb => hb) (Nat.le_trans HL96.out (by unfold maxLen; omega))
              · have e1 : ev (B.delF work) A5 n5 c5 = .agg #[.int .i64 7, .int .i64 96, .int .i64 1099511627776, .int .i64 3, .int .i64 work, .int .i64 0, .int .i64 0, .int .i64 0, .int .i64 0, .int .i64 0, .int .i64 0, .int .i64 0, .int .i64 0, .slice A5 n5 c5] := rfl
                rw [e1] at hadd
                have k0 : V.cell? ⟨gd, 0, none⟩ = some (.int .i64 7) := by simpa using hXV.cell 0
                have k1 : V.cell? ⟨gd, 1, none⟩ = some (.int .i64 96) := by simpa using hXV.cell 1
                clear e1 hright
                go_wp2_with fail
                refine hadd.mono ?_
                rintro e w7 ⟨rfl, ⟨m7, hB7, _⟩, hK7⟩
                rw [B.add_ok HE0.out] at hB7
                rw [HE0.out]
                have hO7 : Out w w7 g g A4 lf b.hold := ⟨hOV.er.kpt hBV.pb hK7 (fun b hb => hb.1), hOV.pl⟩
                have HP := Lib.hid (B.del_put hBV.pb.1 (work := work))
                have HSM := Lib.hid (B.del_smp b work M5)
                have HTI := Lib.hid (B.del_time hBV.pb.1 work M5)
                rw [← HM5.out] at HP
                obtain ⟨b7, hb7⟩ : ∃ x, x = B.put b (B.delF work, M5) := ⟨_, rfl⟩
                rw [← hb7] at hB7 HP HSM HTI
                clear hadd k0 k1 hBV hOV hDV hXV hK7 hb7 HE0
                go_wp2_with fail
                go_loopw [9, 77] (fun sv iv wr => ∃ i : Nat, iv = .int .i64 i ∧ i ≤ N4 ∧ sv = .int .i64 (cntS (lf.take i) : Nat) ∧ Bok w wr g m7 b7 ∧ Out w wr g g A4 lf b.hold) (fun _ iv _ => N4 - (intOf iv).toNat)
                case atStart => exact ⟨0, rfl, by omega, rfl, hB7, hO7⟩
                case round =>
                  obtain ⟨i, rfl, hi, rfl, hB, hOf⟩ := hrel
                  clear hB7 hO7
                  by_cases hlt : i < N4
                  · have hlt' : i < lf.length := by rw [← HN4.out]; exact hlt
                    have HCS := Lib.hid (cntS_snoc hlt')
                    have hcl := cntS_le lf i
                    obtain ⟨ad, rfl, _, hrx, c0, c1, c2, c3, c4, c5, c6, c7, c8, c9, c10, c11, c12, c13⟩ := (hOf.er).cells hlt'
                    obtain ⟨x, hx⟩ : ∃ x, x = lf[i] := ⟨_, rfl⟩
                    rw [← hx] at hrx c0 c1 c2 c3 c4 c5 c6 c7 c8 c9 c10 c11 c12 c13
                    have hxl : x ∈ lf := by rw [hx]; exact List.getElem_mem hlt'
                    have HXX := Lib.hid hx
                    obtain ⟨F, M, Ax, cx⟩ := x
                    simp only at hrx c0 c1 c2 c3 c4 c5 c6 c7 c8 c9 c10 c11 c12 c13
                    obtain ⟨q, hq⟩ : ∃ q, M.length = q := ⟨_, rfl⟩
                    rw [hq] at c13
                    have HXL := Lib.hid hxl
                    clear hq hx hxl hrx
                    obtain ⟨w8, hw5⟩ : ∃ W, wr.alloc (.cells (ecs F Ax q cx) 43) = W := ⟨_, rfl⟩
                    have hb5 : Below wr.heap.size wr w8 := by rw [← hw5]; exact b_alloc _ _
                    have HW5 := Lib.hid hw5
                    clear hw5
                    rw [← HXX.out] at HCS
                    simp only at HCS
                    have hB8 := hB.new hb5
                    have hO8 := hOf.new hb5
                    obtain ⟨k, hk⟩ : ∃ k, k = cntS (lf.take i) := ⟨_, rfl⟩
                    rw [← hk] at hcl ⊢
                    rw [← hk] at HCS
                    clear hk hB hOf hb5
                    by_cases h3 : F 3 = 1
                    · have HC1 : Hid (cntS (lf.take (i + 1)) = k + 1) := Lib.hid (by rw [HCS.out, if_pos h3])
                      have h3' : (F 3 == 1) = true := by simpa using h3
                      clear h3
                      go_wp2
                      go_roundw
                      case rel => exact ⟨i + 1, by go_num, by omega, by rw [HC1.out]; go_num, by rw [HW5.out]; exact hB8, by rw [HW5.out]; exact hO8⟩
                      case measure => simp [intOf]; omega
                    · have HC1 : Hid (cntS (lf.take (i + 1)) = k) := Lib.hid (by rw [HCS.out, if_neg h3]; rfl)
                      go_wp2
                      go_roundw
                      case rel => exact ⟨i + 1, by go_num, by omega, by rw [HC1.out], by rw [HW5.out]; exact hB8, by rw [HW5.out]; exact hO8⟩
                      case measure => simp [intOf]; omega
                  · have HS0 : Hid (cntS (lf.take i) = (b.hold.filter B.isSmp).length) := Lib.hid (by rw [List.take_of_length_le (by rw [← HN4.out]; omega)]; unfold cntS; rw [hOf.pl])
                    obtain ⟨s0, hs0⟩ : ∃ k, k = cntS (lf.take i) := ⟨_, rfl⟩
                    have hs0b : s0 ≤ 1000000 := by rw [hs0]; have := cntS_le lf i; omega
                    rw [← hs0] at HS0 ⊢
                    have hev := bevents_any wr hB.pb
                    have hglt7 := hB.lt
                    clear hs0 hOf
                    go_wp2_with fail
                    refine hev.mono ?_
                    rintro e w9 ⟨A9, N9, c9, lh, rfl, HN9, hl9, hO9, hb9⟩
                    have hB9 := hB.new hb9
                    have hOh : Out w w9 g g A9 lh b7.hold := ⟨hO9.erdsS.mono fun x hx => by
                      have : wr.heap.size ≤ x := hx.elim id id
                      exact ⟨by omega, by omega⟩, hl9⟩
                    have hN9 : N9 ≤ 1000000 := by have := hold_len hB.pb.1; rw [HN9.out, ← plain_len, hl9]; omega
                    clear hev hO9 hB hl9 hglt7
                    go_wp2_with fail
                    go_loopw [9, 13, 90] (fun sv nv iv wr => ∃ i : Nat, iv = .int .i64 i ∧ i ≤ N9 ∧ sv = .int .i64 ((s0 : Int) - (cntS (lh.take i) : Nat)) ∧ nv = .int .i64 (cntW work (lh.take i) : Nat) ∧ Bok w wr g m7 b7 ∧ Out w wr g g A9 lh b7.hold) (fun _ _ iv _ => N9 - (intOf iv).toNat)
                    case atStart => exact ⟨0, rfl, by omega, by simp [cntS, plain], rfl, hB9, hOh⟩
                    case round =>
                      obtain ⟨i, rfl, hi, rfl, rfl, hB, hOf⟩ := hrel
                      clear hB9 hOh
                      by_cases hlt : i < N9
                      · have hlt' : i < lh.length := by rw [← HN9.out]; exact hlt
                        have HCS := Lib.hid (cntS_snoc hlt')
                        have HCW := Lib.hid (cntW_snoc (work := work) hlt')
                        have hcl := cntS_le lh i
                        have hcw := cntW_le work lh i
                        obtain ⟨ad, rfl, _, hrx, c0, c1, c2, c3, c4, c5, c6, c7, c8, c9, c10, c11, c12, c13⟩ := (hOf.er).cells hlt'
                        obtain ⟨x, hx⟩ : ∃ x, x = lh[i] := ⟨_, rfl⟩
                        rw [← hx] at hrx c0 c1 c2 c3 c4 c5 c6 c7 c8 c9 c10 c11 c12 c13
                        have hxl : x ∈ lh := by rw [hx]; exact List.getElem_mem hlt'
                        have HXX := Lib.hid hx
                        obtain ⟨F, M, Ax, cx⟩ := x
                        simp only at hrx c0 c1 c2 c3 c4 c5 c6 c7 c8 c9 c10 c11 c12 c13
                        obtain ⟨q, hq⟩ : ∃ q, M.length = q := ⟨_, rfl⟩
                        rw [hq] at c13
                        have HXL := Lib.hid hxl
                        clear hq hx hxl hrx
                        obtain ⟨w8, hw5⟩ : ∃ W, wr.alloc (.cells (ecs F Ax q cx) 43) = W := ⟨_, rfl⟩
                        have hb5 : Below wr.heap.size wr w8 := by rw [← hw5]; exact b_alloc _ _
                        have HW5 := Lib.hid hw5
                        clear hw5
                        rw [← HXX.out] at HCS HCW
                        simp only at HCS HCW
                        have hB8 := hB.new hb5
                        have hO8 := hOf.new hb5
                        obtain ⟨k, hk⟩ : ∃ k, k = cntS (lh.take i) := ⟨_, rfl⟩
                        obtain ⟨kw, hkw⟩ : ∃ k, k = cntW work (lh.take i) := ⟨_, rfl⟩
                        rw [← hk] at hcl HCS ⊢
                        rw [← hkw] at hcw HCW ⊢
                        clear hk hkw hB hOf hb5
                        by_cases h3 : F 3 = 1
                        · have HC1 : Hid (cntS (lh.take (i + 1)) = k + 1) := Lib.hid (by rw [HCS.out, if_pos h3])
                          have HC2 : Hid (cntW work (lh.take (i + 1)) = kw) := Lib.hid (by rw [HCW.out, if_neg (fun h => h.1 h3)]; rfl)
                          have h3' : (F 3 == 1) = true := by simpa using h3
                          clear h3
                          go_wp2
                          go_roundw
                          case rel => exact ⟨i + 1, by go_num, by omega, by rw [HC1.out]; go_num, by rw [HC2.out], by rw [HW5.out]; exact hB8, by rw [HW5.out]; exact hO8⟩
                          case measure => simp [intOf]; omega
                        · have HC1 : Hid (cntS (lh.take (i + 1)) = k) := Lib.hid (by rw [HCS.out, if_neg h3]; rfl)
                          by_cases h4 : F 4 = work
                          · have HC2 : Hid (cntW work (lh.take (i + 1)) = kw + 1) := Lib.hid (by rw [HCW.out, if_pos ⟨h3, h4⟩])
                            have h4' : (F 4 == work) = true := by simpa using h4
                            have h3' : (F 3 == 1) = false := by simpa using h3
                            clear h4 h3
                            go_wp2
                            go_roundw
                            case rel => exact ⟨i + 1, by go_num, by omega, by rw [HC1.out], by rw [HC2.out]; go_num, by rw [HW5.out]; exact hB8, by rw [HW5.out]; exact hO8⟩
                            case measure => simp [intOf]; omega
                          · have HC2 : Hid (cntW work (lh.take (i + 1)) = kw) := Lib.hid (by rw [HCW.out, if_neg (fun h => h4 h.2)]; rfl)
                            have h4' : (F 4 == work) = false := by simpa using h4
                            have h3' : (F 3 == 1) = false := by simpa using h3
                            clear h4 h3
                            go_wp2
                            go_roundw
                            case rel => exact ⟨i + 1, by go_num, by omega, by rw [HC1.out], by rw [HC2.out], by rw [HW5.out]; exact hB8, by rw [HW5.out]; exact hO8⟩
                            case measure => simp [intOf]; omega
                      · have hfull : lh.take i = lh := List.take_of_length_le (by rw [← HN9.out]; omega)
                        have hW1 : cntW work (lh.take i) = 1 := by rw [hfull]; unfold cntW; rw [hOf.pl, HP.out]; rfl
                        have hS1 : cntS (lh.take i) ≤ s0 := by rw [hfull]; unfold cntS; rw [hOf.pl, HS0.out]; exact HSM.out
                        rw [hW1]
                        obtain ⟨k, hk⟩ : ∃ k : Nat, (s0 : Int) - (cntS (lh.take i) : Nat) = (k : Int) := ⟨s0 - cntS (lh.take i), by omega⟩
                        rw [hk]
                        have hck := bclock_any wr hB.pb
                        rw [HTI.out] at hck
                        have hbl := hB.bl
                        clear hfull hW1 hS1 hk hOf hB
                        go_wp2_with fail
                        refine hck.mono ?_
                        rintro e w9 ⟨rfl, rfl⟩
                        clear hck
                        go_wp2
                        go_ret
                        exact ⟨rfl, hbl⟩
              · have := hb4.size
                have := hx.1
                omega
        · have HE7 : Hid (B.stE b work = 7) := Lib.hid (by
            unfold B.stE at hE ⊢
            by_cases h : 96 < (B.stL b work).length
            · rw [if_pos h]
            · rw [if_neg h] at hE; exact absurd rfl hE)
          have HA0 : Hid (B.stA b work = []) := Lib.hid (by unfold B.stA; rw [if_neg hE])
          rw [HE7.out, HA0.out]
          have hbl := hB5.bl
          clear hE hD5 hB5 hOf5
          go_wp2
          go_ret
          exact ⟨rfl, hbl⟩
end Go.Proofs.Ytedcgfcmhaeldaa
