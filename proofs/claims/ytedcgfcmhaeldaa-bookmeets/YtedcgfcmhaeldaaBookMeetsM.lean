/- The walk of BookMeets. -/
import Derived.Test.YtedcgfcmhaeldaaBkLaw2
import Derived.Test.YtedcgfcmhaeldaaBkClosed
namespace Go.Proofs.Ytedcgfcmhaeldaa
set_option linter.unusedVariables false
set_option linter.unusedSimpArgs false
open Go.ChangeShapes Go.WideShapes Go.ChangeAt Go.RowKit

set_option maxRecDepth 100000 in
set_option maxHeartbeats 16000000 in
theorem meets_main (A : Option Addr) (n c : Nat) (l : List EvV) (O : Option Addr) (no d : Nat) (Bs : List Bool) (w : World) (hA : EvsIn w A n c l) (hLn : Bs.length = no) (hro : Rds w (· < w.heap.size) O (Bs.map Value.bool)) :
    Calls Try.prog 5 #[.slice A n c, .slice O no d] w fun e w' => e = .returned (.bool true) ∧ Below w.heap.size w w' := by
  obtain ⟨hn, hnc, hcm, hr, hmk⟩ := hA
  have hnm : n ≤ maxLen := by omega
  have HN := Lib.hid hn
  have HMK := Lib.hid hmk
  have HLN := Lib.hid hLn
  clear hn hmk hnc hcm hLn
  by_cases h40 : 40 < n
  · have q40 : decide ((40 : Int) < (n : Int)) = true := by simp; omega
    clear h40
    go_enter Try.func5, Try.ntmps5
    go_wp2_with fail
    refine (balive_any _).mono ?_
    rintro e w1 ⟨rfl, hb1⟩
    go_wp2
    go_ret
    exact ⟨rfl, hb1⟩
  have q40 : decide ((40 : Int) < (n : Int)) = false := by simp; omega
  have H40 := Lib.hid (Nat.le_of_not_lt h40)
  have hnb : n ≤ 1000000 := by omega
  clear h40
  go_enter Try.func5, Try.ntmps5
  go_wp2_with fail
  refine (balive_any _).mono ?_
  rintro e w1 ⟨rfl, hb1⟩
  have hgr := great_any _ A n c l w1 HN.out (hr.new hb1) hnm
  go_wp2_with fail
  refine hgr.mono ?_
  rintro e w2 ⟨gt, rfl, hb2, hgt⟩
  have hb02 := below_new hb1 hb2
  clear hgr
  cases gt with
  | true =>
    clear hgt
    go_wp2
    go_ret
    exact ⟨rfl, hb02⟩
  | false =>
    have HBK : Hid (bulk l ≤ 3000) := Lib.hid (hgt rfl HMK.out)
    clear hgt hb1 hb2 HMK
    go_wp2_with fail
    go_loopw [28] (fun iv wr => ∃ i : Nat, iv = .int .i64 i ∧ i ≤ n ∧ Hid (∀ e ∈ plain (l.take i), E.right e.1 e.2 = true) ∧ Below w.heap.size w wr) (fun iv _ => n - (intOf iv).toNat)
    case atStart => exact ⟨0, rfl, by omega, Lib.hid (fun e he => by simp [plain] at he), hb02⟩
    case round =>
      obtain ⟨i, rfl, hi, HR, hbr⟩ := hrel
      by_cases hlt : i < n
      · have hlt' : i < l.length := by rw [HN.out]; exact hlt
        obtain ⟨ad, rfl, _, hrx, c0, c1, c2, c3, c4, c5, c6, c7, c8, c9, c10, c11, c12, c13⟩ := (hr.new hbr).cells hlt'
        obtain ⟨x, hx⟩ : ∃ x, x = l[i] := ⟨_, rfl⟩
        rw [← hx] at hrx c0 c1 c2 c3 c4 c5 c6 c7 c8 c9 c10 c11 c12 c13
        have hxl : x ∈ l := by rw [hx]; exact List.getElem_mem hlt'
        have HXX := Lib.hid hx
        obtain ⟨F, M, Ax, cx⟩ := x
        simp only at hrx c0 c1 c2 c3 c4 c5 c6 c7 c8 c9 c10 c11 c12 c13
        obtain ⟨q, hq⟩ : ∃ q, M.length = q := ⟨_, rfl⟩
        rw [hq] at c13
        have hqm : q ≤ maxLen := by rw [← hq]; exact len_max (bulk_max HBK.out hxl)
        have HQ := Lib.hid hq
        have HXL := Lib.hid hxl
        clear hq hx hxl
        obtain ⟨w5, hw5⟩ : ∃ W, wr.alloc (.cells (ecs F Ax q cx) 43) = W := ⟨_, rfl⟩
        have hb5 : Below wr.heap.size wr w5 := by rw [← hw5]; exact b_alloc _ _
        have HW5 := Lib.hid hw5
        clear hw5
        have hbr5 := below_new hbr hb5
        have hright := evright_any _ F Ax q cx M w5 HQ.out (hrx.new hb5) hqm
        go_wp2_with fail
        rw [HW5.out]
        refine hright.mono ?_
        rintro e w6 ⟨rfl, hb6⟩
        have hb06 := below_new hbr5 hb6
        clear hright c0 c1 c2 c3 c4 c5 c6 c7 c8 c9 c10 c11 c12 c13
        cases hq : E.right F M with
        | false =>
          clear hq
          go_wp2
          go_ret
          exact ⟨rfl, hb06⟩
        | true =>
          have HR' : Hid (∀ e ∈ plain (l.take (i + 1)), E.right e.1 e.2 = true) := Lib.hid (fun e he => by
            rw [plain_take hlt', ← HXX.out] at he
            rcases List.mem_append.1 he with h | h
            · exact HR.out e h
            · simp at h; subst h; exact hq)
          clear hq
          go_wp2
          go_roundw
          case rel => exact ⟨i + 1, by go_num, by omega, HR', hb06⟩
          case measure => simp [intOf]; omega
      · have HR' : Hid (∀ e ∈ plain l, E.right e.1 e.2 = true) := Lib.hid (fun e he => HR.out e (by rw [List.take_of_length_le (by rw [HN.out]; omega)]; exact he))
        have hclo := rclosed_any _ A n c l wr HN.out (hr.new hbr) (by have := bulk_n HBK.out; rw [HN.out] at this; omega) (fun e he => Nat.le_trans (bulk_max HBK.out he) (by omega))
        clear HR
        go_wp2_with fail
        refine hclo.mono ?_
        rintro e w3 ⟨cl, rfl, hb3, hcl⟩
        have hb03 := below_new hbr hb3
        clear hclo
        cases cl with
        | false =>
          clear hcl
          go_wp2
          go_ret
          exact ⟨rfl, hb03⟩
        | true =>
          have HC : Hid (B.Closed (plain l)) := Lib.hid (closed_of (hcl rfl) HR'.out)
          clear hcl HR' hb3 hbr
          go_wp2_with fail
          refine (bnew_bok hb03).mono ?_
          rintro e w4 ⟨rfl, hB4, hb4⟩
          obtain ⟨ga, hga⟩ : ∃ q, q = w3.heap.size := ⟨_, rfl⟩
          rw [← hga] at hB4 ⊢
          clear hga
          go_wp2_with fail
          refine (bnew_bok hB4.bl).mono ?_
          rintro e w5 ⟨rfl, hB5, hb5⟩
          obtain ⟨gb, hgb⟩ : ∃ q, q = w4.heap.size := ⟨_, rfl⟩
          rw [← hgb] at hB5 ⊢
          have hT0 : Two w w5 ga gb none none B.new B.new := ⟨hB4.new hb5, hB5, by have := hB4.lt; omega, fun x hx => (by cases hx)⟩
          clear hB4 hB5 hb4 hb5 hgb hb03
          go_wp2_with fail
          go_loopw [43] (fun iv wr => ∃ (i : Nat) (ma mb : Option Nat) (s t : List E.Ev), iv = .int .i64 i ∧ i ≤ n ∧ Hid ((∀ e ∈ s, e ∈ plain l) ∧ ∀ e ∈ t, e ∈ plain l) ∧ Two w wr ga gb ma mb (B.run B.new s) (B.run B.new t)) (fun iv _ => n - (intOf iv).toNat)
          case atStart => exact ⟨0, none, none, [], [], rfl, by omega, Lib.hid ⟨fun e he => (by cases he), fun e he => (by cases he)⟩, hT0⟩
          case round =>
            obtain ⟨i, ma, mb, s, t, rfl, hi, HST, hT⟩ := hrel
            clear hT0
            by_cases hlt : i < n
            · have hlt' : i < l.length := by rw [HN.out]; exact hlt
              obtain ⟨ad, rfl, _, hrx, c0, c1, c2, c3, c4, c5, c6, c7, c8, c9, c10, c11, c12, c13⟩ := (hT.a.erds hr).cells hlt'
              obtain ⟨x, hx⟩ : ∃ x, x = l[i] := ⟨_, rfl⟩
              rw [← hx] at hrx c0 c1 c2 c3 c4 c5 c6 c7 c8 c9 c10 c11 c12 c13
              have hxl : x ∈ l := by rw [hx]; exact List.getElem_mem hlt'
              have HXX := Lib.hid hx
              obtain ⟨F, M, Ax, cx⟩ := x
              simp only at hrx c0 c1 c2 c3 c4 c5 c6 c7 c8 c9 c10 c11 c12 c13
              obtain ⟨q, hq⟩ : ∃ q, M.length = q := ⟨_, rfl⟩
              rw [hq] at c13
              have hqm : q ≤ maxLen := by rw [← hq]; exact len_max (bulk_max HBK.out hxl)
              have HQ := Lib.hid hq
              have HXL := Lib.hid hxl
              clear hq hx hxl
              obtain ⟨w5, hw5⟩ : ∃ W, wr.alloc (.cells (ecs F Ax q cx) 43) = W := ⟨_, rfl⟩
              have hb5 : Below wr.heap.size wr w5 := by rw [← hw5]; exact b_alloc _ _
              have HW5 := Lib.hid hw5
              clear hw5
              have hT5 := hT.new hb5
              have hgaw := hT.a.gl
              have hgbw := hT.b.gl
              have hadda := badd_bok (fun b => b < w.heap.size) F Ax q cx M hT5.a HQ.out (hrx.new hb5) (fun b hb => by omega) hqm
              have haddb := badd_bok (fun b => b < w.heap.size) F Ax q cx M hT5.b HQ.out (hrx.new hb5) (fun b hb => by omega) hqm
              have HSS : Hid (∀ e ∈ s ++ [(F, M)], e ∈ plain l) := Lib.hid (fun e he => by
                rcases List.mem_append.1 he with h | h
                · exact HST.out.1 e h
                · simp at h; subst h; exact List.mem_map.2 ⟨_, HXL.out, rfl⟩)
              have HTT : Hid (∀ e ∈ t ++ [(F, M)], e ∈ plain l) := Lib.hid (fun e he => by
                rcases List.mem_append.1 he with h | h
                · exact HST.out.2 e h
                · simp at h; subst h; exact List.mem_map.2 ⟨_, HXL.out, rfl⟩)
              clear hgaw hgbw
              have key : ∃ bv : Bool, (i < no → ∃ ob, O = some ob ∧ w5.cell? (ob.add i) = some (.bool bv)) ∧ (¬ i < no → bv = false) := by
                by_cases hio : i < no
                · obtain ⟨ob, e, _, hc⟩ := (hT5.a.rds hro).at (j := i) (by simp; have := HLN.out; omega)
                  refine ⟨Bs[i]'(by rw [HLN.out]; exact hio), fun _ => ⟨ob, e, by simpa using hc⟩, fun h => absurd hio h⟩
                · exact ⟨false, fun h => absurd h hio, fun _ => rfl⟩
              obtain ⟨bv, hbv1, hbv2⟩ := key
              cases bv with
              | true =>
                have hio : i < no := by
                  rcases Nat.lt_or_ge i no with h | h
                  · exact h
                  · have := hbv2 (by omega); cases this
                obtain ⟨ob, rfl, o0⟩ := hbv1 hio
                have hio' : (i : Int) < (no : Int) := by omega
                rw [← HW5.out] at o0
                clear hbv1 hbv2 haddb
                go_wp2_with fail
                rw [HW5.out]
                refine hadda.mono ?_
                rintro e w6 ⟨rfl, ⟨ma', hB6, hm6⟩, hK6⟩
                have hT6 := hT5.step hK6 hB6 hm6
                rw [← run_snoc] at hT6
                generalize B.addE (B.run B.new s) (F, M) = ra
                clear hadda c0 c1 c2 c3 c4 c5 c6 c7 c8 c9 c10 c11 c12 c13 hB6 hK6 hm6 hT5 hT hb5 o0
                go_wp2
                go_roundw
                case rel => exact ⟨i + 1, ma', mb, s ++ [(F, M)], t, by go_num, by omega, Lib.hid ⟨HSS.out, HST.out.2⟩, hT6⟩
                case measure => simp [intOf]; omega
              | false =>
                by_cases hio : i < no
                · obtain ⟨ob, rfl, o0⟩ := hbv1 hio
                  have hio' : (i : Int) < (no : Int) := by omega
                  rw [← HW5.out] at o0
                  clear hbv1 hbv2 hadda
                  go_wp2_with fail
                  rw [HW5.out]
                  refine haddb.mono ?_
                  rintro e w6 ⟨rfl, ⟨mb', hB6, hm6⟩, hK6⟩
                  have hT6 := (hT5.swap.step hK6 hB6 hm6).swap
                  rw [← run_snoc] at hT6
                  generalize B.addE (B.run B.new t) (F, M) = ra
                  clear haddb c0 c1 c2 c3 c4 c5 c6 c7 c8 c9 c10 c11 c12 c13 hB6 hK6 hm6 hT5 hT hb5 o0
                  go_wp2
                  go_roundw
                  case rel => exact ⟨i + 1, ma, mb', s, t ++ [(F, M)], by go_num, by omega, Lib.hid ⟨HST.out.1, HTT.out⟩, hT6⟩
                  case measure => simp [intOf]; omega
                · have hio' : ¬ (i : Int) < (no : Int) := by omega
                  clear hbv1 hbv2 hadda hio
                  go_wp2_with fail
                  rw [HW5.out]
                  refine haddb.mono ?_
                  rintro e w6 ⟨rfl, ⟨mb', hB6, hm6⟩, hK6⟩
                  have hT6 := (hT5.swap.step hK6 hB6 hm6).swap
                  rw [← run_snoc] at hT6
                  generalize B.addE (B.run B.new t) (F, M) = ra
                  clear haddb c0 c1 c2 c3 c4 c5 c6 c7 c8 c9 c10 c11 c12 c13 hB6 hK6 hm6 hT5 hT hb5
                  go_wp2
                  go_roundw
                  case rel => exact ⟨i + 1, ma, mb', s, t ++ [(F, M)], by go_num, by omega, Lib.hid ⟨HST.out.1, HTT.out⟩, hT6⟩
                  case measure => simp [intOf]; omega
            · have HM := Lib.hid (B.meets HC.out HST.out.1 HST.out.2 (B.fed_run HC.out HST.out.1) (B.fed_run HC.out HST.out.2))
              obtain ⟨a, ha⟩ : ∃ a, a = B.run B.new s := ⟨_, rfl⟩
              obtain ⟨b, hb⟩ : ∃ b, b = B.run B.new t := ⟨_, rfl⟩
              rw [← ha, ← hb] at hT HM
              clear ha hb HST hi
              have hsa := bseen_any wr hT.a.pb
              obtain ⟨Ua, hUa⟩ : ∃ U, U = D.cU a.saw := ⟨_, rfl⟩
              obtain ⟨Ma, hMa⟩ : ∃ M, M = D.cM a.saw := ⟨_, rfl⟩
              obtain ⟨na, hna⟩ : ∃ n, Ma.length = n := ⟨_, rfl⟩
              have hnal : na ≤ 1000000 := by rw [← hna, hMa]; exact Nat.le_trans (D.cM_len _) (by omega)
              obtain ⟨Ub, hUb⟩ : ∃ U, U = D.cU b.saw := ⟨_, rfl⟩
              obtain ⟨Mb, hMb⟩ : ∃ M, M = D.cM b.saw := ⟨_, rfl⟩
              obtain ⟨nb, hnb'⟩ : ∃ n, Mb.length = n := ⟨_, rfl⟩
              have hnbl : nb ≤ 1000000 := by rw [← hnb', hMb]; exact Nat.le_trans (D.cM_len _) (by omega)
              have HNA := Lib.hid hna
              have HNB := Lib.hid hnb'
              have HXA : Hid (B.newer b (D.has Ua Ma) 1000 = B.news b a.saw) := Lib.hid (by rw [hUa, hMa]; exact newer_all hT.a.pb.1 hT.b.pb.1)
              have HXB : Hid (B.newer a (D.has Ub Mb) 1000 = B.news a b.saw) := Lib.hid (by rw [hUb, hMb]; exact newer_all hT.b.pb.1 hT.a.pb.1)
              rw [← hUa, ← hMa] at hsa
              have HSB : Hid (∀ V, Below wr.heap.size wr V → Calls Try.prog 19 #[.pointer (some ⟨gb, 0, none⟩)] V (CopyPost Ub Mb V)) := Lib.hid (fun V hV => by rw [hUb, hMb]; exact bseen_any V (hT.new hV).b.pb)
              have HSHA : Hid (∀ x ∈ B.news b a.saw, x.2.length ≤ 96 ∧ ∀ cc, B.addE cc x ≠ 2) := Lib.hid (fun x hx => ⟨(B.right_may (hT.b.pb.1.rt x (B.mem_news.1 hx).1)).2.2.2.2, fun cc => B.news_right hT.b.pb.1 hx cc⟩)
              have HSHB : Hid (∀ x ∈ B.news a b.saw, x.2.length ≤ 96 ∧ ∀ cc, B.addE cc x ≠ 2) := Lib.hid (fun x hx => ⟨(B.right_may (hT.a.pb.1.rt x (B.mem_news.1 hx).1)).2.2.2.2, fun cc => B.news_right hT.a.pb.1 hx cc⟩)
              have HLA : Hid ((B.news b a.saw).length ≤ 768) := Lib.hid (Nat.le_trans (List.length_filter_le _ _) (hold_len hT.b.pb.1))
              have HLB : Hid ((B.news a b.saw).length ≤ 768) := Lib.hid (Nat.le_trans (List.length_filter_le _ _) (hold_len hT.a.pb.1))
              have hga := hT.a.lt
              have hgb := hT.b.lt
              clear hna hnb' hUa hMa hUb hMb
              go_wp2_with fail
              refine hsa.mono ?_
              rintro e w3 ⟨A3, c3, rfl, hC3, hb3⟩
              rw [HNA.out]
              have hT3 := hT.new hb3
              have hs3 := hb3.size
              have hnw := bnewer_any Ua A3 na c3 Ma 1000 w3 hT3.b.pb HNA.out hC3.rds hnal
              rw [HXA.out] at hnw
              clear hsa hT
              go_wp2_with fail
              refine hnw.mono ?_
              rintro e w4 ⟨A4, N4, c4, lf, rfl, HN4, hl4, hO4, hb4⟩
              have hs4 := hb4.size
              have hT4 := hT3.new hb4
              have hO4' : Out w w4 ga gb A4 lf (B.news b a.saw) := ⟨hO4.erdsS.mono fun x hx => by
                have : w3.heap.size ≤ x := hx.elim id id
                exact ⟨by omega, by omega⟩, hl4⟩
              have hsb := HSB.out w4 (below_new hb3 hb4)
              clear hnw hT3 hO4 hC3
              go_wp2_with fail
              refine hsb.mono ?_
              rintro e w5 ⟨A5, c5, rfl, hC5, hb5⟩
              rw [HNB.out]
              have hT5 := hT4.new hb5
              have hO5 := hO4'.new hb5
              have hs5 := hb5.size
              have hnw := bnewer_any Ub A5 nb c5 Mb 1000 w5 hT5.a.pb HNB.out hC5.rds hnbl
              rw [HXB.out] at hnw
              clear hsb hT4 hO4'
              go_wp2_with fail
              refine hnw.mono ?_
              rintro e w6 ⟨A6, N6, c6, lg, rfl, HN6, hl6, hO6, hb6⟩
              have hT6 := hT5.new hb6
              have hOf := hO5.new hb6
              have hOg : Out w w6 ga gb A6 lg (B.news a b.saw) := ⟨hO6.erdsS.mono fun x hx => by
                have : w5.heap.size ≤ x := hx.elim id id
                exact ⟨by omega, by omega⟩, hl6⟩
              have hN4 : N4 ≤ 1000000 := by have := HLA.out; rw [HN4.out, ← plain_len, hl4]; omega
              have hN6 : N6 ≤ 1000000 := by have := HLB.out; rw [HN6.out, ← plain_len, hl6]; omega
              clear hnw hT5 hO5 hO6 hC5 hl4 hl6 hga hgb hs3 hs4 hs5 hb3 hb4 hb5 hb6 HSB
              go_wp2_with fail
              go_loopw [75] (fun iv wr => ∃ i ma, iv = .int .i64 (i : Nat) ∧ i ≤ N4 ∧ Two w wr ga gb ma mb (B.run a (plain (lf.take i))) b ∧ Out w wr ga gb A4 lf (B.news b a.saw) ∧ Out w wr ga gb A6 lg (B.news a b.saw)) (fun iv _ => N4 - (intOf iv).toNat)
              case atStart => exact ⟨0, ma, rfl, by omega, hT6, hOf, hOg⟩
              case round =>
                obtain ⟨i, ma, rfl, hi, hT, hOf, hOg⟩ := hrel
                clear hT6
                by_cases hlt : i < N4
                · have hlt' : i < lf.length := by rw [← HN4.out]; exact hlt
                  obtain ⟨ad, rfl, _, hrx, c0, c1, c2, c3, c4, c5, c6, c7, c8, c9, c10, c11, c12, c13⟩ := (hOf.er).cells hlt'
                  obtain ⟨x, hx⟩ : ∃ x, x = lf[i] := ⟨_, rfl⟩
                  rw [← hx] at hrx c0 c1 c2 c3 c4 c5 c6 c7 c8 c9 c10 c11 c12 c13
                  have hxl : x ∈ lf := by rw [hx]; exact List.getElem_mem hlt'
                  have HXX := Lib.hid hx
                  obtain ⟨F, M, Ax, cx⟩ := x
                  simp only at hrx c0 c1 c2 c3 c4 c5 c6 c7 c8 c9 c10 c11 c12 c13
                  obtain ⟨q, hq⟩ : ∃ q, M.length = q := ⟨_, rfl⟩
                  rw [hq] at c13
                  have hqm : q ≤ maxLen := by rw [← hq]; exact Nat.le_trans (HSHA.out (F, M) (by rw [← hOf.pl]; exact List.mem_map.2 ⟨_, hxl, rfl⟩)).1 (by unfold maxLen; omega)
                  have HQ := Lib.hid hq
                  have HXL := Lib.hid hxl
                  clear hq hx hxl
                  obtain ⟨w7, hw5⟩ : ∃ W, wr.alloc (.cells (ecs F Ax q cx) 43) = W := ⟨_, rfl⟩
                  have hb5 : Below wr.heap.size wr w7 := by rw [← hw5]; exact b_alloc _ _
                  have HW5 := Lib.hid hw5
                  clear hw5
                  have hT7 := hT.new hb5
                  have hadd := badd_bok (fun b => b ≠ ga ∧ b ≠ gb) F Ax q cx M hT7.a HQ.out (hrx.new hb5) (fun b hb => hb.1) hqm
                  have HRS := Lib.hid (run_take (b := a) hlt' HXX.out)
                  have HE2 : Hid (B.addE (B.run a (plain (lf.take i))) (F, M) ≠ 2) := Lib.hid ((HSHA.out (F, M) (by rw [← hOf.pl]; exact List.mem_map.2 ⟨_, HXL.out, rfl⟩)).2 _)
                  go_wp2_with fail
                  rw [HW5.out]
                  refine hadd.mono ?_
                  rintro e w8 ⟨rfl, ⟨ma', hB8, hm8⟩, hK8⟩
                  have hT8 := hT7.step hK8 hB8 hm8
                  rw [HRS.out] at hT8
                  have hOf8 : Out w w8 ga gb (some ad) lf (B.news b a.saw) := ⟨(hOf.er.new hb5).kpt hT7.a.pb hK8 (fun b hb => hb.1), hOf.pl⟩
                  have hOg8 : Out w w8 ga gb A6 lg (B.news a b.saw) := ⟨(hOg.er.new hb5).kpt hT7.a.pb hK8 (fun b hb => hb.1), hOg.pl⟩
                  have hne2 : (B.addE (B.run a (plain (lf.take i))) (F, M) == 2) = false := by simpa using HE2.out
                  revert hne2
                  generalize B.addE (B.run a (plain (lf.take i))) (F, M) = ra
                  intro hne2
                  clear hadd c0 c1 c2 c3 c4 c5 c6 c7 c8 c9 c10 c11 c12 c13 hB8 hK8 hm8 hT7 hT hb5 hOf hOg HE2
                  go_wp2
                  go_roundw
                  case rel => exact ⟨i + 1, ma', by go_num, by omega, hT8, hOf8, hOg8⟩
                  case measure => simp [intOf]; omega
                · have hll : plain (lf.take i) = B.news b a.saw := by rw [List.take_of_length_le (by rw [← HN4.out]; omega), hOf.pl]
                  rw [hll] at hT
                  obtain ⟨a2, ha2⟩ : ∃ x, x = B.run a (B.news b a.saw) := ⟨_, rfl⟩
                  rw [← ha2] at hT HM
                  have HA2 := Lib.hid ha2
                  clear hll ha2 hOf
                  go_wp2_with fail
                  go_loopw [86] (fun iv wr => ∃ i mb, iv = .int .i64 (i : Nat) ∧ i ≤ N6 ∧ Two w wr ga gb ma mb a2 (B.run b (plain (lg.take i))) ∧ Out w wr ga gb A6 lg (B.news a b.saw)) (fun iv _ => N6 - (intOf iv).toNat)
                  case atStart => exact ⟨0, mb, rfl, by omega, hT, hOg⟩
                  case round =>
                    obtain ⟨i, mb, rfl, hi, hT, hOg⟩ := hrel
                    by_cases hlt : i < N6
                    · have hlt' : i < lg.length := by rw [← HN6.out]; exact hlt
                      obtain ⟨ad, rfl, _, hrx, c0, c1, c2, c3, c4, c5, c6, c7, c8, c9, c10, c11, c12, c13⟩ := (hOg.er).cells hlt'
                      obtain ⟨x, hx⟩ : ∃ x, x = lg[i] := ⟨_, rfl⟩
                      rw [← hx] at hrx c0 c1 c2 c3 c4 c5 c6 c7 c8 c9 c10 c11 c12 c13
                      have hxl : x ∈ lg := by rw [hx]; exact List.getElem_mem hlt'
                      have HXX := Lib.hid hx
                      obtain ⟨F, M, Ax, cx⟩ := x
                      simp only at hrx c0 c1 c2 c3 c4 c5 c6 c7 c8 c9 c10 c11 c12 c13
                      obtain ⟨q, hq⟩ : ∃ q, M.length = q := ⟨_, rfl⟩
                      rw [hq] at c13
                      have hqm : q ≤ maxLen := by rw [← hq]; exact Nat.le_trans (HSHB.out (F, M) (by rw [← hOg.pl]; exact List.mem_map.2 ⟨_, hxl, rfl⟩)).1 (by unfold maxLen; omega)
                      have HQ := Lib.hid hq
                      have HXL := Lib.hid hxl
                      clear hq hx hxl
                      obtain ⟨w7, hw5⟩ : ∃ W, wr.alloc (.cells (ecs F Ax q cx) 43) = W := ⟨_, rfl⟩
                      have hb5 : Below wr.heap.size wr w7 := by rw [← hw5]; exact b_alloc _ _
                      have HW5 := Lib.hid hw5
                      clear hw5
                      have hT7 := hT.new hb5
                      have hadd := badd_bok (fun b => b ≠ ga ∧ b ≠ gb) F Ax q cx M hT7.b HQ.out (hrx.new hb5) (fun b hb => hb.2) hqm
                      have HRS := Lib.hid (run_take (b := b) hlt' HXX.out)
                      have HE2 : Hid (B.addE (B.run b (plain (lg.take i))) (F, M) ≠ 2) := Lib.hid ((HSHB.out (F, M) (by rw [← hOg.pl]; exact List.mem_map.2 ⟨_, HXL.out, rfl⟩)).2 _)
                      go_wp2_with fail
                      rw [HW5.out]
                      refine hadd.mono ?_
                      rintro e w8 ⟨rfl, ⟨mb', hB8, hm8⟩, hK8⟩
                      have hT8 := (hT7.swap.step hK8 hB8 hm8).swap
                      rw [HRS.out] at hT8
                      have hOg8 : Out w w8 ga gb (some ad) lg (B.news a b.saw) := ⟨(hOg.er.new hb5).kpt hT7.b.pb hK8 (fun b hb => hb.2), hOg.pl⟩
                      have hne2 : (B.addE (B.run b (plain (lg.take i))) (F, M) == 2) = false := by simpa using HE2.out
                      revert hne2
                      generalize B.addE (B.run b (plain (lg.take i))) (F, M) = ra
                      intro hne2
                      clear hadd c0 c1 c2 c3 c4 c5 c6 c7 c8 c9 c10 c11 c12 c13 hB8 hK8 hm8 hT7 hT hb5 hOg HE2
                      go_wp2
                      go_roundw
                      case rel => exact ⟨i + 1, mb', by go_num, by omega, hT8, hOg8⟩
                      case measure => simp [intOf]; omega
                    · have hll : plain (lg.take i) = B.news a b.saw := by rw [List.take_of_length_le (by rw [← HN6.out]; omega), hOg.pl]
                      rw [hll] at hT
                      obtain ⟨b2, hb2⟩ : ∃ x, x = B.run b (B.news a b.saw) := ⟨_, rfl⟩
                      rw [← hb2] at hT HM
                      have hkn := knows_any hT HM.out.1 HM.out.2.1 (Nat.le_trans (hold_len hT.a.pb.1) (by omega))
                      have hbl := hT.a.bl
                      obtain ⟨U2, hU2⟩ : ∃ U, U = D.cU b2.saw := ⟨_, rfl⟩
                      obtain ⟨M2, hM2⟩ : ∃ M, M = D.cM b2.saw := ⟨_, rfl⟩
                      obtain ⟨n2, hn2⟩ : ∃ n, M2.length = n := ⟨_, rfl⟩
                      have hn2l : n2 ≤ 1000000 := by rw [← hn2, hM2]; exact Nat.le_trans (D.cM_len _) (by omega)
                      have HX2 : Hid (B.newer a2 (D.has U2 M2) 1000 = []) := Lib.hid (by rw [hU2, hM2, newer_all hT.b.pb.1 hT.a.pb.1]; exact HM.out.2.2)
                      have HS2 : Hid (∀ V, Below wr.heap.size wr V → Calls Try.prog 19 #[.pointer (some ⟨gb, 0, none⟩)] V (CopyPost U2 M2 V)) := Lib.hid (fun V hV => by rw [hU2, hM2]; exact bseen_any V (hT.new hV).b.pb)
                      have HN2 := Lib.hid hn2
                      clear hll hb2 hU2 hM2 hn2 hOg HM
                      go_wp2_with fail
                      refine hkn.mono ?_
                      rintro e w9 ⟨rfl, hb9⟩
                      have hs9 := HS2.out w9 hb9
                      have hT9 := hT.new hb9
                      clear hkn HS2 hT
                      go_wp2_with fail
                      refine hs9.mono ?_
                      rintro e w10 ⟨A10, c10, rfl, hC10, hb10⟩
                      rw [HN2.out]
                      have hnw := bnewer_any U2 A10 n2 c10 M2 1000 w10 (hT9.new hb10).a.pb HN2.out hC10.rds hn2l
                      rw [HX2.out] at hnw
                      have hb09 := below_new (below_new hbl hb9) hb10
                      clear hs9 hT9 hC10
                      go_wp2_with fail
                      refine hnw.mono ?_
                      rintro e w11 ⟨A11, N11, c11, l11, rfl, HN11, hl11, hO11, hb11⟩
                      have hN11 : N11 = 0 := by rw [HN11.out, ← plain_len, hl11]; rfl
                      subst hN11
                      clear hnw hO11 hl11 HN11
                      go_wp2
                      go_ret
                      exact ⟨rfl, below_new hb09 hb11⟩
end Go.Proofs.Ytedcgfcmhaeldaa
