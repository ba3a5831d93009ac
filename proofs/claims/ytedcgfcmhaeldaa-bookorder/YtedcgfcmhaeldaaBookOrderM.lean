/- The walk of BookOrder. -/
import Derived.Test.YtedcgfcmhaeldaaBkLaw2
import Derived.Test.YtedcgfcmhaeldaaBkClosed
namespace Go.Proofs.Ytedcgfcmhaeldaa
set_option linter.unusedVariables false
set_option linter.unusedSimpArgs false
open Go.ChangeShapes Go.WideShapes Go.ChangeAt Go.RowKit

set_option maxRecDepth 100000 in
set_option maxHeartbeats 16000000 in
theorem order_main (A : Option Addr) (n c : Nat) (l : List EvV) (O : Option Addr) (no d : Nat) (L : List Int) (w : World) (hA : EvsIn w A n c l) (hLn : L.length = no) (hro : Rds w (· < w.heap.size) O (u8s L)) (hby : Byt L) (hno : no ≤ maxLen) :
    Calls Try.prog 4 #[.slice A n c, .slice O no d] w fun e w' => e = .returned (.bool true) ∧ Below w.heap.size w w' := by
  obtain ⟨hn, hnc, hcm, hr, hmk⟩ := hA
  have hnm : n ≤ maxLen := by omega
  have HN := Lib.hid hn
  have HMK := Lib.hid hmk
  have HBY := Lib.hid hby
  have HLN := Lib.hid hLn
  clear hn hmk hnc hcm hby hLn
  by_cases h40 : 40 < n
  · have q40 : decide ((40 : Int) < (n : Int)) = true := by simp; omega
    clear h40 hno
    go_enter Try.func4, Try.ntmps4
    go_wp2_with fail
    refine (balive_any _).mono ?_
    rintro e w1 ⟨rfl, hb1⟩
    go_wp2
    go_ret
    exact ⟨rfl, hb1⟩
  have q40 : decide ((40 : Int) < (n : Int)) = false := by simp; omega
  have H40 := Lib.hid (Nat.le_of_not_lt h40)
  by_cases h200 : 200 < no
  · have q200 : decide ((200 : Int) < (no : Int)) = true := by simp; omega
    clear h40 h200 hno
    go_enter Try.func4, Try.ntmps4
    go_wp2_with fail
    refine (balive_any _).mono ?_
    rintro e w1 ⟨rfl, hb1⟩
    go_wp2
    go_ret
    exact ⟨rfl, hb1⟩
  have q200 : decide ((200 : Int) < (no : Int)) = false := by simp; omega
  have H200 := Lib.hid (Nat.le_of_not_lt h200)
  have hnb : n ≤ 1000000 := by omega
  have hnob : no ≤ 1000000 := by omega
  clear h40 h200
  go_enter Try.func4, Try.ntmps4
  go_wp2_with fail
  refine (balive_any _).mono ?_
  rintro e w1 ⟨rfl, hb1⟩
  have hgr := great_any _ A n c l w1 HN.out (hr.new hb1) hnm
  go_wp2_with fail
  refine hgr.mono ?_
  rintro e w2 ⟨gt, rfl, hb2, hgt⟩
  have hb02 := below_new hb1 hb2
  clear hgr
  cases gt with
  | true =>
    clear hgt
    go_wp2
    go_ret
    exact ⟨rfl, hb02⟩
  | false =>
    have HBK : Hid (bulk l ≤ 3000) := Lib.hid (hgt rfl HMK.out)
    clear hgt hb1 hb2 HMK
    go_wp2_with fail
    go_loopw [30] (fun iv wr => ∃ i : Nat, iv = .int .i64 i ∧ i ≤ n ∧ Hid (∀ e ∈ plain (l.take i), E.right e.1 e.2 = true) ∧ Below w.heap.size w wr) (fun iv _ => n - (intOf iv).toNat)
    case atStart => exact ⟨0, rfl, by omega, Lib.hid (fun e he => by simp [plain] at he), hb02⟩
    case round =>
      obtain ⟨i, rfl, hi, HR, hbr⟩ := hrel
      by_cases hlt : i < n
      · have hlt' : i < l.length := by rw [HN.out]; exact hlt
        obtain ⟨ad, rfl, _, hrx, c0, c1, c2, c3, c4, c5, c6, c7, c8, c9, c10, c11, c12, c13⟩ := (hr.new hbr).cells hlt'
        obtain ⟨x, hx⟩ : ∃ x, x = l[i] := ⟨_, rfl⟩
        rw [← hx] at hrx c0 c1 c2 c3 c4 c5 c6 c7 c8 c9 c10 c11 c12 c13
        have hxl : x ∈ l := by rw [hx]; exact List.getElem_mem hlt'
        have HXX := Lib.hid hx
        obtain ⟨F, M, Ax, cx⟩ := x
        simp only at hrx c0 c1 c2 c3 c4 c5 c6 c7 c8 c9 c10 c11 c12 c13
        obtain ⟨q, hq⟩ : ∃ q, M.length = q := ⟨_, rfl⟩
        rw [hq] at c13
        have hqm : q ≤ maxLen := by rw [← hq]; exact len_max (bulk_max HBK.out hxl)
        have HQ := Lib.hid hq
        have HXL := Lib.hid hxl
        clear hq hx hxl
        obtain ⟨w5, hw5⟩ : ∃ W, wr.alloc (.cells (ecs F Ax q cx) 43) = W := ⟨_, rfl⟩
        have hb5 : Below wr.heap.size wr w5 := by rw [← hw5]; exact b_alloc _ _
        have HW5 := Lib.hid hw5
        clear hw5
        have hbr5 := below_new hbr hb5
        have hright := evright_any _ F Ax q cx M w5 HQ.out (hrx.new hb5) hqm
        go_wp2_with fail
        rw [HW5.out]
        refine hright.mono ?_
        rintro e w6 ⟨rfl, hb6⟩
        have hb06 := below_new hbr5 hb6
        clear hright c0 c1 c2 c3 c4 c5 c6 c7 c8 c9 c10 c11 c12 c13
        cases hq : E.right F M with
        | false =>
          clear hq
          go_wp2
          go_ret
          exact ⟨rfl, hb06⟩
        | true =>
          have HR' : Hid (∀ e ∈ plain (l.take (i + 1)), E.right e.1 e.2 = true) := Lib.hid (fun e he => by
            rw [plain_take hlt', ← HXX.out] at he
            rcases List.mem_append.1 he with h | h
            · exact HR.out e h
            · simp at h; subst h; exact hq)
          clear hq
          go_wp2
          go_roundw
          case rel => exact ⟨i + 1, by go_num, by omega, HR', hb06⟩
          case measure => simp [intOf]; omega
      · have HR' : Hid (∀ e ∈ plain l, E.right e.1 e.2 = true) := Lib.hid (fun e he => HR.out e (by rw [List.take_of_length_le (by rw [HN.out]; omega)]; exact he))
        have hclo := rclosed_any _ A n c l wr HN.out (hr.new hbr) (by have := bulk_n HBK.out; rw [HN.out] at this; omega) (fun e he => Nat.le_trans (bulk_max HBK.out he) (by omega))
        clear HR
        go_wp2_with fail
        refine hclo.mono ?_
        rintro e w3 ⟨cl, rfl, hb3, hcl⟩
        have hb03 := below_new hbr hb3
        clear hclo
        cases cl with
        | false =>
          clear hcl
          go_wp2
          go_ret
          exact ⟨rfl, hb03⟩
        | true =>
          have HC : Hid (B.Closed (plain l)) := Lib.hid (closed_of (hcl rfl) HR'.out)
          clear hcl HR' hb3 hbr
          go_wp2_with fail
          refine (bnew_bok hb03).mono ?_
          rintro e w4 ⟨rfl, hB4, hb4⟩
          obtain ⟨ga, hga⟩ : ∃ q, q = w3.heap.size := ⟨_, rfl⟩
          rw [← hga] at hB4 ⊢
          clear hga
          go_wp2_with fail
          refine (bnew_bok hB4.bl).mono ?_
          rintro e w5 ⟨rfl, hB5, hb5⟩
          obtain ⟨gb, hgb⟩ : ∃ q, q = w4.heap.size := ⟨_, rfl⟩
          rw [← hgb] at hB5 ⊢
          have hT0 : Two w w5 ga gb none none B.new B.new := ⟨hB4.new hb5, hB5, by have := hB4.lt; omega, fun x hx => (by cases hx)⟩
          clear hB4 hB5 hb4 hb5 hgb hb03
          go_wp2_with fail
          go_loopw [45] (fun iv wr => ∃ i ma, iv = .int .i64 (i : Nat) ∧ i ≤ n ∧ Two w wr ga gb ma none (B.run B.new (plain (l.take i))) B.new) (fun iv _ => n - (intOf iv).toNat)
          case atStart => exact ⟨0, none, rfl, by omega, hT0⟩
          case round =>
            obtain ⟨i, ma, rfl, hi, hT⟩ := hrel
            clear hT0
            by_cases hlt : i < n
            · have hlt' : i < l.length := by rw [HN.out]; exact hlt
              obtain ⟨ad, rfl, _, hrx, c0, c1, c2, c3, c4, c5, c6, c7, c8, c9, c10, c11, c12, c13⟩ := (hT.a.erds hr).cells hlt'
              obtain ⟨x, hx⟩ : ∃ x, x = l[i] := ⟨_, rfl⟩
              rw [← hx] at hrx c0 c1 c2 c3 c4 c5 c6 c7 c8 c9 c10 c11 c12 c13
              have hxl : x ∈ l := by rw [hx]; exact List.getElem_mem hlt'
              have HXX := Lib.hid hx
              obtain ⟨F, M, Ax, cx⟩ := x
              simp only at hrx c0 c1 c2 c3 c4 c5 c6 c7 c8 c9 c10 c11 c12 c13
              obtain ⟨q, hq⟩ : ∃ q, M.length = q := ⟨_, rfl⟩
              rw [hq] at c13
              have hqm : q ≤ maxLen := by rw [← hq]; exact len_max (bulk_max HBK.out hxl)
              have HQ := Lib.hid hq
              have HXL := Lib.hid hxl
              clear hq hx hxl
              obtain ⟨w5, hw5⟩ : ∃ W, wr.alloc (.cells (ecs F Ax q cx) 43) = W := ⟨_, rfl⟩
              have hb5 : Below wr.heap.size wr w5 := by rw [← hw5]; exact b_alloc _ _
              have HW5 := Lib.hid hw5
              clear hw5
              have hT5 := hT.new hb5
              have hgaw := hT.a.gl
              have hadd := badd_bok (fun b => b < w.heap.size) F Ax q cx M hT5.a HQ.out (hrx.new hb5) (fun b hb => by omega) hqm
              have HRS : Hid (B.add (B.run B.new (plain (l.take i))) (F, M) = B.run B.new (plain (l.take (i + 1)))) := Lib.hid (by rw [plain_take hlt', run_snoc, ← HXX.out])
              go_wp2_with fail
              rw [HW5.out]
              refine hadd.mono ?_
              rintro e w6 ⟨rfl, ⟨ma', hB6, hm6⟩, hK6⟩
              have hT6 := hT5.step hK6 hB6 hm6
              rw [HRS.out] at hT6
              generalize B.addE (B.run B.new (plain (l.take i))) (F, M) = ra
              clear hadd c0 c1 c2 c3 c4 c5 c6 c7 c8 c9 c10 c11 c12 c13 hB6 hK6 hm6 hT5 hT hb5
              go_wp2
              go_roundw
              case rel => exact ⟨i + 1, ma', by go_num, by omega, hT6⟩
              case measure => simp [intOf]; omega
            · have hll : l.take i = l := List.take_of_length_le (by rw [HN.out]; omega)
              rw [hll] at hT
              obtain ⟨a, ha⟩ : ∃ a, a = B.run B.new (plain l) := ⟨_, rfl⟩
              rw [← ha] at hT
              have HAA := Lib.hid ha
              clear hll ha
              have hT0 : ∃ s mb, Hid (∀ e ∈ s, e ∈ plain l) ∧ Two w wr ga gb ma mb a (B.run B.new s) := ⟨[], none, Lib.hid (fun e he => by cases he), hT⟩
              clear hT
              go_wp2_with fail
              go_loopw [55] (fun iv wr => ∃ i : Nat, iv = .int .i64 i ∧ i ≤ no ∧ ∃ s mb, Hid (∀ e ∈ s, e ∈ plain l) ∧ Two w wr ga gb ma mb a (B.run B.new s)) (fun iv _ => no - (intOf iv).toNat)
              case atStart => exact ⟨0, rfl, by omega, hT0⟩
              case round =>
                obtain ⟨j, rfl, hj, s, mb, HS, hT⟩ := hrel
                clear hT0
                by_cases hlt : j < no
                · have hltL : j < L.length := by rw [HLN.out]; exact hlt
                  obtain ⟨od, rfl, _, o0⟩ := (hT.a.rds hro).int hltL
                  have hz := HBY.out.at hltL
                  obtain ⟨z, hz'⟩ := Int.eq_ofNat_of_zero_le hz.1
                  rw [hz'] at o0 hz
                  clear hz'
                  have hz2 := hz.2
                  clear hz
                  by_cases hn0 : 0 < n
                  · obtain ⟨k, hk0, hk⟩ : ∃ k : Nat, ((z : Int) % (n : Int)) = (k : Int) ∧ k < n := ⟨z % n, by simp, Nat.mod_lt _ hn0⟩
                    have hne0 : ((n : Int) == 0) = false := by simp; omega
                    have hn0' : decide ((0 : Int) < (n : Int)) = true := by simp; omega
                    have hlt' : k < l.length := by rw [HN.out]; exact hk
                    obtain ⟨ad, rfl, _, hrx, c0, c1, c2, c3, c4, c5, c6, c7, c8, c9, c10, c11, c12, c13⟩ := (hT.b.erds hr).cells hlt'
                    obtain ⟨x, hx⟩ : ∃ x, x = l[k] := ⟨_, rfl⟩
                    rw [← hx] at hrx c0 c1 c2 c3 c4 c5 c6 c7 c8 c9 c10 c11 c12 c13
                    have hxl : x ∈ l := by rw [hx]; exact List.getElem_mem hlt'
                    have HXX := Lib.hid hx
                    obtain ⟨F, M, Ax, cx⟩ := x
                    simp only at hrx c0 c1 c2 c3 c4 c5 c6 c7 c8 c9 c10 c11 c12 c13
                    obtain ⟨q, hq⟩ : ∃ q, M.length = q := ⟨_, rfl⟩
                    rw [hq] at c13
                    have hqm : q ≤ maxLen := by rw [← hq]; exact len_max (bulk_max HBK.out hxl)
                    have HQ := Lib.hid hq
                    have HXL := Lib.hid hxl
                    clear hq hx hxl
                    have hgbw := hT.b.gl
                    have hadd := badd_bok (fun b => b < w.heap.size) F Ax q cx M hT.b HQ.out hrx (fun b hb => by omega) hqm
                    have HS' : Hid (∀ e ∈ s ++ [(F, M)], e ∈ plain l) := Lib.hid (fun e he => by
                      rcases List.mem_append.1 he with h | h
                      · exact HS.out e h
                      · simp at h; subst h; exact List.mem_map.2 ⟨_, HXL.out, rfl⟩)
                    clear hgbw
                    have hk1 : (k : Int) < (n : Int) := by omega
                    go_wp2_with fail
                    refine hadd.mono ?_
                    rintro e w6 ⟨rfl, ⟨mb', hB6, hm6⟩, hK6⟩
                    have hT6 := (hT.swap.step hK6 hB6 hm6).swap
                    rw [← run_snoc] at hT6
                    generalize B.addE (B.run B.new s) (F, M) = ra
                    clear hadd c0 c1 c2 c3 c4 c5 c6 c7 c8 c9 c10 c11 c12 c13 hB6 hK6 hm6 hT hk0 hne0 hn0'
                    go_wp2
                    go_roundw
                    case rel => exact ⟨j + 1, by go_num, by omega, s ++ [(F, M)], mb', HS', hT6⟩
                    case measure => simp [intOf]; omega
                  · have hn0' : ¬ (0 : Int) < (n : Int) := by omega
                    go_wp2
                    go_roundw
                    case rel => exact ⟨j + 1, by go_num, by omega, s, mb, HS, hT⟩
                    case measure => simp [intOf]; omega
                · clear hj
                  have hT0 : ∃ s mb, Hid ((∀ e ∈ s, e ∈ plain l) ∧ ∀ j (hj : j < l.length), n - 0 ≤ j → (l[j].F, l[j].M) ∈ s) ∧ Two w wr ga gb ma mb a (B.run B.new s) := ⟨s, mb, Lib.hid ⟨HS.out, fun j hj h => by rw [HN.out] at hj; omega⟩, hT⟩
                  clear hT HS
                  go_wp2_with fail
                  go_loopw [75] (fun iv wr => ∃ i : Nat, iv = .int .i64 i ∧ i ≤ n ∧ ∃ s mb, Hid ((∀ e ∈ s, e ∈ plain l) ∧ ∀ j (hj : j < l.length), n - i ≤ j → (l[j].F, l[j].M) ∈ s) ∧ Two w wr ga gb ma mb a (B.run B.new s)) (fun iv _ => n - (intOf iv).toNat)
                  case atStart => exact ⟨0, rfl, by omega, hT0⟩
                  case round =>
                    obtain ⟨i, rfl, hi, s, mb, HS, hT⟩ := hrel
                    clear hT0
                    by_cases hlt : i < n
                    · obtain ⟨k, hk⟩ : ∃ k : Nat, k = n - 1 - i := ⟨_, rfl⟩
                      have hk0 : (n : Int) - 1 - (i : Int) = (k : Int) := by omega
                      have hlt' : k < l.length := by rw [HN.out]; omega
                      obtain ⟨ad, rfl, _, hrx, c0, c1, c2, c3, c4, c5, c6, c7, c8, c9, c10, c11, c12, c13⟩ := (hT.b.erds hr).cells hlt'
                      obtain ⟨x, hx⟩ : ∃ x, x = l[k] := ⟨_, rfl⟩
                      rw [← hx] at hrx c0 c1 c2 c3 c4 c5 c6 c7 c8 c9 c10 c11 c12 c13
                      have hxl : x ∈ l := by rw [hx]; exact List.getElem_mem hlt'
                      have HXX := Lib.hid hx
                      obtain ⟨F, M, Ax, cx⟩ := x
                      simp only at hrx c0 c1 c2 c3 c4 c5 c6 c7 c8 c9 c10 c11 c12 c13
                      obtain ⟨q, hq⟩ : ∃ q, M.length = q := ⟨_, rfl⟩
                      rw [hq] at c13
                      have hqm : q ≤ maxLen := by rw [← hq]; exact len_max (bulk_max HBK.out hxl)
                      have HQ := Lib.hid hq
                      have HXL := Lib.hid hxl
                      clear hq hx hxl
                      have hgbw := hT.b.gl
                      have hadd := badd_bok (fun b => b < w.heap.size) F Ax q cx M hT.b HQ.out hrx (fun b hb => by omega) hqm
                      have HS' : Hid ((∀ e ∈ s ++ [(F, M)], e ∈ plain l) ∧ ∀ j (hj : j < l.length), n - (i + 1) ≤ j → (l[j].F, l[j].M) ∈ s ++ [(F, M)]) := Lib.hid ⟨fun e he => by
                        rcases List.mem_append.1 he with h | h
                        · exact HS.out.1 e h
                        · simp at h; subst h; exact List.mem_map.2 ⟨_, HXL.out, rfl⟩, fun j hj h => by
                        by_cases hjk : n - i ≤ j
                        · exact List.mem_append.2 (.inl (HS.out.2 j hj hjk))
                        · have : j = k := by omega
                          subst this
                          exact List.mem_append.2 (.inr (by rw [← HXX.out]; simp))⟩
                      have hk1 : (k : Int) < (n : Int) := by omega
                      have hk2 : k < n := by omega
                      clear hgbw hk HS
                      have hw1 : IntKind.i64.wrap ((n : Int) - 1) = (n : Int) - 1 := IntWalk.i64_in _ (by omega)
                      have hw2 : IntKind.i64.wrap ((n : Int) - 1 - (i : Int)) = (k : Int) := by rw [hk0]; exact IntWalk.i64_in _ (by omega)
                      go_wp2_with fail
                      refine hadd.mono ?_
                      rintro e w6 ⟨rfl, ⟨mb', hB6, hm6⟩, hK6⟩
                      have hT6 := (hT.swap.step hK6 hB6 hm6).swap
                      rw [← run_snoc] at hT6
                      generalize B.addE (B.run B.new s) (F, M) = ra
                      clear hadd c0 c1 c2 c3 c4 c5 c6 c7 c8 c9 c10 c11 c12 c13 hB6 hK6 hm6 hT hk0 hw1 hw2
                      go_wp2
                      go_roundw
                      case rel => exact ⟨i + 1, by go_num, by omega, s ++ [(F, M)], mb', HS', hT6⟩
                      case measure => simp [intOf]; omega
                    · have hsame := B.fed_same (B.fed_run HC.out (m := plain l) (fun e he => he)) (B.fed_run HC.out (m := s) HS.out.1) (fun e => ⟨fun he => by
                        obtain ⟨x, hx, rfl⟩ := List.mem_map.1 he
                        obtain ⟨j, hj, rfl⟩ := List.mem_iff_getElem.1 hx
                        exact HS.out.2 j hj (by have := HN.out; omega), HS.out.1 e⟩)
                      rw [← HAA.out] at hsame
                      have hkn := knows_any hT hsame.1 hsame.2 (Nat.le_trans (hold_len hT.a.pb.1) (by omega))
                      have hbl := hT.a.bl
                      clear hsame
                      go_wp2_with fail
                      refine hkn.mono ?_
                      rintro e w6 ⟨rfl, hb6⟩
                      clear hkn
                      go_wp2
                      go_ret
                      exact ⟨rfl, below_new hbl hb6⟩
end Go.Proofs.Ytedcgfcmhaeldaa
