/- Layer 10, the document's own: Mean, Load. -/
import Derived.Test.YtodlifbhpgphcaaWinOf
import Derived.Test.YtodlifbhpgphcaaSatDocA
namespace Go.Proofs.Ytodlifbhpgphcaa
set_option linter.unusedVariables false
set_option linter.unusedSimpArgs false
open Go.ChangeShapes Go.WideShapes Go.ChangeAt Go.RowKit

set_option maxRecDepth 100000 in
set_option maxHeartbeats 4000000 in
theorem rmean_any (T : Nat → Prop) (A : Option Addr) (n c : Nat) (l : List EvV) (k nd sz : Int) (w : World) (hn : l.length = n) (hr : ERds w T A l) (hl : n ≤ 900000) (hm : ∀ e ∈ l, e.M.length ≤ 1000000) :
    Calls Try.prog 14 #[.slice A n c, .int .i64 k, .int .i64 nd, .int .i64 sz] w fun e w' => e = .returned (meanV (meanQ (newQ k nd sz l))) ∧ Below w.heap.size w w' := by
  have HOF := Lib.hid (rof_any T A n c l k nd sz w hn hr hl hm)
  have HLE : Hid ((newQ k nd sz l).length ≤ 900000) := Lib.hid (by have := newQ_len k nd sz l; omega)
  clear hn hr hm
  go_enter Try.func14, Try.ntmps14
  go_wp2_with fail
  refine HOF.out.mono ?_
  rintro e w1 ⟨A1, N, c1, m, rfl, hN, hp, hO, hb⟩
  have HMQ : Hid (meanQ (newQ k nd sz l) = meanQ m) := Lib.hid (meanQ_plain hp.symm)
  have HN := Lib.hid hN
  have hN9 : N ≤ 900000 := by have := HLE.out; rw [hN, ← plain_len, hp, plain_len]; exact this
  have HR := Lib.hid hO.erds
  clear hN hp hO HOF HLE
  by_cases h0 : N = 0
  · subst h0
    have HV : Hid (meanV (meanQ (newQ k nd sz l)) = .tuple #[.int .i64 0, .bool false]) := Lib.hid (by rw [HMQ.out]; unfold meanQ meanV; rw [if_pos HN.out.symm])
    go_wp2
    go_ret2
    rw [HV.out]
    exact ⟨rfl, hb⟩
  · have h0' : ((N : Int) == 0) = false := by simp; omega
    have h0'' : ¬ (N : Int) = 0 := by omega
    have hNp : (0 : Int) < (N : Int) := by omega
    have HV : Hid (meanV (meanQ (newQ k nd sz l)) = .tuple #[.int .i64 (S.cdiv (sumQ m) N), .bool true]) := Lib.hid (by rw [HMQ.out]; unfold meanQ meanV; rw [if_neg (by rw [← HN.out]; exact h0), ← HN.out])
    have hb1s := hb.size
    go_wp2_with fail
    go_loopw [11, 26] (fun sv iv wr => ∃ i : Nat, iv = .int .i64 i ∧ i ≤ N ∧ sv = .int .i64 (sumQ (m.take i)) ∧ Below w1.heap.size w1 wr) (fun _ iv _ => N - (intOf iv).toNat)
    case atStart => exact ⟨0, rfl, by omega, rfl, Below.refl _ _⟩
    case round =>
      obtain ⟨i, rfl, hi, rfl, hbr⟩ := hrel
      by_cases hlt : i < N
      · have hlt' : i < m.length := by rw [← HN.out]; exact hlt
        have hiN : (i : Int) < (N : Int) := by omega
        obtain ⟨ad, rfl, _, _, c0, c1, c2, c3, c4, c5, c6, c7, c8, c9, c10, c11, c12, c13⟩ := (HR.out.new hbr).cells hlt'
        have HST := Lib.hid (sumQ_take hlt')
        obtain ⟨a, ha⟩ : ∃ a, a = sumQ (m.take i) := ⟨_, rfl⟩
        rw [← ha] at HST ⊢
        obtain ⟨x, hx⟩ : ∃ x, x = m[i] := ⟨_, rfl⟩
        rw [← hx] at c0 c1 c2 c3 c4 c5 c6 c7 c8 c9 c10 c11 c12 c13 HST
        obtain ⟨F, M, Ax, cx⟩ := x
        simp only at c0 c1 c2 c3 c4 c5 c6 c7 c8 c9 c10 c11 c12 c13 HST
        obtain ⟨q, hq⟩ : ∃ q, M.length = q := ⟨_, rfl⟩
        rw [hq] at c13
        obtain ⟨w2, hw2⟩ : ∃ W, wr.alloc (.cells (ecs F Ax q cx) 46) = W := ⟨_, rfl⟩
        have hb2 : Below wr.heap.size wr w2 := by rw [← hw2]; exact b_alloc _ _
        have hb12 := below_new hbr hb2
        have HW2 := Lib.hid hw2
        have had := radd_any a (F 5) w2
        clear hx hq hw2 ha hbr hb2
        go_wp2_with fail
        rw [HW2.out]
        refine had.mono ?_
        rintro e w3 ⟨rfl, rfl⟩
        clear had c0 c1 c2 c3 c4 c5 c6 c7 c8 c9 c10 c11 c12 c13
        go_wp2
        go_roundw
        case rel => exact ⟨i + 1, by go_num, by omega, by rw [HST.out], hb12⟩
        case measure => simp [intOf]; omega
      · obtain rfl : i = N := by omega
        have HV2 : Hid (meanV (meanQ (newQ k nd sz l)) = .tuple #[.int .i64 (S.cdiv (sumQ (m.take i)) i), .bool true]) := Lib.hid (by rw [HV.out, List.take_of_length_le (by rw [← HN.out]; exact Nat.le_refl _)])
        obtain ⟨a, ha⟩ : ∃ a, a = sumQ (m.take i) := ⟨_, rfl⟩
        rw [← ha] at HV2 ⊢
        have hcd := rcdiv_yes a (i : Int) wr hNp
        have hlt2 : ¬ ((i : Int) < (i : Int)) := by omega
        clear ha HV
        go_wp2_with fail
        refine hcd.mono ?_
        rintro e w3 ⟨rfl, rfl⟩
        have hbf := below_new hb hbr
        clear hcd hbr
        go_wp2
        go_ret2
        rw [HV2.out]
        exact ⟨rfl, hbf⟩
end Go.Proofs.Ytodlifbhpgphcaa
