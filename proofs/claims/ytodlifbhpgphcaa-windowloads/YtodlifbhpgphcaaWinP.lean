/- Layer 10, the program's: Mean, Load. -/
import Derived.Test.YtodlifbhpgphcaaWinP2
import Derived.Test.YtodlifbhpgphcaaWinLoad
import Derived.Test.YtodlifbhpgphcaaSatAdd
namespace Go.Proofs.Ytodlifbhpgphcaa
set_option linter.unusedVariables false
set_option linter.unusedSimpArgs false
open Go.ChangeShapes Go.WideShapes Go.ChangeAt Go.RowKit

set_option maxRecDepth 100000 in
set_option maxHeartbeats 8000000 in
theorem pmean_any (T : Nat → Prop) (A : Option Addr) (n c : Nat) (l : List EvV) (k nd sz : Int) (w : World) (hn : l.length = n) (hr : ERds w T A l) (hl : n ≤ 900000) (hm : ∀ e ∈ l, e.M.length ≤ 1000000) :
    Calls Try.prog 13 #[.slice A n c, .int .i64 k, .int .i64 nd, .int .i64 sz] w fun e w' => e = .returned (meanV (meanQ (newQ k nd sz l))) ∧ Below w.heap.size w w' := by
  obtain ⟨p, hp⟩ : ∃ p : Cap, p = ⟨w.heap.size, fun b => T b ∧ b < w.heap.size, A, n, c, l, hn⟩ := ⟨_, rfl⟩
  have HNW : Hid (Calls Try.prog 20 #[.slice A n c, .int .i64 k, .int .i64 nd, .int .i64 sz] w (NewPost p k nd sz w)) := Lib.hid (newestP_any p T A n c l k nd sz w (by rw [hp]) (by rw [hp]) (by rw [hp]) (by rw [hp]) (by rw [hp]) (by rw [hp]; exact fun _ => Iff.rfl) hr hl)
  have HPN : Hid (p.n = n) := Lib.hid (by rw [hp])
  have HPL : Hid (p.l = l) := Lib.hid (by rw [hp])
  have HPE : Hid (∀ (x : Fin p.n) (h : x.val < l.length), p.ev x = l[x.val]) := Lib.hid (by subst hp; exact fun x h => rfl)
  have HN := Lib.hid hn
  obtain ⟨ll, hll⟩ : ∃ ll, ll = newQ k nd sz l := ⟨_, rfl⟩
  have HLE : Hid (ll.length ≤ 900000) := Lib.hid (by rw [hll]; have := newQ_len k nd sz l; omega)
  rw [← hll]
  have HLL := Lib.hid hll
  clear hp hll hn hm
  go_enter Try.func13, Try.ntmps13
  go_wp2_with fail
  refine HNW.out.mono ?_
  rintro e w1 ⟨A1, N1, c1, ps, rfl, hN1, hps, hR1, hb1⟩
  have HLN : Hid (ll.length = N1) := Lib.hid (by rw [HLL.out, ← hN1]; have := congrArg List.length hps; rw [List.length_map] at this; rw [this, HPL.out])
  have HPS : Hid (∀ i (hi : i < N1) (hi' : i < ll.length), ∃ t : Nat, ∃ ht : t < l.length, (ivs ps)[i]? = some (.int .i64 (t : Int)) ∧ l[t] = ll[i]) := Lib.hid (fun i hi hi' => by
    have h0 : i < ps.length := by rw [hN1]; exact hi
    have h1 : (ps[i]).val < l.length := by have h := (ps[i]).isLt; rw [HN.out, ← HPN.out]; exact h
    refine ⟨(ps[i]).val, h1, ivs_at ps i h0, ?_⟩
    have h2 : i < (newQ k nd sz p.l).length := by rw [HPL.out, ← HLL.out]; exact hi'
    have h3 := new_at hps h0 h2
    rw [← HPE.out _ h1, ← h3]
    have e : newQ k nd sz p.l = ll := by rw [HPL.out, HLL.out]
    simp only [e])
  have hN9 : N1 ≤ 900000 := by rw [← HLN.out]; exact HLE.out
  have HR1 := Lib.hid hR1
  have hr1 := hr.new hb1
  clear hN1 hps hR1 HNW HPE HPL HPN HLE hr
  by_cases h0 : N1 = 0
  · subst h0
    have HV : Hid (meanV (meanQ ll) = .tuple #[.int .i64 0, .bool false]) := Lib.hid (by unfold meanQ meanV; rw [if_pos HLN.out])
    go_wp2
    go_ret2
    rw [HV.out]
    exact ⟨rfl, hb1⟩
  · have h0' : ((N1 : Int) == 0) = false := by simp; omega
    have h0'' : ¬ (N1 : Int) = 0 := by omega
    have hNp : (0 : Int) < (N1 : Int) := by omega
    have HV : Hid (meanV (meanQ ll) = .tuple #[.int .i64 (S.cdiv (sumQ ll) N1), .bool true]) := Lib.hid (by unfold meanQ meanV; rw [if_neg (by rw [HLN.out]; exact h0), HLN.out])
    go_wp2_with fail
    go_loopw [11, 26] (fun sv iv wr => ∃ i : Nat, iv = .int .i64 i ∧ i ≤ N1 ∧ sv = .int .i64 (sumQ (ll.take i)) ∧ Below w1.heap.size w1 wr) (fun _ iv _ => N1 - (intOf iv).toNat)
    case atStart => exact ⟨0, rfl, by omega, rfl, Below.refl _ _⟩
    case round =>
      obtain ⟨i, rfl, hi, rfl, hbr⟩ := hrel
      by_cases hlt : i < N1
      · have hlt' : i < ll.length := by rw [HLN.out]; exact hlt
        have hiN : (i : Int) < (N1 : Int) := by omega
        obtain ⟨t, htl, hiv, hxe⟩ := HPS.out i hlt hlt'
        obtain ⟨adp, rfl, _, p0⟩ := (HR1.out.new hbr) i _ hiv
        have htn : t < n := by rw [← HN.out]; exact htl
        obtain ⟨ad, rfl, _, _, c0, c1, c2, c3, c4, c5, c6, c7, c8, c9, c10, c11, c12, c13⟩ := (hr1.new hbr).cells htl
        have HST := Lib.hid (sumQ_take hlt')
        obtain ⟨a, ha⟩ : ∃ a, a = sumQ (ll.take i) := ⟨_, rfl⟩
        rw [← ha, ← hxe] at HST
        rw [← ha]
        obtain ⟨x, hx⟩ : ∃ x, x = l[t] := ⟨_, rfl⟩
        rw [← hx] at c0 c1 c2 c3 c4 c5 c6 c7 c8 c9 c10 c11 c12 c13 HST
        obtain ⟨F, M, Ax, cx⟩ := x
        simp only at c5 HST
        have had := add_any a (F 5) wr
        clear hx ha hiv hxe c0 c1 c2 c3 c4 c6 c7 c8 c9 c10 c11 c12 c13
        go_wp2_with fail
        refine had.mono ?_
        rintro e w3 ⟨rfl, hb3⟩
        have hb13 := below_new hbr hb3
        clear had c5 p0 hb3 hbr
        go_wp2
        go_roundw
        case rel => exact ⟨i + 1, by go_num, by omega, by rw [HST.out], hb13⟩
        case measure => simp [intOf]; omega
      · obtain rfl : i = N1 := by omega
        have HV2 : Hid (meanV (meanQ ll) = .tuple #[.int .i64 (S.cdiv (sumQ (ll.take i)) i), .bool true]) := Lib.hid (by rw [HV.out, List.take_of_length_le (by rw [HLN.out]; exact Nat.le_refl _)])
        obtain ⟨a, ha⟩ : ∃ a, a = sumQ (ll.take i) := ⟨_, rfl⟩
        rw [← ha] at HV2 ⊢
        have hcd := cdiv_yes a (i : Int) wr hNp
        have hlt2 : ¬ ((i : Int) < (i : Int)) := by omega
        clear ha HV
        go_wp2_with fail
        refine hcd.mono ?_
        rintro e w3 ⟨rfl, hb3⟩
        have hbf := below_new (below_new hb1 hbr) hb3
        clear hcd hbr hb3
        go_wp2
        go_ret2
        rw [HV2.out]
        exact ⟨rfl, hbf⟩
/-- A workload's view. -/
abbrev vwV (A : Option Addr) (n c : Nat) (k sz : Int) : Value := .agg #[.slice A n c, .int .i64 k, .int .i64 sz]
set_option maxRecDepth 100000 in
set_option maxHeartbeats 4000000 in
theorem vmean_any (T : Nat → Prop) (A : Option Addr) (n c : Nat) (l : List EvV) (k nd sz : Int) (w : World) (hn : l.length = n) (hr : ERds w T A l) (hl : n ≤ 900000) (hm : ∀ e ∈ l, e.M.length ≤ 1000000) :
    Calls Try.prog 27 #[vwV A n c k sz, .int .i64 nd] w fun e w' => e = .returned (meanV (meanQ (newQ k nd sz l))) ∧ Below w.heap.size w w' := by
  obtain ⟨w0, hw0⟩ : ∃ W, w.alloc (.cells #[.slice A n c, .int .i64 k, .int .i64 sz] 68) = W := ⟨_, rfl⟩
  have hb0 : Below w.heap.size w w0 := by rw [← hw0]; exact b_alloc _ _
  have hB := Blo.made w 68 #[.slice A n c, .int .i64 k, .int .i64 sz]
  have b0 := hB.cell 0
  have b1 := hB.cell 1
  have b2 := hB.cell 2
  simp at b0 b1 b2
  have HC := Lib.hid (pmean_any T A n c l k nd sz w0 hn (hr.new hb0) hl hm)
  obtain ⟨y, hy⟩ : ∃ y, y = meanQ (newQ k nd sz l) := ⟨_, rfl⟩
  rw [← hy] at HC ⊢
  obtain ⟨x, ok⟩ := y
  unfold meanV at HC ⊢
  have HW := Lib.hid hw0
  clear hw0 hB hy hn hr hm
  go_enter Try.func27, Try.ntmps27
  go_wp2_with fail
  rw [HW.out]
  refine HC.out.mono ?_
  rintro e w1 ⟨rfl, hb1⟩
  have hb01 := below_new hb0 hb1
  clear b0 b1 b2 hb0 hb1
  go_wp2
  go_ret2
  exact ⟨rfl, hb01⟩
set_option maxRecDepth 100000 in
set_option maxHeartbeats 4000000 in
theorem together_any (T : Nat → Prop) (A : Option Addr) (n c : Nat) (l : List EvV) (k sz : Int) (w : World) (hn : l.length = n) (hr : ERds w T A l) (hl : n ≤ 900000) (hm : ∀ e ∈ l, e.M.length ≤ 1000000) :
    Calls Try.prog 26 #[.func (.func 27) #[vwV A n c k sz] #[]] w fun e w' => e = .returned (.tuple #[.int .i64 (ldQ l k sz 8).1, .int .i64 (ldQ l k sz 8).2]) ∧ Below w.heap.size w w' := by
  have HMN : Hid (∀ (j : Nat) W, Below w.heap.size w W → Calls Try.prog 27 #[vwV A n c k sz, .int .i64 (j : Int)] W fun e w' => e = .returned (meanV (meanQ (newQ k j sz l))) ∧ Below W.heap.size W w') := Lib.hid (fun j W hb => vmean_any T A n c l k j sz W hn (hr.new hb) hl hm)
  have HCN := Lib.hid (ldQ_cnt l k sz)
  clear hn hr hm
  go_enter Try.func26, Try.ntmps26
  go_wp2_with fail
  go_loopw [2, 3, 7] (fun av bv iv wr => ∃ j : Nat, iv = .int .i64 j ∧ j ≤ 8 ∧ av = .int .i64 (ldQ l k sz j).1 ∧ bv = .int .i64 (ldQ l k sz j).2 ∧ Below w.heap.size w wr) (fun _ _ iv _ => 8 - (intOf iv).toNat)
  case atStart => exact ⟨0, rfl, by omega, rfl, rfl, Below.refl _ _⟩
  case round =>
    obtain ⟨j, rfl, hj, rfl, rfl, hb⟩ := hrel
    have hcn := HCN.out j
    obtain ⟨p, hp⟩ : ∃ p, p = ldQ l k sz j := ⟨_, rfl⟩
    rw [← hp] at hcn ⊢
    obtain ⟨a, b⟩ := p
    simp only at hcn ⊢
    by_cases hlt : j < 8
    · have hjN : (j : Int) < 8 := by omega
      have hmn := HMN.out j wr hb
      obtain ⟨y, hy⟩ : ∃ y, y = meanQ (newQ k j sz l) := ⟨_, rfl⟩
      rw [← hy] at hmn
      obtain ⟨x, ok⟩ := y
      have HP := Lib.hid hp
      have HY := Lib.hid hy
      clear hp hy
      cases ok with
      | true =>
        have HS : Hid (ldQ l k sz (j + 1) = (S.add a x, b + 1)) := Lib.hid (by rw [ldQ_yes HY.out.symm, ← HP.out])
        clear HP HY
        go_wp2_with fail
        refine hmn.mono ?_
        rintro e w1 ⟨rfl, hb1⟩
        have hb01 := below_new hb hb1
        unfold meanV
        clear hmn hb hb1
        have had := add_any a x w1
        go_wp2_with fail
        refine had.mono ?_
        rintro e w2 ⟨rfl, hb2⟩
        have hb02 := below_new hb01 hb2
        clear had hb01 hb2
        have eb : IntKind.i64.wrap (b + 1) = b + 1 := IntWalk.i64_in _ (by omega)
        go_wp2
        go_roundw
        case rel => exact ⟨j + 1, by go_num, by omega, by rw [HS.out], by rw [HS.out], hb02⟩
        case measure => simp [intOf]; omega
      | false =>
        have HS : Hid (ldQ l k sz (j + 1) = (a, b)) := Lib.hid (by rw [ldQ_no HY.out.symm, ← HP.out])
        clear HP HY
        go_wp2_with fail
        refine hmn.mono ?_
        rintro e w1 ⟨rfl, hb1⟩
        have hb01 := below_new hb hb1
        unfold meanV
        clear hmn hb hb1
        go_wp2
        go_roundw
        case rel => exact ⟨j + 1, by go_num, by omega, by rw [HS.out], by rw [HS.out], hb01⟩
        case measure => simp [intOf]; omega
    · obtain rfl : j = 8 := by omega
      have HV2 : Hid (ldQ l k sz 8 = (a, b)) := Lib.hid hp.symm
      clear hp HCN hcn hlt
      go_wp2
      go_ret2
      rw [HV2.out]
      exact ⟨rfl, hb⟩
set_option maxRecDepth 100000 in
set_option maxHeartbeats 4000000 in
theorem pload_any (T : Nat → Prop) (A : Option Addr) (n c : Nat) (l : List EvV) (k sz : Int) (w : World) (hn : l.length = n) (hr : ERds w T A l) (hl : n ≤ 900000) (hm : ∀ e ∈ l, e.M.length ≤ 1000000) :
    Calls Try.prog 15 #[.slice A n c, .int .i64 k, .int .i64 sz] w fun e w' => e = .returned (loadV (loadQ l k sz)) ∧ Below w.heap.size w w' := by
  have HTG := Lib.hid (together_any T A n c l k sz w hn hr hl hm)
  clear hn hr hm
  by_cases h1 : sz < 1
  · have HV : Hid (loadV (loadQ l k sz) = .tuple #[.int .i64 0, .int .i64 0, .int .i64 2]) := Lib.hid (by unfold loadQ; rw [if_pos (.inl h1)]; rfl)
    go_enter Try.func15, Try.ntmps15
    go_wp2
    refine bodyPost_ret (v := .tuple #[.int .i64 0, .int .i64 0, .int .i64 2]) ?_ rfl ?_
    · simp [results, Try.results15, go_sem]
    · rw [HV.out]
      exact ⟨rfl, Below.refl _ _⟩
  · by_cases h2 : 16 < sz
    · have HV : Hid (loadV (loadQ l k sz) = .tuple #[.int .i64 0, .int .i64 0, .int .i64 2]) := Lib.hid (by unfold loadQ; rw [if_pos (.inr h2)]; rfl)
      go_enter Try.func15, Try.ntmps15
      go_wp2
      refine bodyPost_ret (v := .tuple #[.int .i64 0, .int .i64 0, .int .i64 2]) ?_ rfl ?_
      · simp [results, Try.results15, go_sem]
      · rw [HV.out]
        exact ⟨rfl, Below.refl _ _⟩
    · have HV : Hid (loadV (loadQ l k sz) = .tuple #[.int .i64 (ldQ l k sz 8).1, .int .i64 (ldQ l k sz 8).2, .int .i64 0]) := Lib.hid (by unfold loadQ; rw [if_neg (by omega)]; rfl)
      obtain ⟨p, hp⟩ : ∃ p, p = ldQ l k sz 8 := ⟨_, rfl⟩
      rw [← hp] at HV HTG
      obtain ⟨a, b⟩ := p
      simp only at HV HTG
      clear hp
      go_enter Try.func15, Try.ntmps15
      go_wp2_with fail
      refine HTG.out.mono ?_
      rintro e w1 ⟨rfl, hb⟩
      clear HTG
      go_wp2
      refine bodyPost_ret (v := .tuple #[.int .i64 a, .int .i64 b, .int .i64 0]) ?_ rfl ?_
      · simp [results, Try.results15, go_sem]
      · rw [HV.out]
        exact ⟨rfl, hb⟩
end Go.Proofs.Ytodlifbhpgphcaa
