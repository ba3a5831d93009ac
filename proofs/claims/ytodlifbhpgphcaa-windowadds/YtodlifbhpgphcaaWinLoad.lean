/- Layer 10, the document's own: Load. -/
import Derived.Test.YtodlifbhpgphcaaWinMean
namespace Go.Proofs.Ytodlifbhpgphcaa
set_option linter.unusedVariables false
set_option linter.unusedSimpArgs false
open Go.ChangeShapes Go.WideShapes Go.ChangeAt Go.RowKit

set_option maxRecDepth 100000 in
set_option maxHeartbeats 4000000 in
theorem rload_any (T : Nat → Prop) (A : Option Addr) (n c : Nat) (l : List EvV) (k sz : Int) (w : World) (hn : l.length = n) (hr : ERds w T A l) (hl : n ≤ 900000) (hm : ∀ e ∈ l, e.M.length ≤ 1000000) :
    Calls Try.prog 16 #[.slice A n c, .int .i64 k, .int .i64 sz] w fun e w' => e = .returned (loadV (loadQ l k sz)) ∧ Below w.heap.size w w' := by
  have HMN : Hid (∀ (j : Nat) W, Below w.heap.size w W → Calls Try.prog 14 #[.slice A n c, .int .i64 k, .int .i64 (j : Int), .int .i64 sz] W fun e w' => e = .returned (meanV (meanQ (newQ k j sz l))) ∧ Below W.heap.size W w') := Lib.hid (fun j W hb => rmean_any T A n c l k j sz W hn (hr.new hb) hl hm)
  clear hn hr hm
  by_cases h1 : sz < 1
  · have HV : Hid (loadV (loadQ l k sz) = .tuple #[.int .i64 0, .int .i64 0, .int .i64 2]) := Lib.hid (by unfold loadQ; rw [if_pos (.inl h1)]; rfl)
    go_enter Try.func16, Try.ntmps16
    go_wp2
    refine bodyPost_ret (v := .tuple #[.int .i64 0, .int .i64 0, .int .i64 2]) ?_ rfl ?_
    · simp [results, Try.results16, go_sem]
    · rw [HV.out]
      exact ⟨rfl, Below.refl _ _⟩
  · by_cases h2 : 16 < sz
    · have HV : Hid (loadV (loadQ l k sz) = .tuple #[.int .i64 0, .int .i64 0, .int .i64 2]) := Lib.hid (by unfold loadQ; rw [if_pos (.inr h2)]; rfl)
      go_enter Try.func16, Try.ntmps16
      go_wp2
      refine bodyPost_ret (v := .tuple #[.int .i64 0, .int .i64 0, .int .i64 2]) ?_ rfl ?_
      · simp [results, Try.results16, go_sem]
      · rw [HV.out]
        exact ⟨rfl, Below.refl _ _⟩
    · have HV : Hid (loadV (loadQ l k sz) = .tuple #[.int .i64 (ldQ l k sz 8).1, .int .i64 (ldQ l k sz 8).2, .int .i64 0]) := Lib.hid (by unfold loadQ; rw [if_neg (by omega)]; rfl)
      have HCN := Lib.hid (ldQ_cnt l k sz)
      go_enter Try.func16, Try.ntmps16
      go_wp2_with fail
      go_loopw [9, 10, 11] (fun av bv iv wr => ∃ j : Nat, iv = .int .i64 j ∧ j ≤ 8 ∧ av = .int .i64 (ldQ l k sz j).1 ∧ bv = .int .i64 (ldQ l k sz j).2 ∧ Below w.heap.size w wr) (fun _ _ iv _ => 8 - (intOf iv).toNat)
      case atStart => exact ⟨0, rfl, by omega, rfl, rfl, Below.refl _ _⟩
      case round =>
        obtain ⟨j, rfl, hj, rfl, rfl, hb⟩ := hrel
        have hcn := HCN.out j
        obtain ⟨p, hp⟩ : ∃ p, p = ldQ l k sz j := ⟨_, rfl⟩
        rw [← hp] at hcn ⊢
        obtain ⟨a, b⟩ := p
        simp only at hcn ⊢
        by_cases hlt : j < 8
        · have hjN : (j : Int) < 8 := by omega
          have hmn := HMN.out j wr hb
          obtain ⟨y, hy⟩ : ∃ y, y = meanQ (newQ k j sz l) := ⟨_, rfl⟩
          rw [← hy] at hmn
          obtain ⟨x, ok⟩ := y
          have HP := Lib.hid hp
          have HY := Lib.hid hy
          clear hp hy
          cases ok with
          | true =>
            have HS : Hid (ldQ l k sz (j + 1) = (S.add a x, b + 1)) := Lib.hid (by rw [ldQ_yes HY.out.symm, ← HP.out])
            clear HP HY
            go_wp2_with fail
            refine hmn.mono ?_
            rintro e w1 ⟨rfl, hb1⟩
            have hb01 := below_new hb hb1
            unfold meanV
            clear hmn hb hb1
            have had := radd_any a x w1
            go_wp2_with fail
            refine had.mono ?_
            rintro e w2 ⟨rfl, rfl⟩
            clear had
            have eb : IntKind.i64.wrap (b + 1) = b + 1 := IntWalk.i64_in _ (by omega)
            go_wp2
            go_roundw
            case rel => exact ⟨j + 1, by go_num, by omega, by rw [HS.out], by rw [HS.out], hb01⟩
            case measure => simp [intOf]; omega
          | false =>
            have HS : Hid (ldQ l k sz (j + 1) = (a, b)) := Lib.hid (by rw [ldQ_no HY.out.symm, ← HP.out])
            clear HP HY
            go_wp2_with fail
            refine hmn.mono ?_
            rintro e w1 ⟨rfl, hb1⟩
            have hb01 := below_new hb hb1
            unfold meanV
            clear hmn hb hb1
            go_wp2
            go_roundw
            case rel => exact ⟨j + 1, by go_num, by omega, by rw [HS.out], by rw [HS.out], hb01⟩
            case measure => simp [intOf]; omega
        · obtain rfl : j = 8 := by omega
          have HV2 : Hid (loadV (loadQ l k sz) = .tuple #[.int .i64 a, .int .i64 b, .int .i64 0]) := Lib.hid (by rw [HV.out, ← hp])
          clear hp HV HCN hcn hlt
          go_wp2
          refine bodyPost_ret (v := .tuple #[.int .i64 a, .int .i64 b, .int .i64 0]) ?_ rfl ?_
          · simp [results, Try.results16, go_sem]
          · rw [HV2.out]
            exact ⟨rfl, hb⟩
end Go.Proofs.Ytodlifbhpgphcaa
