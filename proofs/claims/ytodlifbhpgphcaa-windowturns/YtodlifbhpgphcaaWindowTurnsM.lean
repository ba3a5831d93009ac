/- What WindowTurns comes to. -/
import Derived.Test.YtodlifbhpgphcaaWinAlive
import Derived.Test.YtodlifbhpgphcaaWinArgs
import Derived.Test.YtodlifbhpgphcaaWinTurn
import Derived.Test.YtodlifbhpgphcaaWinTurX
import Derived.Test.YtodlifbhpgphcaaEvGreat
namespace Go.Proofs.Ytodlifbhpgphcaa
set_option linter.unusedVariables false
set_option linter.unusedSimpArgs false
open Go.ChangeShapes Go.WideShapes Go.ChangeAt Go.RowKit

theorem box4T {w w' : World} {t : TypeId} {a b c d : Value} (hb : Below (w.alloc (.cells #[a, b, c, d] t)).heap.size (w.alloc (.cells #[a, b, c, d] t)) w') :
    w'.cell? ⟨w.heap.size, 0, none⟩ = some a ∧ w'.cell? ⟨w.heap.size, 1, none⟩ = some b ∧ w'.cell? ⟨w.heap.size, 2, none⟩ = some c ∧ w'.cell? ⟨w.heap.size, 3, none⟩ = some d := by
  have h := (Blo.made w t #[a, b, c, d]).new hb
  exact ⟨h.cell 0, h.cell 1, h.cell 2, h.cell 3⟩
theorem plain_len2T {l m : List EvV} (h : plain m = plain l) : m.length = l.length := by rw [← plain_len, h, plain_len]
theorem plain_memT {l m : List EvV} (h : plain m = plain l) {Q : List D.Dot → Prop} (hl : ∀ e ∈ l, Q e.M) : ∀ e ∈ m, Q e.M := by
  intro e he
  have h1 : (e.F, e.M) ∈ plain m := List.mem_map.2 ⟨e, he, rfl⟩
  rw [h] at h1
  obtain ⟨e', he', h2⟩ := List.mem_map.1 h1
  injection h2 with h3 h4
  rw [← h4]; exact hl e' he'

set_option maxRecDepth 100000 in
set_option maxHeartbeats 16000000 in
theorem winturns_main (A : Option Addr) (n c : Nat) (l : List EvV) (k sz : Int) (tn : Nat) (w : World) (h0 : EvsIn w A n c l) (htn : tn < 256) :
    Calls Try.prog 4 #[.agg #[.slice A n c, .int .i64 k, .int .i64 sz, .int .u8 (tn : Int)]] w fun e w' => e = .returned (.bool true) ∧ Below w.heap.size w w' := by
  obtain ⟨hn, hnc, hcm, hr, hmeek⟩ := h0
  have HN := Lib.hid hn
  have HNC := Lib.hid hnc
  have HCM : Hid (c ≤ maxLen) := Lib.hid hcm
  have HR := Lib.hid hr
  have HME := Lib.hid hmeek
  clear hn hnc hcm hr hmeek
  have hB0 : Below w.heap.size w (w.alloc (.cells #[.slice A n c, .int .i64 k, .int .i64 sz, .int .u8 (tn : Int)] 39)) := (Below.refl _ _).alloc (Nat.le_refl _) _
  go_enter Try.func4, Try.ntmps4
  go_wp2_with fail
  refine (winalive_any _).mono ?_
  rintro e w1 ⟨rfl, hb⟩
  obtain ⟨c0, c1, c2, c3⟩ := box4T hb
  have hB := below_new hB0 hb
  clear hb hB0
  go_wp2_with fail
  go_quiet (fail)
  obtain ⟨w2, hd, hW⟩ : ∃ W, Drew w1 W ∧ w1.drewN nq = W := ⟨_, ⟨nq, rfl⟩, rfl⟩
  rw [hW]
  have hb02 := hB.trans (hd.below _)
  have HGR := Lib.hid (great_any (· < w.heap.size) A n c l w2 HN.out (HR.out.new hb02) (Nat.le_trans HNC.out HCM.out))
  clear hW hd hB c0 c1 c2 c3
  go_wp2_with fail
  refine HGR.out.mono ?_
  rintro e w3 ⟨b, rfl, hb3, hbk⟩
  have hb03 := below_new hb02 hb3
  clear hb02 hb3 HGR
  cases b with
  | true =>
    clear hbk
    go_wp2
    go_ret
    exact ⟨rfl, hb03⟩
  | false =>
    have HBK : Hid (bulk l ≤ 3000) := Lib.hid (hbk rfl HME.out)
    clear hbk
    by_cases h60 : 60 < n
    · have h60' : (60 : Int) < (n : Int) := by omega
      go_wp2
      go_ret
      exact ⟨rfl, hb03⟩
    · have h60' : ¬ (60 : Int) < (n : Int) := by omega
      have HEM : Hid (∀ e ∈ l, e.M.length ≤ 1000000) := Lib.hid (fun e he => by have := bulk_mem he; have := HBK.out; omega)
      by_cases hz0 : n = 0
      · subst hz0
        have hz1 : (((0 : Nat) : Int) == 0) = true := by simp
        go_wp2
        go_ret
        exact ⟨rfl, hb03⟩
      have hz1 : ((n : Int) == 0) = false := by simp; omega
      have hz2 : ¬ (n : Int) = 0 := by omega
      go_wp2_with fail
      clear h60'
      go_loopw [45] (fun iv wr => ∃ i : Nat, iv = .int .i64 i ∧ i ≤ n ∧ Hid (∀ p q (hp : p < l.length) (hq : q < l.length), p < i → q < p → ¬ (l[p].F 0 = l[q].F 0 ∧ l[p].F 1 = l[q].F 1)) ∧ Below w.heap.size w wr) (fun iv _ => n - (intOf iv).toNat)
      case atStart => exact ⟨0, rfl, by omega, Lib.hid (fun p q _ _ h => by omega), hb03⟩
      case round =>
        clear hb03
        obtain ⟨i, rfl, hi, HD, hb⟩ := hrel
        by_cases hlt : i < n
        · have hlt' : i < l.length := by rw [HN.out]; exact hlt
          have hiN : (i : Int) < (n : Int) := by omega
          have kc := run_eto A n c i (by have := HNC.out; omega)
          go_wp2_with fail
          clear kc
          go_loopw [52] (fun jv wr => ∃ j : Nat, jv = .int .i64 j ∧ j ≤ i ∧ Hid (∀ q (hq : q < l.length), q < j → ¬ (l[i].F 0 = l[q].F 0 ∧ l[i].F 1 = l[q].F 1)) ∧ Below w.heap.size w wr) (fun jv _ => i - (intOf jv).toNat)
          case atStart => exact ⟨0, rfl, by omega, Lib.hid (fun q _ h => by omega), hb⟩
          case round =>
            clear hb
            obtain ⟨j, rfl, hj, HE, hb⟩ := hrel
            by_cases hji : j < i
            · have hji' : (j : Int) < (i : Int) := by omega
              have hjN : (j : Int) < (n : Int) := by omega
              have hjl : j < l.length := by omega
              obtain ⟨ad, rfl, _, _, a0, a1, _⟩ := (HR.out.below hb (fun b hb _ => hb)).cells hlt'
              obtain ⟨ad', e, _, _, b0, b1, _⟩ := (HR.out.below hb (fun b hb _ => hb)).cells hjl
              injection e with e
              subst e
              obtain ⟨x0, hx0⟩ : ∃ x, x = l[i].F 0 := ⟨_, rfl⟩
              obtain ⟨x1, hx1⟩ : ∃ x, x = l[i].F 1 := ⟨_, rfl⟩
              obtain ⟨y0, hy0⟩ : ∃ x, x = l[j].F 0 := ⟨_, rfl⟩
              obtain ⟨y1, hy1⟩ : ∃ x, x = l[j].F 1 := ⟨_, rfl⟩
              rw [← hx0] at a0
              rw [← hx1] at a1
              rw [← hy0] at b0
              rw [← hy1] at b1
              have HXY : Hid (x0 = l[i].F 0 ∧ x1 = l[i].F 1 ∧ y0 = l[j].F 0 ∧ y1 = l[j].F 1) := Lib.hid ⟨hx0, hx1, hy0, hy1⟩
              have q1 := fun W => eql_dot x0 x1 y0 y1 W
              clear hx0 hx1 hy0 hy1
              go_wp2_with fail
              go_quiet (fail)
              obtain ⟨w3, hd, hw3⟩ : ∃ W, Drew wr W ∧ wr.drewN nq = W := ⟨_, ⟨nq, rfl⟩, rfl⟩
              rw [hw3]
              have hb3 : Below w.heap.size w w3 := hb.trans (hd.below _)
              clear hw3 hd hb a0 a1 b0 b1 q1 nq
              cases hxy : (x0 == y0 && x1 == y1) with
              | true =>
                go_wp2
                go_ret
                exact ⟨rfl, hb3⟩
              | false =>
                have HE2 : Hid (∀ q (hq : q < l.length), q < j + 1 → ¬ (l[i].F 0 = l[q].F 0 ∧ l[i].F 1 = l[q].F 1)) := Lib.hid (fun q hq hqj => by
                  rcases Nat.lt_or_ge q j with h | h
                  · exact HE.out q hq h
                  · have : q = j := by omega
                    subst this
                    rw [← HXY.out.1, ← HXY.out.2.1, ← HXY.out.2.2.1, ← HXY.out.2.2.2]
                    simpa using hxy)
                clear hxy
                go_wp2
                go_roundw
                case rel => exact ⟨j + 1, by go_num, by omega, HE2, hb3⟩
                case measure => simp [intOf]; omega
            · have hji' : ¬ (j : Int) < (i : Int) := by omega
              have HD2 : Hid (∀ p q (hp : p < l.length) (hq : q < l.length), p < i + 1 → q < p → ¬ (l[p].F 0 = l[q].F 0 ∧ l[p].F 1 = l[q].F 1)) := Lib.hid (fun p q hp hq h1 h2 => by
                rcases Nat.lt_or_ge p i with h | h
                · exact HD.out p q hp hq h h2
                · have : p = i := by omega
                  subst this
                  exact HE.out q hq (by omega))
              go_wp2
              go_roundw
              case rel => exact ⟨i + 1, by go_num, by omega, HD2, hb⟩
              case measure => simp [intOf]; omega
        · have HDI : Hid (Dist l) := Lib.hid (fun p q hp hq h => HD.out p q hp hq (by have := HN.out; omega) h)
          have hiN : ¬ (i : Int) < (n : Int) := by omega
          clear HD
          have hpw := pload_any (· < w.heap.size) A n c l k sz wr HN.out (HR.out.below hb (fun b hb _ => hb)) (by omega) HEM.out
          obtain ⟨y, hy⟩ : ∃ y, y = loadQ l k sz := ⟨_, rfl⟩
          rw [← hy] at hpw
          have HY := Lib.hid hy
          clear hy
          obtain ⟨ld, kk, ee⟩ := y
          unfold loadV at hpw
          have HPW := Lib.hid hpw
          clear hpw
          go_wp2_with fail
          refine HPW.out.mono ?_
          rintro e w4 ⟨rfl, hb4⟩
          have hb04 := below_new hb hb4
          clear HPW hb hb4
          obtain ⟨j, hj⟩ : ∃ j : Nat, j = tn % n := ⟨_, rfl⟩
          have hjn : j < n := by rw [hj]; exact Nat.mod_lt _ (by omega)
          have et : IntKind.i64.wrap (tn : Int) = (tn : Int) := IntWalk.i64_in _ (by omega)
          have em : (tn : Int) % (n : Int) = (j : Int) := by rw [hj]; simp
          have ej : IntKind.i64.wrap (j : Int) = (j : Int) := IntWalk.i64_in _ (by omega)
          clear hj
          obtain ⟨w8, hw8⟩ : ∃ W, W = w4 := ⟨_, rfl⟩
          rw [← hw8] at hb04 ⊢
          obtain ⟨hi', hhi⟩ : ∃ x, x = l.drop j := ⟨_, rfl⟩
          obtain ⟨lo, hlo⟩ : ∃ x, x = l.take j := ⟨_, rfl⟩
          have kf := fun W => run_at (run_efrom A n c j (by omega) W)
          have kt := fun W => run_at (run_eto A n c j (by have := HNC.out; omega) W)
          obtain ⟨Ah, hAh⟩ : ∃ x, x = (if c = j then A else A.map (·.add (j * 14))) := ⟨_, rfl⟩
          have HRL : Hid (∀ W, Below w8.heap.size w8 W → ERds W (· < w.heap.size) A lo) := Lib.hid (fun W h => by rw [hlo]; exact (HR.out.below (below_new hb04 h) (fun b hb _ => hb)).take j)
          have HRH : ∀ W, Below w8.heap.size w8 W → ERds W (· < w.heap.size) Ah hi' := fun W h => by
            rw [hhi, hAh]
            exact (HR.out.below (below_new hb04 h) (fun b hb _ => hb)).from (by have := HN.out; have := HNC.out; omega)
          have HLO : Hid (lo.length = j) := Lib.hid (by rw [hlo]; simp; have := HN.out; omega)
          have HHI : Hid (hi'.length = n - j) := Lib.hid (by rw [hhi]; simp; have := HN.out; omega)
          have HCP : Hid (∀ W, Below w8.heap.size w8 W → Calls Try.prog 9 #[.slice Ah (n - j) (c - j)] W (EvsPost (plain hi') W)) := Lib.hid (fun W h => ecopies_any (· < w.heap.size) Ah (n - j) (c - j) hi' W HHI.out (HRH W h) (by omega) (fun e he => HEM.out e (by rw [hhi] at he; exact List.mem_of_mem_drop he)))
          have HBS : Hid (∀ b, b < w.heap.size → b < w8.heap.size) := Lib.hid (fun b hb => by have := hb04.size; omega)
          have HHL : Hid (hi'.length + lo.length ≤ 1000000) := Lib.hid (by rw [HHI.out, HLO.out]; omega)
          have HLN : Hid (hi'.length + lo.length ≤ 900000) := Lib.hid (by rw [HHI.out, HLO.out]; omega)
          have HV9 : Hid (∀ m2, plain m2 = plain (hi' ++ lo) → loadQ m2 k sz = (ld, kk, ee) ∧ ∀ e ∈ m2, e.M.length ≤ 1000000) := Lib.hid (fun m2 hm2 => by
            rw [hhi, hlo] at hm2
            refine ⟨by rw [loadQ_turn HDI.out k sz hm2, ← HY.out], ?_⟩
            refine plain_memT (Q := fun M => M.length ≤ 1000000) hm2 (fun e he => HEM.out e ?_)
            rcases List.mem_append.1 he with h | h
            · exact List.mem_of_mem_drop h
            · exact List.mem_of_mem_take h)
          rw [← hAh] at kf
          have KF := Lib.hid kf
          have KT := Lib.hid kt
          have HX0 : Hid (∀ f, TurX w8 w8.heap.size hi' lo (fun _ => false) f w8) := Lib.hid (fun f => ⟨Below.refl _ _, fun e => (by cases e), fun e => (by cases e)⟩)
          clear kf kt hAh hhi hlo HRH hw8
          go_wp2_with fail
          refine wp_famY (size := 141) (D := [82, 83, 84, 85, 86, 87, 88, 89, 90, 91, 92, 81, 93, 94, 95, 13, 14, 15]) [3, 7, 10] [85, 89] [(82, isV (.slice A n c)), (83, isV (.int .i64 (j : Int))), (84, isV (.slice Ah (n - j) (c - j))), (86, isV (.slice A n c)), (87, isV (.int .i64 (j : Int))), (88, isV (.slice A j c)), (90, isV (.int .i64 k)), (91, isV (.int .i64 sz)), (92, isV (.tuple #[.int .i64 ld, .int .i64 kk, .int .i64 ee])), (81, isV (.tuple #[.int .i64 ld, .int .i64 kk, .int .i64 ee])), (93, isV (.int .i64 ld)), (94, isV (.int .i64 kk)), (95, isV (.int .i64 ee)), (13, isV (.int .i64 ld)), (14, isV (.int .i64 kk)), (15, isV (.int .i64 ee))] (TurX w8 w8.heap.size hi' lo) (TurX.up (Nat.le_refl _)) (by kernel_rfl) (by rfl) (by kernel_rfl) (HX0.out _) ?_ ?_
          · simp only [famAllY]
            repeat' apply And.intro
            · rw [if_neg (by decide)]
              intro f W hl
              simp [Oper.looksAt, Op.operands, Call.operands, famAt, famOf, isV] at hl
              simp [famWants, boolIs_bool, boolIs_undef, execOp, rho, go_sem, hl, famUpon, famOf, isV, Grows.refl]
            · rw [if_neg (by decide)]
              intro f W hl
              simp [Oper.looksAt, Op.operands, Call.operands, famAt, famOf, isV] at hl
              simp [famWants, boolIs_bool, boolIs_undef, execOp, rho, go_sem, hl, em, famUpon, famOf, isV, Grows.refl]
            · rw [if_neg (by decide)]
              intro f W hl
              simp [Oper.looksAt, Op.operands, Call.operands, famAt, famOf, isV] at hl
              refine ⟨fun _ => ?_, fun e => ?_⟩
              · unfold execOp
                simp only [rho, hl, Option.map_some, Option.map_none]
                simp only [Sem.run_bind, Sem.run_pure, KF.out W, Result.andThen_ok, famUpon]
                exact ⟨Grows.refl _, fun d e => by injection e with e; subst e; simp [famOf, isV]⟩
              · simp [famWants] at e
            · rw [if_pos (by decide)]
              intro L f W hi0 hcl hwt hX hl
              simp [Oper.looksAt, Op.operands, Call.operands, famAt, famOf, isV] at hl
              have h7 : L 7 = false := by
                cases e : L 7 with
                | false => rfl
                | true => rw [hcl 7 3 (by kernel_rfl) e] at hi0; cases hi0
              have hc := HCP.out W hX.1
              simp [famWants, boolIs_bool, boolIs_undef, execOp, rho, go_sem, hl, famUpon, famOf, isV]
              refine hc.mono ?_
              rintro e w'' ⟨A', c', m, rfl, hp, hO, hg'⟩
              exact ⟨_, rfl, hX.cop (Nat.le_refl _) hi0 h7 (by rw [← hp, plain_len]) hp hO hg'⟩
            · rw [if_neg (by decide)]
              intro f W hl
              simp [Oper.looksAt, Op.operands, Call.operands, famAt, famOf, isV] at hl
              simp [famWants, boolIs_bool, boolIs_undef, execOp, rho, go_sem, hl, famUpon, famOf, isV, Grows.refl]
            · rw [if_neg (by decide)]
              intro f W hl
              simp [Oper.looksAt, Op.operands, Call.operands, famAt, famOf, isV] at hl
              simp [famWants, boolIs_bool, boolIs_undef, execOp, rho, go_sem, hl, em, famUpon, famOf, isV, Grows.refl]
            · rw [if_neg (by decide)]
              intro f W hl
              simp [Oper.looksAt, Op.operands, Call.operands, famAt, famOf, isV] at hl
              refine ⟨fun _ => ?_, fun e => ?_⟩
              · unfold execOp
                simp only [rho, hl, Option.map_some, Option.map_none]
                simp only [Sem.run_bind, Sem.run_pure, KT.out W, Result.andThen_ok, famUpon]
                exact ⟨Grows.refl _, fun d e => by injection e with e; subst e; simp [famOf, isV]⟩
              · simp [famWants] at e
            · rw [if_pos (by decide)]
              intro L f W hi0 hcl hwt hX hl
              simp [Oper.looksAt, Op.operands, Call.operands, famAt, famOf, isV] at hl
              have h9 : L 10 = false := by
                cases e : L 10 with
                | false => rfl
                | true => rw [hcl 10 7 (by kernel_rfl) e] at hi0; cases hi0
              have h3 : L 3 = true := hwt 3 (by kernel_rfl)
              obtain ⟨A', N', c', e85, A2, N2, c2, W', hrun, hX'⟩ := hX.app (Nat.le_refl _) h3 hi0 h9 (S := (· < w.heap.size)) (A := A) (m0 := j) (c := c) HLO.out (HRL.out W hX.1) HBS.out HHL.out
              refine ⟨fun _ => ?_, fun hh => ?_⟩
              · simp only [execOp, resolve, invoke, builtin, rho, Sem.run_bind, Sem.run_pure, Result.andThen_ok, List.map_toArray, List.map_cons, List.map_nil, hl, e85, hrun, famUpon]
                exact ⟨fun d hd => by cases hd; exact trivial, hX'⟩
              · simp [famWants] at hh
            · rw [if_neg (by decide)]
              intro f W hl
              simp [Oper.looksAt, Op.operands, Call.operands, famAt, famOf, isV] at hl
              simp [famWants, boolIs_bool, boolIs_undef, execOp, rho, go_sem, hl, famUpon, famOf, isV, Grows.refl]
            · rw [if_neg (by decide)]
              intro f W hl
              simp [Oper.looksAt, Op.operands, Call.operands, famAt, famOf, isV] at hl
              simp [famWants, boolIs_bool, boolIs_undef, execOp, rho, go_sem, hl, famUpon, famOf, isV, Grows.refl]
            · rw [if_pos (by decide)]
              intro L f W hi0 hcl hwt hX hl
              simp [Oper.looksAt, Op.operands, Call.operands, famAt, famOf, isV] at hl
              have h7 : L 7 = true := hwt 7 (by kernel_rfl)
              obtain ⟨A2, N2, c2, m2, e89, hN2, hER, hpl⟩ := hX.2.2 h7 hi0
              have hc := pload_any (fun _ => True) A2 N2 c2 m2 k sz W hN2.symm hER (by rw [hN2, ← plain_len m2, hpl, plain_len, List.length_append]; have := HHL.out; have := HLN.out; omega) (HV9.out m2 hpl).2
              rw [(HV9.out m2 hpl).1] at hc
              unfold loadV at hc
              simp [famWants, boolIs_bool, boolIs_undef, execOp, rho, go_sem, hl, e89, famUpon, famOf, isV]
              refine hc.mono ?_
              rintro e w'' ⟨rfl, hg'⟩
              exact ⟨_, rfl, rfl, hX.win (Nat.le_refl _) h7 hg'⟩
            · rw [if_neg (by decide)]
              intro f W hl
              simp [Oper.looksAt, Op.operands, Call.operands, famAt, famOf, isV] at hl
              simp [famWants, boolIs_bool, boolIs_undef, execOp, rho, go_sem, hl, famUpon, famOf, isV, Grows.refl]
            · rw [if_neg (by decide)]
              intro f W hl
              simp [Oper.looksAt, Op.operands, Call.operands, famAt, famOf, isV] at hl
              simp [famWants, boolIs_bool, boolIs_undef, execOp, rho, go_sem, hl, famUpon, famOf, isV, Grows.refl]
            · rw [if_neg (by decide)]
              intro f W hl
              simp [Oper.looksAt, Op.operands, Call.operands, famAt, famOf, isV] at hl
              simp [famWants, boolIs_bool, boolIs_undef, execOp, rho, go_sem, hl, famUpon, famOf, isV, Grows.refl]
            · rw [if_neg (by decide)]
              intro f W hl
              simp [Oper.looksAt, Op.operands, Call.operands, famAt, famOf, isV] at hl
              simp [famWants, boolIs_bool, boolIs_undef, execOp, rho, go_sem, hl, famUpon, famOf, isV, Grows.refl]
            · rw [if_neg (by decide)]
              intro f W hl
              simp [Oper.looksAt, Op.operands, Call.operands, famAt, famOf, isV] at hl
              simp [famWants, boolIs_bool, boolIs_undef, execOp, rho, go_sem, hl, famUpon, famOf, isV, Grows.refl]
            · rw [if_neg (by decide)]
              intro f W hl
              simp [Oper.looksAt, Op.operands, Call.operands, famAt, famOf, isV] at hl
              simp [famWants, boolIs_bool, boolIs_undef, execOp, rho, go_sem, hl, famUpon, famOf, isV, Grows.refl]
            · rw [if_neg (by decide)]
              intro f W hl
              simp [Oper.looksAt, Op.operands, Call.operands, famAt, famOf, isV] at hl
              simp [famWants, boolIs_bool, boolIs_undef, execOp, rho, go_sem, hl, famUpon, famOf, isV, Grows.refl]
            · trivial
          · intro L u W hL hX hu
            obtain ⟨hbW, _, _⟩ := hX
            have e13 : u 13 = .int .i64 ld := hu 13 (by decide)
            have e14 : u 14 = .int .i64 kk := hu 14 (by decide)
            have e15 : u 15 = .int .i64 ee := hu 15 (by decide)
            simp only [fill, Act.put, List.setIfInBounds_toArray, List.set_cons_zero, List.set_cons_succ, e13, e14, e15]
            refine wpList_nil ?_
            have hb05 := below_new hb04 hbW
            clear hL hu e13 e14 e15 hbW HX0 hb04 em et ej
            have hbz := hb05.size
            obtain ⟨w5, hw5⟩ : ∃ x, x = W := ⟨_, rfl⟩
            rw [← hw5] at hb05 hbz ⊢
            clear hw5
            go_wp2_with fail
            go_loopw [16, 109] (fun ov iv wr => ∃ (i : Nat) (Ao : Option Addr) (No co : Nat) (m : List EvV), iv = .int .i64 i ∧ i ≤ 8 ∧ ov = .slice Ao No co ∧ Hid (m.length = No ∧ plain m = plain (newAll l k sz i)) ∧ EOwn wr (fun _ => True) w5.heap.size (.slice Ao No co) m ∧ Below w5.heap.size w5 wr) (fun _ iv _ => 8 - (intOf iv).toNat)
            case atStart => exact ⟨0, none, 0, 0, [], rfl, by omega, rfl, Lib.hid ⟨rfl, rfl⟩, EOwn.nil _ _ _, Below.refl _ _⟩
            case round =>
              obtain ⟨i, Ao, No, co, m, rfl, hi8, rfl, HS, hO, hbr⟩ := hrel
              have hb0r := below_new hb05 hbr
              have HNO : Hid (No ≤ 480) := Lib.hid (by
                have h1 := newAll_len l k sz i
                have h2 : m.length = (newAll l k sz i).length := by rw [← plain_len, HS.out.2, plain_len]
                have h3 := HS.out.1
                have h4 := HN.out
                have h5 : i * l.length ≤ 8 * 60 := Nat.mul_le_mul hi8 (by omega)
                omega)
              by_cases hlt8 : i < 8
              · have hiN : (i : Int) < 8 := by omega
                have HOF := Lib.hid (pof_any (· < w.heap.size) A n c l k (i : Int) sz wr HN.out (HR.out.below hb0r (fun b hb _ => hb)) (by omega) HEM.out)
                go_wp2_with fail
                refine HOF.out.mono ?_
                rintro e w6 ⟨A2, N2, c2, m2, rfl, hN2, hp2, hR2, hb6⟩
                have hO6 := hO.new hb6
                have hL2 : N2 ≤ 60 := by
                  have h1 := newQ_len k i sz l
                  have h2 : m2.length = (newQ k i sz l).length := by rw [← plain_len, hp2, plain_len]
                  have h3 := HN.out
                  omega
                have hbs6 := below_new hbr hb6
                have hdt : ∀ e ∈ m2, Rds w6 (fun b => True ∧ some b ≠ (Value.slice Ao No co).ownBlock) e.A (dvs e.M) := fun e he => (hR2.2 e he).mono fun b hb => ⟨trivial, fun e' => by
                  have h1 := hO.row.lt b e'.symm
                  have h2 := hbz
                  rcases hb with h | h <;> omega⟩
                have hk6 : m.length + N2 ≤ 1000000 := by have := HNO.out; have := HS.out.1; omega
                have HS6 : Hid (plain (m ++ m2) = plain (newAll l k sz (i + 1))) := Lib.hid (by rw [plain_app, HS.out.2, hp2, newAll, plain_app])
                have HN2 := Lib.hid hN2
                have hrow := hO6.row
                have hs6 := hbs6.size
                clear hp2 hN2 HOF
                go_wp2_with (at_builtin; refine wpList_eapp' _ rfl _ _ rfl w5.heap.size (.slice Ao No co) m rfl hrow _ A2 N2 c2 m2 rfl HN2.out.symm hR2.1 hk6 hs6 ?_)
                intro v9 w9 hr9 hg9 hv9
                have hO9 := hO6.app hr9 hg9 hv9 hdt
                obtain ⟨A8, c8, rfl, _⟩ := hr9.form
                have hb9 := hbs6.grown hg9 hs6 (fun k hk => (hrow.lt k hk).1)
                obtain ⟨N9, hN9⟩ : ∃ N, N = (m ++ m2).length := ⟨_, rfl⟩
                rw [← hN9] at hO9 ⊢
                have HS9 : Hid ((m ++ m2).length = N9 ∧ plain (m ++ m2) = plain (newAll l k sz (i + 1))) := Lib.hid ⟨hN9.symm, HS6.out⟩
                clear hN9 hr9 hg9 hv9 hO6 hrow hdt hR2 HS6
                go_wp2
                go_roundw
                case rel => exact ⟨i + 1, A8, N9, c8, _, by go_num, by omega, rfl, HS9, hO9, hb9⟩
                case measure => simp [intOf]; omega
              · obtain rfl : i = 8 := by omega
                have hld := pload_any (fun _ => True) Ao No co m k sz wr HS.out.1 hO.erds (by have := HNO.out; omega) (plain_memT (Q := fun M => M.length ≤ 1000000) HS.out.2 (fun e he => HEM.out e (mem_newAll he)))
                rw [loadQ_newest k sz HS.out.2, ← HY.out] at hld
                unfold loadV at hld
                have HLD := Lib.hid hld
                clear hld hO HS
                go_wp2_with fail
                refine HLD.out.mono ?_
                rintro e w6 ⟨rfl, hb6⟩
                have hbf := below_new hb0r hb6
                clear HLD hb6
                go_wp2
                go_ret
                exact ⟨rfl, hbf⟩
end Go.Proofs.Ytodlifbhpgphcaa
