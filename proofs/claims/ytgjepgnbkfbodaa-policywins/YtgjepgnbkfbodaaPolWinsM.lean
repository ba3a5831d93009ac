/- What PolicyWins comes to. -/
import Derived.Test.YtgjepgnbkfbodaaPolMath4
import Derived.Test.YtgjepgnbkfbodaaPolSets
import Derived.Test.YtgjepgnbkfbodaaPolRot
import Derived.Test.YtgjepgnbkfbodaaPolAlive
import Derived.Test.YtgjepgnbkfbodaaEvGreat
import Derived.Test.YtgjepgnbkfbodaaEvCut
import Derived.Test.YtgjepgnbkfbodaaEvArgs2
namespace Go.Proofs.Ytgjepgnbkfbodaa
set_option linter.unusedVariables false
set_option linter.unusedSimpArgs false
open Go.ChangeShapes Go.WideShapes Go.ChangeAt Go.RowKit

theorem pol_cells {w : World} {g : Nat} (F : Nat → Int) (h : Blo w g 31 (pcs F)) : w.cell? ⟨g, 0, none⟩ = some (.int .i64 (F 6)) ∧ w.cell? ⟨g, 1, none⟩ = some (.int .i64 (F 7)) ∧ w.cell? ⟨g, 2, none⟩ = some (.int .i64 (F 8)) ∧ w.cell? ⟨g, 3, none⟩ = some (.int .i64 (F 9)) ∧ w.cell? ⟨g, 4, none⟩ = some (.int .i64 (F 10)) ∧ w.cell? ⟨g, 5, none⟩ = some (.int .i64 (F 11)) ∧ w.cell? ⟨g, 6, none⟩ = some (.int .i64 (F 12)) :=
  ⟨by simpa using h.cell 0, by simpa using h.cell 1, by simpa using h.cell 2, by simpa using h.cell 3, by simpa using h.cell 4, by simpa using h.cell 5, by simpa using h.cell 6⟩
theorem sets_step {k : Int} {l : List EvV} {i : Nat} (h : i < l.length) : (sets k (l.take (i + 1))).length = (sets k (l.take i)).length + (if l[i].F 3 = 2 ∧ l[i].F 4 = k then 1 else 0) := by
  rw [sets_take h, List.length_append]
  by_cases hs : isSet k l[i] = true
  · rw [if_pos hs, if_pos (by simpa [isSet] using hs)]; rfl
  · rw [if_neg hs, if_neg (by simpa [isSet] using hs)]; rfl

set_option maxRecDepth 100000 in
set_option maxHeartbeats 16000000 in
theorem polwins_main (A : Option Addr) (n c : Nat) (l : List EvV) (k : Int) (tn : Nat) (w : World) (h0 : EvsIn w A n c l) (htn : tn < 256) :
    Calls Try.prog 5 #[.slice A n c, .int .i64 k, .int .u8 (tn : Int)] w fun e w' => e = .returned (.bool true) ∧ Below w.heap.size w w' := by
  obtain ⟨hn, hnc, hcm, hr, hmeek⟩ := h0
  have HN := Lib.hid hn
  have HNC := Lib.hid hnc
  have HCM : Hid (c ≤ maxLen) := Lib.hid hcm
  have HR := Lib.hid hr
  have HME := Lib.hid hmeek
  clear hn hnc hcm hr hmeek
  go_enter Try.func5, Try.ntmps5
  go_wp2_with fail
  refine (polalive_any _).mono ?_
  rintro e w1 ⟨rfl, hb1⟩
  have hgr := great_any (· < w.heap.size) A n c l w1 HN.out (HR.out.new hb1) (Nat.le_trans HNC.out HCM.out)
  go_wp2_with fail
  refine hgr.mono ?_
  rintro e w2 ⟨b, rfl, hb2, hbk⟩
  have hb02 := below_new hb1 hb2
  clear hb1 hb2 hgr
  cases b with
  | true =>
    clear hbk
    go_wp2
    go_ret
    exact ⟨rfl, hb02⟩
  | false =>
    have HBK : Hid (bulk l ≤ 3000) := Lib.hid (hbk rfl HME.out)
    clear hbk
    by_cases h60 : 60 < n
    · have h60' : (60 : Int) < (n : Int) := by omega
      go_wp2
      go_ret
      exact ⟨rfl, hb02⟩
    · have h60' : ¬ (60 : Int) < (n : Int) := by omega
      have HEM : Hid (∀ e ∈ l, e.M.length ≤ 1000000) := Lib.hid (fun e he => by have := bulk_mem he; have := HBK.out; omega)
      go_wp2_with fail
      clear h60'
      go_loopw [32] (fun iv wr => ∃ i : Nat, iv = .int .i64 i ∧ i ≤ n ∧ Hid (∀ p q (hp : p < l.length) (hq : q < l.length), p < i → q < p → ¬ (l[p].F 0 = l[q].F 0 ∧ l[p].F 1 = l[q].F 1)) ∧ Below w.heap.size w wr) (fun iv _ => n - (intOf iv).toNat)
      case atStart => exact ⟨0, rfl, by omega, Lib.hid (fun p q _ _ h => by omega), hb02⟩
      case round =>
        clear hb02
        obtain ⟨i, rfl, hi, HD, hb⟩ := hrel
        by_cases hlt : i < n
        · have hlt' : i < l.length := by rw [HN.out]; exact hlt
          have hiN : (i : Int) < (n : Int) := by omega
          have kc := run_eto A n c i (by have := HNC.out; omega)
          go_wp2_with fail
          clear kc
          go_loopw [39] (fun jv wr => ∃ j : Nat, jv = .int .i64 j ∧ j ≤ i ∧ Hid (∀ q (hq : q < l.length), q < j → ¬ (l[i].F 0 = l[q].F 0 ∧ l[i].F 1 = l[q].F 1)) ∧ Below w.heap.size w wr) (fun jv _ => i - (intOf jv).toNat)
          case atStart => exact ⟨0, rfl, by omega, Lib.hid (fun q _ h => by omega), hb⟩
          case round =>
            clear hb
            obtain ⟨j, rfl, hj, HE, hb⟩ := hrel
            by_cases hji : j < i
            · have hji' : (j : Int) < (i : Int) := by omega
              have hjN : (j : Int) < (n : Int) := by omega
              have hjl : j < l.length := by omega
              obtain ⟨ad, rfl, _, _, a0, a1, _⟩ := (HR.out.below hb (fun b hb _ => hb)).cells hlt'
              obtain ⟨ad', e, _, _, b0, b1, _⟩ := (HR.out.below hb (fun b hb _ => hb)).cells hjl
              injection e with e
              subst e
              obtain ⟨x0, hx0⟩ : ∃ x, x = l[i].F 0 := ⟨_, rfl⟩
              obtain ⟨x1, hx1⟩ : ∃ x, x = l[i].F 1 := ⟨_, rfl⟩
              obtain ⟨y0, hy0⟩ : ∃ x, x = l[j].F 0 := ⟨_, rfl⟩
              obtain ⟨y1, hy1⟩ : ∃ x, x = l[j].F 1 := ⟨_, rfl⟩
              rw [← hx0] at a0
              rw [← hx1] at a1
              rw [← hy0] at b0
              rw [← hy1] at b1
              have HXY : Hid (x0 = l[i].F 0 ∧ x1 = l[i].F 1 ∧ y0 = l[j].F 0 ∧ y1 = l[j].F 1) := Lib.hid ⟨hx0, hx1, hy0, hy1⟩
              have q1 := fun W => eql_dot x0 x1 y0 y1 W
              clear hx0 hx1 hy0 hy1
              go_wp2_with fail
              go_quiet (fail)
              obtain ⟨w3, hd, hw3⟩ : ∃ W, Drew wr W ∧ wr.drewN nq = W := ⟨_, ⟨nq, rfl⟩, rfl⟩
              rw [hw3]
              have hb3 : Below w.heap.size w w3 := hb.trans (hd.below _)
              clear hw3 hd hb a0 a1 b0 b1 q1 nq
              cases hxy : (x0 == y0 && x1 == y1) with
              | true =>
                go_wp2
                go_ret
                exact ⟨rfl, hb3⟩
              | false =>
                have HE2 : Hid (∀ q (hq : q < l.length), q < j + 1 → ¬ (l[i].F 0 = l[q].F 0 ∧ l[i].F 1 = l[q].F 1)) := Lib.hid (fun q hq hqj => by
                  rcases Nat.lt_or_ge q j with h | h
                  · exact HE.out q hq h
                  · have : q = j := by omega
                    subst this
                    rw [← HXY.out.1, ← HXY.out.2.1, ← HXY.out.2.2.1, ← HXY.out.2.2.2]
                    simpa using hxy)
                clear hxy
                go_wp2
                go_roundw
                case rel => exact ⟨j + 1, by go_num, by omega, HE2, hb3⟩
                case measure => simp [intOf]; omega
            · have hji' : ¬ (j : Int) < (i : Int) := by omega
              have HD2 : Hid (∀ p q (hp : p < l.length) (hq : q < l.length), p < i + 1 → q < p → ¬ (l[p].F 0 = l[q].F 0 ∧ l[p].F 1 = l[q].F 1)) := Lib.hid (fun p q hp hq h1 h2 => by
                rcases Nat.lt_or_ge p i with h | h
                · exact HD.out p q hp hq h h2
                · have : p = i := by omega
                  subst this
                  exact HE.out q hq (by omega))
              go_wp2
              go_roundw
              case rel => exact ⟨i + 1, by go_num, by omega, HD2, hb⟩
              case measure => simp [intOf]; omega
        · have HDI : Hid (Dist l) := Lib.hid (fun p q hp hq h => HD.out p q hp hq (by have := HN.out; omega) h)
          have hiN : ¬ (i : Int) < (n : Int) := by omega
          clear HD
          have hpw := pwinner_any (· < w.heap.size) A n c l k wr HN.out (HR.out.below hb (fun b hb _ => hb)) (by omega)
          rw [winV_eq] at hpw
          obtain ⟨FW, hFW⟩ : ∃ F, F = winF (winOf (sets k l)) := ⟨_, rfl⟩
          obtain ⟨ok, hok⟩ : ∃ b, b = (winOf (sets k l)).isSome := ⟨_, rfl⟩
          rw [← hFW, ← hok] at hpw
          have HFW := Lib.hid hFW
          have HOK := Lib.hid hok
          clear hFW hok
          go_wp2_with fail
          refine hpw.mono ?_
          rintro e w3 ⟨rfl, hb3⟩
          have hb03 := below_new hb hb3
          go_wp2_with fail
          obtain ⟨w4, hw4⟩ : ∃ W, (w3.alloc (.cells (pcs FW) 31)).alloc (.cells (dcs FW) 29) = W := ⟨_, rfl⟩
          have hb4 : Below w3.heap.size w3 w4 := by rw [← hw4]; exact b_alloc2 _ _ _
          have hP4 : Blo w4 w3.heap.size 31 (pcs FW) := by rw [← hw4]; exact (Blo.made _ _ _).alloc _
          have hD4 : Blo w4 (w3.heap.size + 1) 29 (dcs FW) := by
            rw [← hw4]
            have := Blo.made (w3.alloc (.cells (pcs FW) 31)) 29 (dcs FW)
            simpa using this
          have hb04 := below_new hb03 hb4
          rw [hw4]
          obtain ⟨gp, hgp⟩ : ∃ g, g = w3.heap.size := ⟨_, rfl⟩
          rw [← hgp] at hP4 hD4 ⊢
          obtain ⟨gd, hgd⟩ : ∃ g, g = gp + 1 := ⟨_, rfl⟩
          rw [← hgd] at hD4 ⊢
          have HGP : Hid (w.heap.size ≤ gp ∧ gd = gp + 1) := Lib.hid ⟨by rw [hgp]; exact hb03.size, hgd⟩
          clear hpw hb hb3 hb03 hb4 hw4 hgp hgd hiN
          go_loopw [12, 64] (fun nv iv wr => ∃ i : Nat, iv = .int .i64 i ∧ i ≤ n ∧ nv = .int .i64 ((sets k (l.take i)).length : Nat) ∧ Blo wr gp 31 (pcs FW) ∧ Blo wr gd 29 (dcs FW) ∧ Below w.heap.size w wr) (fun _ iv _ => n - (intOf iv).toNat)
          case atStart => exact ⟨0, rfl, by omega, rfl, hP4, hD4, hb04⟩
          case round =>
            clear hP4 hD4 hb04
            obtain ⟨i, rfl, hi, rfl, hP, hD, hb⟩ := hrel
            obtain ⟨s0, hs0⟩ : ∃ q, q = (sets k (l.take i)).length := ⟨_, rfl⟩
            have hs1 : s0 ≤ n := by rw [hs0]; have := sets_le (l.take i) k; simp at this; omega
            rw [← hs0]
            by_cases hlt : i < n
            · have hlt' : i < l.length := by rw [HN.out]; exact hlt
              have hiN : (i : Int) < (n : Int) := by omega
              have HST := Lib.hid (sets_step (k := k) hlt')
              rw [← hs0] at HST
              obtain ⟨ad, rfl, _, _, c0, c1, c2, c3, c4, c5, c6, c7, c8, c9, c10, c11, c12, c13⟩ := (HR.out.below hb (fun b hb _ => hb)).cells hlt'
              obtain ⟨x, hx⟩ : ∃ x, x = l[i] := ⟨_, rfl⟩
              have hxm : x ∈ l := by rw [hx]; exact List.getElem_mem hlt'
              rw [← hx] at c0 c1 c2 c3 c4 c5 c6 c7 c8 c9 c10 c11 c12 c13
              rw [← hx] at HST
              have HXM := Lib.hid hxm
              obtain ⟨F, M, Ax, cx⟩ := x
              simp only at c0 c1 c2 c3 c4 c5 c6 c7 c8 c9 c10 c11 c12 c13
              simp only at HST
              obtain ⟨q, hq⟩ : ∃ q, M.length = q := ⟨_, rfl⟩
              rw [hq] at c13
              obtain ⟨w5, hw5⟩ : ∃ W, wr.alloc (.cells (ecs F Ax q cx) 34) = W := ⟨_, rfl⟩
              have hb5 : Below wr.heap.size wr w5 := by rw [← hw5]; exact b_alloc _ _
              have hP5 := hP.new hb5
              have hD5 := hD.new hb5
              have hb05 := below_new hb hb5
              have hE5 : Blo w5 wr.heap.size 34 (ecs F Ax q cx) := by rw [← hw5]; exact Blo.made _ _ _
              obtain ⟨ge, hge⟩ : ∃ g, g = wr.heap.size := ⟨_, rfl⟩
              have HW5 := Lib.hid hw5
              have HGE := Lib.hid hge
              rw [← hge] at hE5
              clear hx hxm hq hw5 hs0 hge hP hD hb
              by_cases hset : F 3 = 2 ∧ F 4 = k
              · have HS1 : Hid ((sets k (l.take (i + 1))).length = s0 + 1) := Lib.hid (by rw [HST.out, if_pos hset])
                have h3' : (F 3 != 2) = false := by simpa using hset.1
                have h4' : (F 4 != k) = false := by simpa using hset.2
                have HSET := Lib.hid hset
                clear hset
                have es : IntKind.i64.wrap ((s0 : Int) + 1) = (s0 : Int) + 1 := IntWalk.i64_in _ (by omega)
                go_wp2_with fail
                rw [HW5.out, ← HGE.out]
                clear c0 c1 c2 c3 c4 c5 c6 c7 c8 c9 c10 c11 c12 c13 h3' h4'
                go_loopw [81] (fun jv wr => ∃ j : Nat, jv = .int .i64 j ∧ j ≤ n ∧ Blo wr gp 31 (pcs FW) ∧ Blo wr gd 29 (dcs FW) ∧ Blo wr ge 34 (ecs F Ax q cx) ∧ Below w.heap.size w wr) (fun jv _ => n - (intOf jv).toNat)
                case atStart => exact ⟨0, rfl, by omega, hP5, hD5, hE5, hb05⟩
                case round =>
                  clear hP5 hD5 hE5 hb05 hb5
                  obtain ⟨j, rfl, hj, hP, hD, hE, hb⟩ := hrel
                  by_cases hjn : j < n
                  · have hjl : j < l.length := by rw [HN.out]; exact hjn
                    have hjN : (j : Int) < (n : Int) := by omega
                    obtain ⟨ad', e, _, _, c0, c1, c2, c3, c4, c5, c6, c7, c8, c9, c10, c11, c12, c13⟩ := (HR.out.below hb (fun b hb _ => hb)).cells hjl
                    injection e with e
                    subst e
                    obtain ⟨y, hy⟩ : ∃ x, x = l[j] := ⟨_, rfl⟩
                    have hym : y ∈ l := by rw [hy]; exact List.getElem_mem hjl
                    rw [← hy] at c0 c1 c2 c3 c4 c5 c6 c7 c8 c9 c10 c11 c12 c13
                    have HYM := Lib.hid hym
                    obtain ⟨G, M2, Ay, cy⟩ := y
                    simp only at c0 c1 c2 c3 c4 c5 c6 c7 c8 c9 c10 c11 c12 c13
                    obtain ⟨r, hr⟩ : ∃ q, M2.length = q := ⟨_, rfl⟩
                    rw [hr] at c13
                    obtain ⟨w6, hw6⟩ : ∃ W, wr.alloc (.cells (ecs G Ay r cy) 34) = W := ⟨_, rfl⟩
                    have hb6 : Below wr.heap.size wr w6 := by rw [← hw6]; exact b_alloc _ _
                    have hP6 := hP.new hb6
                    have hD6 := hD.new hb6
                    have hE6 := hE.new hb6
                    have hb06 := below_new hb hb6
                    have d0 := hD6.cell 0; have d1 := hD6.cell 1
                    simp at d0 d1
                    obtain ⟨e0, e1, e2, e3, e4, e5, e6, e7, e8, e9, e10, e11, e12, e13⟩ := set14 hE6
                    rw [← hw6] at d0 d1 e0 e1 e2 e3 e4 e5 e6 e7 e8 e9 e10 e11 e12 e13
                    have HW6 := Lib.hid hw6
                    clear hy hym hr hw6 hP hD hE hb hb6
                    by_cases hfd : G 0 = FW 0 ∧ G 1 = FW 1
                    · have q1 : ∀ W, (binOp .eql 29 (.agg #[.int .i64 (G 0), .int .i64 (G 1)]) (.agg #[.int .i64 (FW 0), .int .i64 (FW 1)])).run Try.prog W = .ok (.bool true) W := fun W => by rw [eql_dot]; simp [hfd.1, hfd.2]
                      have HFD := Lib.hid hfd
                      clear hfd
                      by_cases hed : F 0 = FW 0 ∧ F 1 = FW 1
                      · have q2 : ∀ W, (binOp .neq 29 (.agg #[.int .i64 (F 0), .int .i64 (F 1)]) (.agg #[.int .i64 (FW 0), .int .i64 (FW 1)])).run Try.prog W = .ok (.bool false) W := fun W => by rw [neq_dot]; simp [hed.1, hed.2]
                        clear hed
                        go_wp2
                        go_roundw
                        case rel => exact ⟨j + 1, by go_num, by omega, by rw [HW6.out]; exact hP6, by rw [HW6.out]; exact hD6, by rw [HW6.out]; exact hE6, by rw [HW6.out]; exact hb06⟩
                        case measure => simp [intOf]; omega
                      · have q2 : ∀ W, (binOp .neq 29 (.agg #[.int .i64 (F 0), .int .i64 (F 1)]) (.agg #[.int .i64 (FW 0), .int .i64 (FW 1)])).run Try.prog W = .ok (.bool true) W := fun W => by rw [neq_dot]; simp; omega
                        have hla : E.later G F = true := win_later HDI.out HXM.out HYM.out HSET.out.1 HSET.out.2 (by rw [← HFW.out]; exact HFD.out) (by rw [← HFW.out]; exact hed)
                        have hlt2 := fun W => later_any G F Ay r cy Ax q cx W
                        rw [hla] at hlt2
                        clear hed hla
                        go_wp2_with fail
                        refine (hlt2 _).mono ?_
                        rintro e w7 ⟨rfl, hb7⟩
                        rw [HW6.out] at hb7
                        have hP7 := hP6.new hb7
                        have hD7 := hD6.new hb7
                        have hE7 := hE6.new hb7
                        have hb07 := below_new hb06 hb7
                        clear hlt2 hP6 hD6 hE6 hb06 hb7 q1 q2
                        go_wp2
                        go_roundw
                        case rel => exact ⟨j + 1, by go_num, by omega, hP7, hD7, hE7, hb07⟩
                        case measure => simp [intOf]; omega
                    · have q1 : ∀ W, (binOp .eql 29 (.agg #[.int .i64 (G 0), .int .i64 (G 1)]) (.agg #[.int .i64 (FW 0), .int .i64 (FW 1)])).run Try.prog W = .ok (.bool false) W := fun W => by rw [eql_dot]; simp; omega
                      clear hfd
                      go_wp2
                      go_roundw
                      case rel => exact ⟨j + 1, by go_num, by omega, by rw [HW6.out]; exact hP6, by rw [HW6.out]; exact hD6, by rw [HW6.out]; exact hE6, by rw [HW6.out]; exact hb06⟩
                      case measure => simp [intOf]; omega
                  · have hjN : ¬ (j : Int) < (n : Int) := by omega
                    go_wp2
                    go_roundw
                    case rel => exact ⟨i + 1, by go_num, by omega, by rw [HS1.out]; go_num, hP, hD, hb⟩
                    case measure => simp [intOf]; omega
              · have HS1 : Hid ((sets k (l.take (i + 1))).length = s0) := Lib.hid (by rw [HST.out, if_neg hset]; rfl)
                by_cases h3 : F 3 = 2
                · have h3' : (F 3 != 2) = false := by simpa using h3
                  have h4' : (F 4 != k) = true := by simp; intro h; exact hset ⟨h3, h⟩
                  clear hset h3
                  go_wp2
                  go_roundw
                  case rel => exact ⟨i + 1, by go_num, by omega, by rw [HS1.out], by rw [HW5.out]; exact hP5, by rw [HW5.out]; exact hD5, by rw [HW5.out]; exact hb05⟩
                  case measure => simp [intOf]; omega
                · have h3' : (F 3 != 2) = true := by simpa using h3
                  clear hset h3
                  go_wp2
                  go_roundw
                  case rel => exact ⟨i + 1, by go_num, by omega, by rw [HS1.out], by rw [HW5.out]; exact hP5, by rw [HW5.out]; exact hD5, by rw [HW5.out]; exact hb05⟩
                  case measure => simp [intOf]; omega
            · have hiN : ¬ (i : Int) < (n : Int) := by omega
              have HSN : Hid (s0 = (sets k l).length) := Lib.hid (by rw [hs0, List.take_of_length_le (by rw [HN.out]; omega)])
              clear hs0
              have HDE : Hid (ok = decide (0 < s0)) := Lib.hid (by rw [HOK.out, win_some, HSN.out]; simp)
              have hps := psets_any (· < w.heap.size) A n c l k wr HN.out (HR.out.below hb (fun b hb _ => hb)) (by omega) HEM.out
              have HPS := Lib.hid hps
              clear hps
              go_wp2_with fail
              refine HPS.out.mono ?_
              rintro e w5 ⟨A5, N5, c5, m5, rfl, hN5, hp5, hO5, hC5, hb5⟩
              have hN5s : N5 = s0 := by rw [hN5, ← plain_len m5, hp5, plain_len, P.isort_len, HSN.out]
              subst hN5s
              have hP5 := hP.new hb5
              have hD5 := hD.new hb5
              have hb05 := below_new hb hb5
              clear hN5 hp5 hO5 hC5 hb5 hP hD hb HPS
              by_cases hn0 : n = 0
              · have hn0' : ((n : Int) == 0) = true := by simp; omega
                have hn0'' : (n : Int) = 0 := by omega
                clear hn0
                go_wp2
                go_ret
                exact ⟨rfl, hb05⟩
              · have hn0' : ((n : Int) == 0) = false := by simp; omega
                have hn0'' : (n : Int) ≠ 0 := by omega
                obtain ⟨j, hj⟩ : ∃ j : Nat, j = tn % n := ⟨_, rfl⟩
                have hjn : j < n := by rw [hj]; exact Nat.mod_lt _ (by omega)
                have et : IntKind.i64.wrap (tn : Int) = (tn : Int) := IntWalk.i64_in _ (by omega)
                have em : (tn : Int) % (n : Int) = (j : Int) := by rw [hj]; simp
                have ej : IntKind.i64.wrap (j : Int) = (j : Int) := IntWalk.i64_in _ (by omega)
                clear hj hn0
                obtain ⟨w8, hw8⟩ : ∃ W, W = w5 := ⟨_, rfl⟩
                rw [← hw8] at hP5 hD5 hb05 ⊢
                obtain ⟨hi, hhi⟩ : ∃ x, x = l.drop j := ⟨_, rfl⟩
                obtain ⟨lo, hlo⟩ : ∃ x, x = l.take j := ⟨_, rfl⟩
                have kf := fun W => run_at (run_efrom A n c j (by omega) W)
                have kt := fun W => run_at (run_eto A n c j (by have := HNC.out; omega) W)
                obtain ⟨Ah, hAh⟩ : ∃ x, x = (if c = j then A else A.map (·.add (j * 14))) := ⟨_, rfl⟩
                have HRL : Hid (∀ W, Below w8.heap.size w8 W → ERds W (· < w.heap.size) A lo) := Lib.hid (fun W h => by rw [hlo]; exact (HR.out.below (below_new hb05 h) (fun b hb _ => hb)).take j)
                have HRH : ∀ W, Below w8.heap.size w8 W → ERds W (· < w.heap.size) Ah hi := fun W h => by
                  rw [hhi, hAh]
                  exact (HR.out.below (below_new hb05 h) (fun b hb _ => hb)).from (by have := HN.out; have := HNC.out; omega)
                have HLO : Hid (lo.length = j) := Lib.hid (by rw [hlo]; simp; have := HN.out; omega)
                have HHI : Hid (hi.length = n - j) := Lib.hid (by rw [hhi]; simp; have := HN.out; omega)
                have HCP : Hid (∀ W, Below w8.heap.size w8 W → Calls Try.prog 10 #[.slice Ah (n - j) (c - j)] W (EvsPost (plain hi) W)) := Lib.hid (fun W h => ecopies_any (· < w.heap.size) Ah (n - j) (c - j) hi W HHI.out (HRH W h) (by omega) (fun e he => HEM.out e (by rw [hhi] at he; exact List.mem_of_mem_drop he)))
                have HBS : Hid (∀ b, b < w.heap.size → b < w8.heap.size) := Lib.hid (fun b hb => by have := hb05.size; omega)
                have HHL : Hid (hi.length + lo.length ≤ 1000000) := Lib.hid (by rw [HHI.out, HLO.out]; omega)
                have HLN : Hid (hi.length + lo.length ≤ 900000) := Lib.hid (by rw [HHI.out, HLO.out]; omega)
                have HV9 : Hid (∀ m2, plain m2 = plain (hi ++ lo) → winV (winOf (sets k m2)) = .tuple #[pv FW, .agg (dcs FW), .bool ok]) := Lib.hid (fun m2 hm2 => by
                  obtain ⟨f1, f2⟩ := winOf_F k (plain_F hm2)
                  have f3 : winOf (sets k (hi ++ lo)) = winOf (sets k l) := win_rot HDI.out (fun x => by
                    rw [hhi, hlo]
                    constructor
                    · intro h
                      rcases List.mem_append.1 h with h | h
                      · exact List.mem_of_mem_drop h
                      · exact List.mem_of_mem_take h
                    · intro h
                      rw [← List.take_append_drop j l] at h
                      rcases List.mem_append.1 h with h | h
                      · exact List.mem_append_right _ h
                      · exact List.mem_append_left _ h)
                  rw [winV_eq, f1, f2, f3, ← HFW.out, ← HOK.out])
                obtain ⟨V9, hV9⟩ : ∃ v, v = Value.tuple #[pv FW, .agg (dcs FW), .bool ok] := ⟨_, rfl⟩
                rw [← hV9] at HV9
                have HV := Lib.hid hV9
                rw [← hAh] at kf
                have KF := Lib.hid kf
                have KT := Lib.hid kt
                have HX0 : Hid (∀ f, RotX w8 w8.heap.size hi lo FW (fun _ => false) f w8) := Lib.hid (fun f => ⟨Below.refl _ _, fun e => (by cases e), fun e => (by cases e), fun e => (by cases e), fun e => (by cases e)⟩)
                clear kf kt hAh hhi hlo HRH hV9 hw8
                go_wp2_with fail
                refine wp_famY (size := 150) (D := [124, 125, 126, 127, 128, 129, 130, 131, 132, 133, 123, 134, 135, 136, 18, 19, 20]) [3, 7, 9, 14, 15, 16, 17] [127, 131, 18, 19] [(124, isV (.slice A n c)), (125, isV (.int .i64 (j : Int))), (126, isV (.slice Ah (n - j) (c - j))), (128, isV (.slice A n c)), (129, isV (.int .i64 (j : Int))), (130, isV (.slice A j c)), (132, isV (.int .i64 k)), (133, isV (V9)), (123, isV (V9)), (134, isV (pv FW)), (135, isV (.agg (dcs FW))), (136, isV (.bool ok)), (20, isV (.bool ok))] (RotX w8 w8.heap.size hi lo FW) (RotX.up (Nat.le_refl _)) (by kernel_rfl) (by rfl) (by kernel_rfl) (HX0.out _) ?_ ?_
                · simp only [famAllY]
                  repeat' apply And.intro
                  · rw [if_neg (by decide)]
                    intro f W hl
                    simp [Oper.looksAt, Op.operands, Call.operands, famAt, famOf, isV] at hl
                    simp [famWants, boolIs_bool, boolIs_undef, execOp, rho, go_sem, hl, famUpon, famOf, isV, Grows.refl]
                  · rw [if_neg (by decide)]
                    intro f W hl
                    simp [Oper.looksAt, Op.operands, Call.operands, famAt, famOf, isV] at hl
                    simp [famWants, boolIs_bool, boolIs_undef, execOp, rho, go_sem, hl, em, famUpon, famOf, isV, Grows.refl]
                  · rw [if_neg (by decide)]
                    intro f W hl
                    simp [Oper.looksAt, Op.operands, Call.operands, famAt, famOf, isV] at hl
                    refine ⟨fun _ => ?_, fun e => ?_⟩
                    · unfold execOp
                      simp only [rho, hl, Option.map_some, Option.map_none]
                      simp only [Sem.run_bind, Sem.run_pure, KF.out W, Result.andThen_ok, famUpon]
                      exact ⟨Grows.refl _, fun d e => by injection e with e; subst e; simp [famOf, isV]⟩
                    · simp [famWants] at e
                  · rw [if_pos (by decide)]
                    intro L f W hi0 hcl hwt hX hl
                    simp [Oper.looksAt, Op.operands, Call.operands, famAt, famOf, isV] at hl
                    have h7 : L 7 = false := by
                      cases e : L 7 with
                      | false => rfl
                      | true => rw [hcl 7 3 (by kernel_rfl) e] at hi0; cases hi0
                    have hc := HCP.out W hX.1
                    simp [famWants, boolIs_bool, boolIs_undef, execOp, rho, go_sem, hl, famUpon, famOf, isV]
                    refine hc.mono ?_
                    rintro e w'' ⟨A', c', m, rfl, hp, hO, hg'⟩
                    exact ⟨_, rfl, hX.cop (Nat.le_refl _) hi0 h7 (by rw [← hp, plain_len]) hp hO hg'⟩
                  · rw [if_neg (by decide)]
                    intro f W hl
                    simp [Oper.looksAt, Op.operands, Call.operands, famAt, famOf, isV] at hl
                    simp [famWants, boolIs_bool, boolIs_undef, execOp, rho, go_sem, hl, famUpon, famOf, isV, Grows.refl]
                  · rw [if_neg (by decide)]
                    intro f W hl
                    simp [Oper.looksAt, Op.operands, Call.operands, famAt, famOf, isV] at hl
                    simp [famWants, boolIs_bool, boolIs_undef, execOp, rho, go_sem, hl, em, famUpon, famOf, isV, Grows.refl]
                  · rw [if_neg (by decide)]
                    intro f W hl
                    simp [Oper.looksAt, Op.operands, Call.operands, famAt, famOf, isV] at hl
                    refine ⟨fun _ => ?_, fun e => ?_⟩
                    · unfold execOp
                      simp only [rho, hl, Option.map_some, Option.map_none]
                      simp only [Sem.run_bind, Sem.run_pure, KT.out W, Result.andThen_ok, famUpon]
                      exact ⟨Grows.refl _, fun d e => by injection e with e; subst e; simp [famOf, isV]⟩
                    · simp [famWants] at e
                  · rw [if_pos (by decide)]
                    intro L f W hi0 hcl hwt hX hl
                    simp [Oper.looksAt, Op.operands, Call.operands, famAt, famOf, isV] at hl
                    have h9 : L 9 = false := by
                      cases e : L 9 with
                      | false => rfl
                      | true => rw [hcl 9 7 (by kernel_rfl) e] at hi0; cases hi0
                    have h3 : L 3 = true := hwt 3 (by kernel_rfl)
                    obtain ⟨A', N', c', e127, A2, N2, c2, W', hrun, hX'⟩ := hX.app (Nat.le_refl _) h3 hi0 h9 (S := (· < w.heap.size)) (A := A) (m0 := j) (c := c) HLO.out (HRL.out W hX.1) HBS.out HHL.out
                    refine ⟨fun _ => ?_, fun hh => ?_⟩
                    · simp only [execOp, resolve, invoke, builtin, rho, Sem.run_bind, Sem.run_pure, Result.andThen_ok, List.map_toArray, List.map_cons, List.map_nil, hl, e127, hrun, famUpon]
                      exact ⟨fun d hd => by cases hd; exact trivial, hX'⟩
                    · simp [famWants] at hh
                  · rw [if_neg (by decide)]
                    intro f W hl
                    simp [Oper.looksAt, Op.operands, Call.operands, famAt, famOf, isV] at hl
                    simp [famWants, boolIs_bool, boolIs_undef, execOp, rho, go_sem, hl, famUpon, famOf, isV, Grows.refl]
                  · rw [if_pos (by decide)]
                    intro L f W hi0 hcl hwt hX hl
                    simp [Oper.looksAt, Op.operands, Call.operands, famAt, famOf, isV] at hl
                    have h7 : L 7 = true := hwt 7 (by kernel_rfl)
                    obtain ⟨A2, N2, c2, m2, e131, hN2, hER, hpl⟩ := hX.2.2.1 h7 hi0
                    have hc := pwinner_any (fun _ => True) A2 N2 c2 m2 k W hN2.symm hER (by rw [hN2, ← plain_len m2, hpl, plain_len, List.length_append]; have := HHL.out; have := HLN.out; omega)
                    rw [HV9.out m2 hpl] at hc
                    simp [famWants, boolIs_bool, boolIs_undef, execOp, rho, go_sem, hl, e131, famUpon, famOf, isV]
                    refine hc.mono ?_
                    rintro e w'' ⟨rfl, hg'⟩
                    exact ⟨_, rfl, rfl, hX.win (Nat.le_refl _) h7 hg'⟩
                  · rw [if_neg (by decide)]
                    intro f W hl
                    simp [Oper.looksAt, Op.operands, Call.operands, famAt, famOf, isV] at hl
                    simp [famWants, boolIs_bool, boolIs_undef, execOp, rho, go_sem, hl, famUpon, famOf, isV, Grows.refl]
                  · rw [if_neg (by decide)]
                    intro f W hl
                    simp [Oper.looksAt, Op.operands, Call.operands, famAt, famOf, isV] at hl
                    simp [famWants, boolIs_bool, boolIs_undef, execOp, rho, go_sem, hl, HV.out, famUpon, famOf, isV, Grows.refl]
                  · rw [if_neg (by decide)]
                    intro f W hl
                    simp [Oper.looksAt, Op.operands, Call.operands, famAt, famOf, isV] at hl
                    simp [famWants, boolIs_bool, boolIs_undef, execOp, rho, go_sem, hl, HV.out, famUpon, famOf, isV, Grows.refl]
                  · rw [if_neg (by decide)]
                    intro f W hl
                    simp [Oper.looksAt, Op.operands, Call.operands, famAt, famOf, isV] at hl
                    simp [famWants, boolIs_bool, boolIs_undef, execOp, rho, go_sem, hl, HV.out, famUpon, famOf, isV, Grows.refl]
                  · rw [if_pos (by decide)]
                    intro L f W hi0 hcl hwt hX hl
                    simp [Oper.looksAt, Op.operands, Call.operands, famAt, famOf, isV] at hl
                    have h16 : L 16 = false := by
                      cases e : L 16 with
                      | false => rfl
                      | true => rw [hcl 16 14 (by kernel_rfl) e] at hi0; cases hi0
                    simp [famWants, boolIs_bool, boolIs_undef, execOp, rho, go_sem, hl, famUpon, famOf, isV]
                    exact hX.alp (Nat.le_refl _) h16
                  · rw [if_pos (by decide)]
                    intro L f W hi0 hcl hwt hX hl
                    simp [Oper.looksAt, Op.operands, Call.operands, famAt, famOf, isV] at hl
                    have h17 : L 17 = false := by
                      cases e : L 17 with
                      | false => rfl
                      | true => rw [hcl 17 15 (by kernel_rfl) e] at hi0; cases hi0
                    simp [famWants, boolIs_bool, boolIs_undef, execOp, rho, go_sem, hl, famUpon, famOf, isV]
                    exact hX.ald (Nat.le_refl _) h17
                  · rw [if_pos (by decide)]
                    intro L f W hi0 hcl hwt hX hl
                    simp [Oper.looksAt, Op.operands, Call.operands, famAt, famOf, isV] at hl
                    have h11 : L 11 = true := hwt 11 (by kernel_rfl)
                    have h10 : L 10 = true := hcl 11 10 (by kernel_rfl) h11
                    have h9 : L 9 = true := hcl 10 9 (by kernel_rfl) h10
                    have h7 : L 7 = true := hcl 9 7 (by kernel_rfl) h9
                    have h14 : L 14 = true := hwt 14 (by kernel_rfl)
                    obtain ⟨g, eg, W', hrun, hX'⟩ := hX.stp (Nat.le_refl _) h7 h9 h14
                    refine ⟨fun _ => ?_, fun e => ?_⟩
                    · unfold execOp
                      simp only [rho, hl, eg]
                      simp only [Sem.run_bind, Sem.run_pure, hrun, Result.andThen_ok, famUpon]
                      exact ⟨fun d e => (by cases e), hX'⟩
                    · simp [famWants] at e
                  · rw [if_pos (by decide)]
                    intro L f W hi0 hcl hwt hX hl
                    simp [Oper.looksAt, Op.operands, Call.operands, famAt, famOf, isV] at hl
                    have h12 : L 12 = true := hwt 12 (by kernel_rfl)
                    have h10 : L 10 = true := hcl 12 10 (by kernel_rfl) h12
                    have h9 : L 9 = true := hcl 10 9 (by kernel_rfl) h10
                    have h7 : L 7 = true := hcl 9 7 (by kernel_rfl) h9
                    have h15 : L 15 = true := hwt 15 (by kernel_rfl)
                    obtain ⟨g, eg, W', hrun, hX'⟩ := hX.std (Nat.le_refl _) h7 h9 h15
                    refine ⟨fun _ => ?_, fun e => ?_⟩
                    · unfold execOp
                      simp only [rho, hl, eg]
                      simp only [Sem.run_bind, Sem.run_pure, hrun, Result.andThen_ok, famUpon]
                      exact ⟨fun d e => (by cases e), hX'⟩
                    · simp [famWants] at e
                  · rw [if_neg (by decide)]
                    intro f W hl
                    simp [Oper.looksAt, Op.operands, Call.operands, famAt, famOf, isV] at hl
                    simp [famWants, boolIs_bool, boolIs_undef, execOp, rho, go_sem, hl, famUpon, famOf, isV, Grows.refl]
                  · trivial
                · intro L u W hL hX hu
                  obtain ⟨hbW, _, _, h4, h5⟩ := hX
                  obtain ⟨gp2, e18, _, hP2⟩ := h4 (hL 14 (by decide))
                  obtain ⟨gd2, e19, _, hD2⟩ := h5 (hL 15 (by decide))
                  rw [hL 16 (by decide)] at hP2
                  rw [hL 17 (by decide)] at hD2
                  have e20 : u 20 = .bool ok := hu 20 (by decide)
                  simp only [fill, Act.put, List.setIfInBounds_toArray, List.set_cons_zero, List.set_cons_succ, e18, e19, e20]
                  refine wpList_nil ?_
                  have hPW := hP5.new hbW
                  have hDW := hD5.new hbW
                  have hbf := below_new hb05 hbW
                  obtain ⟨k0, k1, k2, k3, k4, k5, k6⟩ := pol_cells FW hPW
                  obtain ⟨p0, p1, p2, p3, p4, p5, p6⟩ := pol_cells FW (by simpa using hP2 : Blo W gp2 31 (pcs FW))
                  have d0 := hDW.cell 0; have d1 := hDW.cell 1
                  have d0' := hD2.cell 0; have d1' := hD2.cell 1
                  simp at d0 d1 d0' d1'
                  have q1 : ∀ W, (binOp .eql 31 (pv FW) (pv FW)).run Try.prog W = .ok (.bool true) W := fun W => by rw [eql_pols]; simp
                  have q2 : ∀ W, (binOp .eql 29 (.agg #[.int .i64 (FW 0), .int .i64 (FW 1)]) (.agg #[.int .i64 (FW 0), .int .i64 (FW 1)])).run Try.prog W = .ok (.bool true) W := fun W => by rw [eql_dot]; simp
                  clear hu hL h4 h5 e18 e19 e20 HX0 hP5 hD5 hbW hb05 hP2 hD2 hPW hDW
                  go_wp2
                  go_ret
                  exact ⟨rfl, hbf⟩
end Go.Proofs.Ytgjepgnbkfbodaa
