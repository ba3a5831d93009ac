/- What PolicyWorks comes to. -/
import Derived.Test.YtgjepgnbkfbodaaPolMath4
import Derived.Test.YtgjepgnbkfbodaaPolSets
import Derived.Test.YtgjepgnbkfbodaaPolAlive
import Derived.Test.YtgjepgnbkfbodaaPolWorks
import Derived.Test.YtgjepgnbkfbodaaEvGreat
import Derived.Test.YtgjepgnbkfbodaaEvArgs2
namespace Go.Proofs.Ytgjepgnbkfbodaa
set_option linter.unusedVariables false
set_option linter.unusedSimpArgs false
open Go.ChangeShapes Go.WideShapes Go.ChangeAt Go.RowKit

/-- How many Sets of these workloads. -/
def sumS (l : List EvV) : List Int → Nat
  | [] => 0
  | x :: ws => (sets x l).length + sumS l ws
theorem sumS_app (l : List EvV) (a b : List Int) : sumS l (a ++ b) = sumS l a + sumS l b := by
  induction a with
  | nil => simp [sumS]
  | cons x a ih => simp [sumS, ih]; omega
def one9 (x : Int) : List Int → Nat
  | [] => 0
  | y :: ws => (if x = y then 1 else 0) + one9 x ws
theorem one9_no {x : Int} : ∀ {ws : List Int}, x ∉ ws → one9 x ws = 0
  | [], _ => rfl
  | y :: ws, h => by
    simp at h
    simp [one9, h.1, one9_no h.2]
theorem one9_yes {x : Int} : ∀ {ws : List Int}, ws.Pairwise (· < ·) → x ∈ ws → one9 x ws = 1
  | [], _, h => by cases h
  | y :: ws, hp, h => by
    have hp' := List.pairwise_cons.1 hp
    by_cases hxy : x = y
    · subst hxy
      have : x ∉ ws := fun hx => by have := hp'.1 x hx; omega
      simp [one9, one9_no this]
    · have : x ∈ ws := by simpa [hxy] using h
      simp [one9, hxy, one9_yes hp'.2 this]
theorem sumS_cons (e : EvV) (l : List EvV) : ∀ ws : List Int, sumS (e :: l) ws = sumS l ws + if e.F 3 = 2 then one9 (e.F 4) ws else 0
  | [] => by simp [sumS, one9]
  | x :: ws => by
    have ih := sumS_cons e l ws
    have hs : (sets x (e :: l)).length = (sets x l).length + if e.F 3 = 2 ∧ e.F 4 = x then 1 else 0 := by
      unfold sets
      rw [List.filter_cons]
      by_cases h : isSet x e = true
      · rw [if_pos h, if_pos (by simpa [isSet] using h)]; rfl
      · rw [if_neg h, if_neg (by simpa [isSet] using h)]; rfl
    simp only [sumS, one9, hs, ih]
    by_cases h3 : e.F 3 = 2 <;> by_cases h4 : e.F 4 = x <;> simp [h3, h4] <;> omega
theorem sumS_all (ws : List Int) (hp : ws.Pairwise (· < ·)) : ∀ l : List EvV, (∀ e ∈ l, e.F 3 = 2 → e.F 4 ∈ ws) → sumS l ws = (wk l).length
  | [], _ => by
    have : ∀ ws : List Int, sumS [] ws = 0 := by
      intro ws
      induction ws with
      | nil => rfl
      | cons x ws ih => simp [sumS, sets, ih]
    rw [this]; rfl
  | e :: l, h => by
    rw [sumS_cons, sumS_all ws hp l (fun x hx => h x (List.mem_cons_of_mem _ hx))]
    by_cases h3 : e.F 3 = 2
    · rw [if_pos h3, one9_yes hp (h e (List.mem_cons_self) h3)]
      simp [wk, h3]
    · rw [if_neg h3]
      simp [wk, h3]
theorem sumS_take {l : List EvV} {ws : List Int} {i : Nat} (h : i < ws.length) : sumS l (ws.take (i + 1)) = sumS l (ws.take i) + (sets ws[i] l).length := by
  rw [List.take_succ_eq_append_getElem h, sumS_app]
  simp [sumS]
theorem sumS_le (l : List EvV) (ws : List Int) (i : Nat) : sumS l (ws.take i) ≤ sumS l ws := by
  conv => rhs; rw [← List.take_append_drop i ws, sumS_app]
  omega
theorem win_is {l : List EvV} {k : Int} : (winOf (sets k l)).isSome = true ↔ ∃ e ∈ l, e.F 3 = 2 ∧ e.F 4 = k := by
  constructor
  · intro h
    cases ha : winOf (sets k l) with
    | none => rw [ha] at h; cases h
    | some x =>
      obtain ⟨h1, h2, h3⟩ := mem_set.1 (winOf_spec ha).1
      exact ⟨x, h1, h2, h3⟩
  · rintro ⟨e, h1, h2, h3⟩
    cases ha : winOf (sets k l) with
    | none =>
      have : e ∈ sets k l := mem_set.2 ⟨h1, h2, h3⟩
      rw [winOf_none ha] at this; cases this
    | some x => rfl

set_option maxRecDepth 100000 in
set_option maxHeartbeats 2000000 in
theorem polworks_main (A : Option Addr) (n c : Nat) (l : List EvV) (w : World) (h0 : EvsIn w A n c l) :
    Calls Try.prog 7 #[.slice A n c] w fun e w' => e = .returned (.bool true) ∧ Below w.heap.size w w' := by
  obtain ⟨hn, hnc, hcm, hr, hmeek⟩ := h0
  have HN := Lib.hid hn
  have HNC := Lib.hid hnc
  have HCM : Hid (c ≤ maxLen) := Lib.hid hcm
  have HR := Lib.hid hr
  have HME := Lib.hid hmeek
  clear hn hnc hcm hr hmeek
  go_enter Try.func7, Try.ntmps7
  go_wp2_with fail
  refine (polalive_any _).mono ?_
  rintro e w1 ⟨rfl, hb1⟩
  have hgr := great_any (· < w.heap.size) A n c l w1 HN.out (HR.out.new hb1) (Nat.le_trans HNC.out HCM.out)
  go_wp2_with fail
  refine hgr.mono ?_
  rintro e w2 ⟨b, rfl, hb2, hbk⟩
  have hb02 := below_new hb1 hb2
  clear hb1 hb2 hgr
  cases b with
  | true =>
    clear hbk
    go_wp2
    go_ret
    exact ⟨rfl, hb02⟩
  | false =>
    have HBK : Hid (bulk l ≤ 3000) := Lib.hid (hbk rfl HME.out)
    clear hbk
    by_cases h60 : 200 < n
    · have h60' : (200 : Int) < (n : Int) := by omega
      go_wp2
      go_ret
      exact ⟨rfl, hb02⟩
    · have h60' : ¬ (200 : Int) < (n : Int) := by omega
      have HEM : Hid (∀ e ∈ l, e.M.length ≤ 1000000) := Lib.hid (fun e he => by have := bulk_mem he; have := HBK.out; omega)
      have hwk := works_any (· < w.heap.size) A n c l w2 HN.out (HR.out.below hb02 (fun b hb _ => hb)) (by omega)
      have HWK := Lib.hid hwk
      clear hwk
      go_wp2_with fail
      refine HWK.out.mono ?_
      rintro e w3 ⟨Aw, Nw, cw, ws, rfl, hNw, hRw, hpw, hmw, hb3⟩
      have hb03 := below_new hb02 hb3
      have HNW := Lib.hid hNw
      have HRW := Lib.hid hRw
      have HPW := Lib.hid hpw
      have HMW := Lib.hid hmw
      have HWL : Hid (sumS l ws = (wk l).length) := Lib.hid (sumS_all ws hpw l (fun e he h3 => (hmw _).2 ⟨e, he, h3, rfl⟩))
      have hwl : (wk l).length ≤ n := by have := wk_le l; have := HN.out; omega
      have HNB : Hid (Nw ≤ 200) := Lib.hid (by
        rw [hNw]
        have h1 : ∀ (vs : List Int), (∀ x ∈ vs, x ∈ ws) → vs.length ≤ sumS l vs := by
          intro vs
          induction vs with
          | nil => intro _; exact Nat.zero_le _
          | cons x vs ih =>
            intro hv
            obtain ⟨e, he, e3, e4⟩ := (hmw x).1 (hv x (List.mem_cons_self))
            have := List.length_pos_of_mem (mem_set.2 ⟨he, e3, e4⟩)
            have := ih (fun y hy => hv y (List.mem_cons_of_mem _ hy))
            simp only [List.length_cons, sumS]
            omega
        have := h1 ws (fun x hx => hx)
        rw [HWL.out] at this
        omega)
      clear h60' hNw hRw hpw hmw hb02 hb3 HWK
      go_wp2_with fail
      go_loopw [5, 33] (fun sv iv wr => ∃ i : Nat, iv = .int .i64 i ∧ i ≤ n ∧ sv = .int .i64 ((wk (l.take i)).length : Nat) ∧ Below w.heap.size w wr ∧ Below w3.heap.size w3 wr) (fun _ iv _ => n - (intOf iv).toNat)
      case atStart => exact ⟨0, rfl, by omega, rfl, hb03, Below.refl _ _⟩
      case round =>
        clear hb03
        obtain ⟨i, rfl, hi, rfl, hb, hbr⟩ := hrel
        obtain ⟨s0, hs0⟩ : ∃ q, q = (wk (l.take i)).length := ⟨_, rfl⟩
        have hs1 : s0 ≤ n := by rw [hs0]; have := wk_le (l.take i); simp at this; omega
        rw [← hs0]
        by_cases hlt : i < n
        · have hlt' : i < l.length := by rw [HN.out]; exact hlt
          have hiN : (i : Int) < (n : Int) := by omega
          have HST : Hid ((wk (l.take (i + 1))).length = s0 + if l[i].F 3 = 2 then 1 else 0) := Lib.hid (by rw [wk_take hlt', List.length_append, hs0]; split <;> rfl)
          obtain ⟨ad, rfl, _, _, c0, c1, c2, c3, c4, c5, c6, c7, c8, c9, c10, c11, c12, c13⟩ := (HR.out.below hb (fun b hb _ => hb)).cells hlt'
          obtain ⟨x, hx⟩ : ∃ x, x = l[i] := ⟨_, rfl⟩
          rw [← hx] at c0 c1 c2 c3 c4 c5 c6 c7 c8 c9 c10 c11 c12 c13 HST
          obtain ⟨F, M, Ax, cx⟩ := x
          simp only at c0 c1 c2 c3 c4 c5 c6 c7 c8 c9 c10 c11 c12 c13 HST
          obtain ⟨q, hq⟩ : ∃ q, M.length = q := ⟨_, rfl⟩
          rw [hq] at c13
          obtain ⟨w5, hw5⟩ : ∃ W, wr.alloc (.cells (ecs F Ax q cx) 34) = W := ⟨_, rfl⟩
          have hb5 : Below wr.heap.size wr w5 := by rw [← hw5]; exact b_alloc _ _
          have hb05 := below_new hb hb5
          have hbr5 := below_new hbr hb5
          have HW5 := Lib.hid hw5
          clear hx hq hw5 hs0 hb hbr
          by_cases h3 : F 3 = 2
          · have HS1 : Hid ((wk (l.take (i + 1))).length = s0 + 1) := Lib.hid (by rw [HST.out, if_pos h3])
            have h3' : (F 3 == 2) = true := by simpa using h3
            have es : IntKind.i64.wrap ((s0 : Int) + 1) = (s0 : Int) + 1 := IntWalk.i64_in _ (by omega)
            clear h3
            go_wp2
            go_roundw
            case rel => exact ⟨i + 1, by go_num, by omega, by rw [HS1.out]; go_num, by rw [HW5.out]; exact hb05, by rw [HW5.out]; exact hbr5⟩
            case measure => simp [intOf]; omega
          · have HS1 : Hid ((wk (l.take (i + 1))).length = s0) := Lib.hid (by rw [HST.out, if_neg h3]; rfl)
            have h3' : (F 3 == 2) = false := by simpa using h3
            clear h3
            go_wp2
            go_roundw
            case rel => exact ⟨i + 1, by go_num, by omega, by rw [HS1.out], by rw [HW5.out]; exact hb05, by rw [HW5.out]; exact hbr5⟩
            case measure => simp [intOf]; omega
        · have hiN : ¬ (i : Int) < (n : Int) := by omega
          have HSN : Hid (s0 = (wk l).length) := Lib.hid (by rw [hs0, List.take_of_length_le (by rw [HN.out]; omega)])
          clear hs0
          go_wp2_with fail
          go_loopw [4, 45] (fun sv iv wr => ∃ i : Nat, iv = .int .i64 i ∧ i ≤ Nw ∧ sv = .int .i64 (sumS l (ws.take i) : Nat) ∧ Below w.heap.size w wr ∧ Below w3.heap.size w3 wr) (fun _ iv _ => Nw - (intOf iv).toNat)
          case atStart => exact ⟨0, rfl, by omega, rfl, hb, hbr⟩
          case round =>
            clear hb hbr
            obtain ⟨i, rfl, hi, rfl, hb, hbr⟩ := hrel
            have hi200 : i ≤ 200 := by have := HNB.out; omega
            obtain ⟨t0, ht0⟩ : ∃ q, q = sumS l (ws.take i) := ⟨_, rfl⟩
            have ht1 : t0 ≤ 200 := by rw [ht0]; have := sumS_le l ws i; have := HWL.out; omega
            rw [← ht0]
            by_cases hlt : i < Nw
            · have hlt' : i < ws.length := by rw [← HNW.out]; exact hlt
              have hiW : (i : Int) < (Nw : Int) := by omega
              have HTT := Lib.hid (sumS_take (l := l) hlt')
              rw [← ht0] at HTT
              obtain ⟨ad, rfl, _, cz⟩ := (HRW.out.new hbr).at (j := i) (by simpa using hlt')
              obtain ⟨z, hz⟩ : ∃ z, z = ws[i] := ⟨_, rfl⟩
              have cz' : wr.cell? (ad.add i) = some (.int .i64 z) := by simpa [← hz] using cz
              have HT2 : Hid (sumS l (ws.take (i + 1)) = t0 + (sets z l).length) := Lib.hid (by rw [hz]; exact HTT.out)
              have HSZ : Hid (t0 + (sets z l).length ≤ 200) := Lib.hid (by rw [← HT2.out]; have := sumS_le l ws (i + 1); have := HWL.out; omega)
              have HOKZ : Hid ((winOf (sets z l)).isSome = true) := Lib.hid (win_is.2 ((HMW.out z).1 (by rw [hz]; exact List.getElem_mem _)))
              have HWN := Lib.hid (pwinner_any (· < w.heap.size) A n c l z wr HN.out (HR.out.below hb (fun b hb _ => hb)) (by omega))
              have HPR : Hid (∀ k, i = k + 1 → ∃ y, wr.cell? (ad.add k) = some (.int .i64 y) ∧ y < z) := Lib.hid (fun k hk => by
                obtain ⟨ad', e, _, cy⟩ := (HRW.out.new hbr).at (j := k) (by simp; omega)
                injection e with e
                subst e
                refine ⟨ws[k]'(by omega), by simpa using cy, ?_⟩
                rw [hz]
                exact List.pairwise_iff_getElem.1 HPW.out _ _ _ _ (by omega))
              clear hz cz ht0 HTT
              go_wp2_with fail
              refine HWN.out.mono ?_
              rw [winV_eq, HOKZ.out]
              rintro e w4 ⟨rfl, hb4⟩
              obtain ⟨FW, hFW⟩ : ∃ F, F = winF (winOf (sets z l)) := ⟨_, rfl⟩
              rw [← hFW]
              obtain ⟨w5, hw5⟩ : ∃ W, (w4.alloc (.cells (pcs FW) 31)).alloc (.cells (dcs FW) 29) = W := ⟨_, rfl⟩
              have hb5 : Below w4.heap.size w4 w5 := by rw [← hw5]; exact b_alloc2 _ _ _
              have hb45 : Below wr.heap.size wr w5 := below_new hb4 hb5
              have hb05 := below_new hb hb45
              have hbr5 := below_new hbr hb45
              have HW5 := Lib.hid hw5
              have HB45 := Lib.hid hb45
              clear hFW hb4 hb5 hb hbr hw5 hb45 cz' HWN
              by_cases hi0 : i = 0
              · subst hi0
                have HSE := Lib.hid (psets_any (· < w.heap.size) A n c l z w5 HN.out (HR.out.below hb05 (fun b hb _ => hb)) (by omega) HEM.out)
                go_wp2_with fail
                rw [HW5.out]
                refine HSE.out.mono ?_
                rintro e w6 ⟨A6, N6, c6, m6, rfl, hN6, hp6, hO6, hC6, hb6⟩
                have hN6s : N6 = (sets z l).length := by rw [hN6, ← plain_len m6, hp6, plain_len, P.isort_len]
                obtain ⟨q, hq⟩ : ∃ q, q = (sets z l).length := ⟨_, rfl⟩
                rw [← hq] at hN6s
                subst hN6s
                have HQ : Hid (sumS l (ws.take (0 + 1)) = t0 + N6) := Lib.hid (by rw [HT2.out, ← hq])
                have hqb : t0 + N6 ≤ 200 := by rw [hq]; exact HSZ.out
                have es : IntKind.i64.wrap ((t0 : Int) + (N6 : Int)) = (t0 : Int) + (N6 : Int) := IntWalk.i64_in _ (by omega)
                have hb06 := below_new hb05 hb6
                have hbr6 := below_new hbr5 hb6
                clear hN6 hp6 hO6 hC6 hb6 hb05 hbr5 HSE hq hqb
                go_wp2
                go_roundw
                case rel => exact ⟨0 + 1, by go_num, by omega, by rw [HQ.out]; go_num, hb06, hbr6⟩
                case measure => simp [intOf]; omega
              · obtain ⟨k, rfl⟩ : ∃ k, i = k + 1 := ⟨i - 1, by omega⟩
                obtain ⟨y, hy, hyz⟩ := HPR.out k rfl
                have hy5 : w5.cell? (ad.add k) = some (.int .i64 y) := (World.cell?_of_block (w := wr) (HB45.out.block _ (M.cellLt hy))).trans hy
                rw [← HW5.out] at hy5
                have hpos : (0 : Int) < ((k + 1 : Nat) : Int) := by omega
                have hpos2 : (0 : Int) < (k : Int) + 1 := by omega
                have ek : IntKind.i64.wrap (((k + 1 : Nat) : Int) - 1) = (k : Int) := by rw [IntWalk.i64_in _ (by omega)]; omega
                have ek3 : IntKind.i64.wrap ((k : Int) + 1 - 1) = (k : Int) := by rw [IntWalk.i64_in _ (by omega)]; omega
                have ek4 : IntKind.i64.wrap (k : Int) = (k : Int) := IntWalk.i64_in _ (by omega)
                have hkN : (k : Int) < (Nw : Int) := by omega
                have hge : ¬ z ≤ y := by omega
                clear hy hyz
                have HSE := Lib.hid (psets_any (· < w.heap.size) A n c l z w5 HN.out (HR.out.below hb05 (fun b hb _ => hb)) (by omega) HEM.out)
                go_wp2_with fail
                rw [HW5.out]
                refine HSE.out.mono ?_
                rintro e w6 ⟨A6, N6, c6, m6, rfl, hN6, hp6, hO6, hC6, hb6⟩
                have hN6s : N6 = (sets z l).length := by rw [hN6, ← plain_len m6, hp6, plain_len, P.isort_len]
                obtain ⟨q, hq⟩ : ∃ q, q = (sets z l).length := ⟨_, rfl⟩
                rw [← hq] at hN6s
                subst hN6s
                have HQ : Hid (sumS l (ws.take (k + 1 + 1)) = t0 + N6) := Lib.hid (by rw [HT2.out, ← hq])
                have hqb : t0 + N6 ≤ 200 := by rw [hq]; exact HSZ.out
                have es : IntKind.i64.wrap ((t0 : Int) + (N6 : Int)) = (t0 : Int) + (N6 : Int) := IntWalk.i64_in _ (by omega)
                have hb06 := below_new hb05 hb6
                have hbr6 := below_new hbr5 hb6
                clear hN6 hp6 hO6 hC6 hb6 hb05 hbr5 HSE hq hqb
                go_wp2
                go_roundw
                case rel => exact ⟨k + 1 + 1, by go_num, by omega, by rw [HQ.out]; go_num, hb06, hbr6⟩
                case measure => simp [intOf]; omega
            · have hiW : ¬ (i : Int) < (Nw : Int) := by omega
              have HTN : Hid (t0 = s0) := Lib.hid (by rw [ht0, List.take_of_length_le (by rw [← HNW.out]; omega), HWL.out, HSN.out])
              clear ht0
              go_wp2_with fail
              go_loopw [13] (fun zv wr => ∃ z : Int, zv = .int .i64 z ∧ -1 ≤ z ∧ z ≤ 9 ∧ Below w.heap.size w wr ∧ Below w3.heap.size w3 wr) (fun zv _ => (9 - intOf zv).toNat)
              case atStart => exact ⟨-1, rfl, by omega, by omega, hb, hbr⟩
              case round =>
                clear hb hbr
                obtain ⟨z, rfl, hz0, hz1, hb, hbr⟩ := hrel
                by_cases hz8 : z ≤ 8
                · have ez : IntKind.i64.wrap (z + 1) = z + 1 := IntWalk.i64_in _ (by omega)
                  have HWN := Lib.hid (fun W (h : Below w.heap.size w W) => pwinner_any (· < w.heap.size) A n c l z W HN.out (HR.out.below h (fun b hb _ => hb)) (by omega))
                  go_wp2_with fail
                  go_loopw [14, 85] (fun bv jv wr => ∃ j : Nat, jv = .int .i64 j ∧ j ≤ Nw ∧ bv = .bool (decide (z ∈ ws.take j)) ∧ Below w.heap.size w wr ∧ Below w3.heap.size w3 wr) (fun _ jv _ => Nw - (intOf jv).toNat)
                  case atStart => exact ⟨0, rfl, by omega, by simp, hb, hbr⟩
                  case round =>
                    clear hb hbr
                    obtain ⟨j, rfl, hj, rfl, hb, hbr⟩ := hrel
                    have hj200 : j ≤ 200 := by have := HNB.out; omega
                    obtain ⟨b, hbv⟩ : ∃ b, b = decide (z ∈ ws.take j) := ⟨_, rfl⟩
                    rw [← hbv]
                    by_cases hjn : j < Nw
                    · have hjl : j < ws.length := by rw [← HNW.out]; exact hjn
                      have hjW : (j : Int) < (Nw : Int) := by omega
                      obtain ⟨ad, rfl, _, cx⟩ := (HRW.out.new hbr).at (j := j) (by simpa using hjl)
                      obtain ⟨x, hx⟩ : ∃ x, x = ws[j] := ⟨_, rfl⟩
                      have cx' : wr.cell? (ad.add j) = some (.int .i64 x) := by simpa [← hx] using cx
                      have HNX : Hid (decide (z ∈ ws.take (j + 1)) = (b || (x == z))) := Lib.hid (by
                        rw [List.take_succ_eq_append_getElem hjl, hbv, ← hx]
                        have e1 : (z ∈ ws.take j ++ [x]) ↔ (z ∈ ws.take j ∨ x = z) := by
                          rw [List.mem_append, List.mem_singleton]
                          exact or_congr Iff.rfl ⟨Eq.symm, Eq.symm⟩
                        rw [decide_eq_decide.2 e1, Bool.decide_or]
                        congr 1)
                      clear hx cx hbv
                      cases b with
                      | true =>
                        have HN1 : Hid (decide (z ∈ ws.take (j + 1)) = true) := Lib.hid (by rw [HNX.out]; rfl)
                        clear HNX
                        go_wp2
                        go_roundw
                        case rel => exact ⟨j + 1, by go_num, by omega, by rw [HN1.out], hb, hbr⟩
                        case measure => simp [intOf]; omega
                      | false =>
                        cases hxz : (x == z) with
                        | true =>
                          have HN1 : Hid (decide (z ∈ ws.take (j + 1)) = true) := Lib.hid (by rw [HNX.out, hxz]; rfl)
                          clear HNX
                          go_wp2
                          go_roundw
                          case rel => exact ⟨j + 1, by go_num, by omega, by rw [HN1.out], hb, hbr⟩
                          case measure => simp [intOf]; omega
                        | false =>
                          have HN1 : Hid (decide (z ∈ ws.take (j + 1)) = false) := Lib.hid (by rw [HNX.out, hxz]; rfl)
                          clear HNX
                          go_wp2
                          go_roundw
                          case rel => exact ⟨j + 1, by go_num, by omega, by rw [HN1.out], hb, hbr⟩
                          case measure => simp [intOf]; omega
                    · have hjW : ¬ (j : Int) < (Nw : Int) := by omega
                      have HBV : Hid ((winOf (sets z l)).isSome = b) := Lib.hid (by
                        rw [hbv, List.take_of_length_le (by rw [← HNW.out]; omega), Bool.eq_iff_iff, win_is, ← HMW.out]
                        simp)
                      have hwn := HWN.out wr hb
                      rw [winV_eq, HBV.out] at hwn
                      obtain ⟨FW, hFW⟩ : ∃ F, F = winF (winOf (sets z l)) := ⟨_, rfl⟩
                      rw [← hFW] at hwn
                      have HWN2 := Lib.hid hwn
                      clear hbv hFW hwn
                      go_wp2_with fail
                      refine HWN2.out.mono ?_
                      rintro e w4 ⟨rfl, hb4⟩
                      have hb04 := below_new hb hb4
                      have hbr4 := below_new hbr hb4
                      obtain ⟨w5, hw5⟩ : ∃ W, (w4.alloc (.cells (pcs FW) 31)).alloc (.cells (dcs FW) 29) = W := ⟨_, rfl⟩
                      have hb5 : Below w4.heap.size w4 w5 := by rw [← hw5]; exact b_alloc2 _ _ _
                      have hb05 := below_new hb04 hb5
                      have hbr5 := below_new hbr4 hb5
                      have HW5 := Lib.hid hw5
                      clear hb hbr hb4 hb04 hbr4 hb5 hw5 HWN2
                      cases b with
                      | true =>
                        go_wp2
                        go_roundw
                        case rel => exact ⟨z + 1, by go_num, by omega, by omega, by rw [HW5.out]; exact hb05, by rw [HW5.out]; exact hbr5⟩
                        case measure => simp [intOf]; omega
                      | false =>
                        go_wp2
                        go_roundw
                        case rel => exact ⟨z + 1, by go_num, by omega, by omega, by rw [HW5.out]; exact hb05, by rw [HW5.out]; exact hbr5⟩
                        case measure => simp [intOf]; omega
                · have hts : (t0 : Int) = (s0 : Int) := by rw [HTN.out]
                  have HTS := Lib.hid hts
                  clear hts
                  go_wp2
                  go_ret
                  exact ⟨ret_bool (by have := HTN.out; simp; omega), hb⟩
end Go.Proofs.Ytgjepgnbkfbodaa
