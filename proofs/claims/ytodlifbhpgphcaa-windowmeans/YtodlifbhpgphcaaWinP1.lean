/- Layer 10, the program's: the places of a workload's newest samples of a node. -/
import Derived.Test.YtodlifbhpgphcaaSiS8
import Derived.Test.YtodlifbhpgphcaaPolIso
import Derived.Test.YtodlifbhpgphcaaSatW
import Derived.Test.YtodlifbhpgphcaaIntCut
import Derived.Deep.CutBlock
namespace Go.Proofs.Ytodlifbhpgphcaa
set_option linter.unusedVariables false
set_option linter.unusedSimpArgs false
open Go.ChangeShapes Go.WideShapes Go.ChangeAt Go.RowKit

/-- The places up to i at which such a sample stands. -/
def Cap.pls (p : Cap) (k nd : Int) : Nat → List (Fin p.n)
  | 0 => []
  | i + 1 => p.pls k nd i ++ if h : i < p.n then (if isSmp k nd (p.ev ⟨i, h⟩) = true then [⟨i, h⟩] else []) else []
section
variable {p : Cap} {k nd : Int}
theorem Cap.pls_yes {i : Nat} (h : i < p.n) (hs : (p.ev ⟨i, h⟩).F 3 = 1 ∧ (p.ev ⟨i, h⟩).F 4 = k ∧ (p.ev ⟨i, h⟩).F 0 = nd) : p.pls k nd (i + 1) = p.pls k nd i ++ [⟨i, h⟩] := by
  rw [Cap.pls, dif_pos h, if_pos (by unfold isSmp; simpa using hs)]
theorem Cap.pls_no {i : Nat} (h : i < p.n) (hs : ¬ ((p.ev ⟨i, h⟩).F 3 = 1 ∧ (p.ev ⟨i, h⟩).F 4 = k ∧ (p.ev ⟨i, h⟩).F 0 = nd)) : p.pls k nd (i + 1) = p.pls k nd i := by
  rw [Cap.pls, dif_pos h, if_neg (by unfold isSmp; simpa using hs), List.append_nil]
theorem Cap.pls_map (p : Cap) (k nd : Int) : ∀ i, i ≤ p.n → (p.pls k nd i).map p.ev = smps k nd (p.l.take i)
  | 0, _ => by simp [Cap.pls, smps]
  | i + 1, h => by
    have hi : i < p.n := h
    have hl : i < p.l.length := by rw [p.hn]; exact hi
    have ih := Cap.pls_map p k nd i (by omega)
    rw [Cap.pls, dif_pos hi, List.map_append, ih, smps_take hl]
    have e : p.ev ⟨i, hi⟩ = p.l[i] := rfl
    rw [e]
    by_cases hs : isSmp k nd p.l[i] = true
    · rw [if_pos hs, if_pos hs]; simp [e]
    · rw [if_neg hs, if_neg hs]; rfl
theorem Cap.pls_len (p : Cap) (k nd : Int) {i : Nat} (h : i ≤ p.n) : (p.pls k nd i).length ≤ i := by
  have h1 := congrArg List.length (Cap.pls_map p k nd i h)
  rw [List.length_map] at h1
  have h2 := smps_le k nd (p.l.take i)
  rw [List.length_take] at h2
  omega
/-- The places of the newest ones. -/
theorem Cap.newest (p : Cap) (k nd sz : Int) : ((P.isort (ltI p) (p.pls k nd p.n)).take sz.toNat).map p.ev = newQ k nd sz p.l := by
  unfold newQ
  rw [List.map_take, ← isort_map p.ev (lt := ltI p) (lt' := ltQ) (fun a b => rfl), Cap.pls_map p k nd p.n (Nat.le_refl _)]
  have e : p.l.take p.n = p.l := List.take_of_length_le (by rw [p.hn]; exact Nat.le_refl _)
  rw [e]
end
/-- A call answers the places of the newest samples, in a row of its own. -/
def NewPost (p : Cap) (k nd sz : Int) (w : World) (e : Ending) (w' : World) : Prop :=
  ∃ A N c, ∃ ps : List (Fin p.n), e = .returned (.slice A N c) ∧ ps.length = N ∧ ps.map p.ev = newQ k nd sz p.l ∧ Rds w' (fun b => w.heap.size ≤ b) A (ivs ps) ∧ Below w.heap.size w w'

set_option maxRecDepth 100000 in
set_option maxHeartbeats 4000000 in
theorem newestP_any (p : Cap) (T : Nat → Prop) (A : Option Addr) (n c : Nat) (l : List EvV) (k nd sz : Int) (w : World) (hpb : p.b = w.heap.size) (hpA : p.A = A) (hpn : p.n = n) (hpc : p.c = c) (hpl : p.l = l) (hpT : ∀ b, p.T b ↔ T b ∧ b < w.heap.size) (hr : ERds w T A l) (hl : n ≤ 900000) :
    Calls Try.prog 20 #[.slice A n c, .int .i64 k, .int .i64 nd, .int .i64 sz] w (NewPost p k nd sz w) := by
  have HPL : Hid (∀ W, Below w.heap.size w W → Blo W w.heap.size 22 #[.slice A n c] → CmpAt W p) := Lib.hid fun W hb hB => by
    unfold CmpAt
    rw [hpb, hpA, hpn, hpc, hpl]
    exact ⟨hB, (hr.old.below hb (fun b hb _ => hb.2)).mono (fun b hb => (hpT b).2 hb)⟩
  have HOF : Hid (∀ g, w.heap.size < g → p.off g) := Lib.hid fun g hg => ⟨by rw [hpb]; omega, fun h => by have := ((hpT g).1 h).2; omega⟩
  have HB : Hid (p.b = w.heap.size) := Lib.hid hpb
  have HN : Hid (l.length = n) := Lib.hid (by rw [← hpl, ← hpn]; exact p.hn)
  have HEV : Hid (∀ (i : Nat) (h : i < p.n) (h' : i < l.length), p.ev ⟨i, h⟩ = l[i]) := Lib.hid (by
    subst hpl
    exact fun i h h' => rfl)
  have HPN := Lib.hid hpn
  obtain ⟨w0, hw0⟩ : ∃ W, w.alloc (.cells #[.slice A n c] 22) = W := ⟨_, rfl⟩
  have hb0 : Below w.heap.size w w0 := by rw [← hw0]; exact b_alloc _ _
  have hB0 : Blo w0 w.heap.size 22 #[.slice A n c] := by rw [← hw0]; exact Blo.made _ _ _
  have hz0 : w0.heap.size = w.heap.size + 1 := by rw [← hw0]; simp
  have hr0 := hr.new hb0
  have HW0 := Lib.hid hw0
  have HZ0 := Lib.hid hz0
  clear hpb hpA hpn hpc hpl hpT hr hw0 hz0
  go_enter Try.func20, Try.ntmps20
  have c0 := hB0.cell 0
  rw [← HW0.out] at c0
  simp at c0
  go_wp2_with fail
  rw [HW0.out]
  clear c0
  go_loopw [9, 14] (fun ov iv wr => ∃ (i : Nat) (Ao : Option Addr) (No co : Nat) (m : List (Fin p.n)), iv = .int .i64 i ∧ i ≤ n ∧ ov = .slice Ao No co ∧ Hid (No = m.length ∧ m.length ≤ i ∧ m = p.pls k nd i) ∧ IRow wr w0.heap.size (.slice Ao No co) m ∧ Below w0.heap.size w0 wr) (fun _ iv _ => n - (intOf iv).toNat)
  case atStart => exact ⟨0, none, 0, 0, [], rfl, by omega, rfl, Lib.hid (by simp [Cap.pls]), IRow.nil _ _ _, Below.refl _ _⟩
  case round =>
    obtain ⟨i, Ao, No, co, m, rfl, hi, rfl, HS, hO, hb⟩ := hrel
    by_cases hlt : i < n
    · have hlt' : i < l.length := by rw [HN.out]; exact hlt
      have hltp : i < p.n := by rw [HPN.out]; exact hlt
      obtain ⟨ad, rfl, _, _, c0, c1, c2, c3, c4, c5, c6, c7, c8, c9, c10, c11, c12, c13⟩ := (hr0.new hb).cells hlt'
      obtain ⟨x, hx⟩ : ∃ x, x = l[i] := ⟨_, rfl⟩
      have HX : Hid (p.ev ⟨i, hltp⟩ = x) := Lib.hid (by rw [hx]; exact HEV.out i hltp hlt')
      rw [← hx] at c0 c1 c2 c3 c4 c5 c6 c7 c8 c9 c10 c11 c12 c13
      clear hx
      obtain ⟨F, Md, Ax, cx⟩ := x
      simp only at c0 c1 c2 c3 c4 c5 c6 c7 c8 c9 c10 c11 c12 c13
      obtain ⟨q, hq⟩ : ∃ q, Md.length = q := ⟨_, rfl⟩
      rw [hq] at c13
      obtain ⟨w1, hw1⟩ : ∃ W, wr.alloc (.cells (ecs F Ax q cx) 46) = W := ⟨_, rfl⟩
      have hb1 : Below wr.heap.size wr w1 := by rw [← hw1]; exact b_alloc _ _
      have hO1 := hO.new hb1
      have hb01 := below_new hb hb1
      have hs1 := hb01.size
      have HW1 := Lib.hid hw1
      clear hq hw1
      by_cases hs : F 3 = 1 ∧ F 4 = k ∧ F 0 = nd
      · have h3' : (F 3 == 1) = true := by simpa using hs.1
        have h4' : (F 4 == k) = true := by simpa using hs.2.1
        have h0' : (F 0 == nd) = true := by simpa using hs.2.2
        have HY : Hid (p.pls k nd (i + 1) = p.pls k nd i ++ [⟨i, hltp⟩]) := Lib.hid (Cap.pls_yes hltp (by rw [HX.out]; exact hs))
        clear hs
        have hz1 : w1.heap.size = wr.heap.size + 1 := by rw [← HW1.out]; simp
        have hlit : Rds (w1.alloc (.cells #[.int .i64 i] 3)) (fun _ => True) (some ⟨w1.heap.size, 0, none⟩) (ivs [(⟨i, hltp⟩ : Fin p.n)]) := fun j u hu => ⟨_, rfl, trivial, by
          have hj : j = 0 := by
            rcases Nat.eq_zero_or_pos j with h | h
            · exact h
            · rw [List.getElem?_eq_none (by simp [ivs]; omega)] at hu; cases hu
          subst hj
          rw [M.addMk, Nat.zero_add, (Blo.made w1 3 #[.int .i64 i]).cell 0]
          exact hu⟩
        rw [hz1, ← HW1.out] at hlit
        have hO2 : IRow ((wr.alloc (.cells (ecs F Ax q cx) 46)).alloc (.cells #[.int .i64 i] 3)) w0.heap.size (.slice Ao No co) m := by rw [HW1.out]; exact hO1.new (b_alloc _ _)
        have hmm : m.length ≤ 900000 := by have := HS.out.2.1; omega
        have hB2 : w0.heap.size ≤ ((wr.alloc (.cells (ecs F Ax q cx) 46)).alloc (.cells #[.int .i64 i] 3)).heap.size := by rw [HW1.out]; simp; omega
        clear hz1 hO hO1
        go_wp2_with (at_builtin; refine wpList_papp _ rfl _ _ rfl w0.heap.size _ m rfl hO2 (fun _ => True) _ 1 1 [⟨i, hltp⟩] rfl rfl hlit (by simp; omega) hB2 ?_)
        intro v3 w3 hrow3 hg3 hv3
        have hb03 : Below w0.heap.size w0 w3 := by
          have h1 := below_new hb01 (b_alloc w1 (.cells #[.int .i64 i] 3))
          rw [← HW1.out] at h1
          exact h1.grown hg3 h1.size (fun k hk => (hO2.lt k hk).1)
        obtain ⟨A3, c3', rfl, _⟩ := hrow3.form
        obtain ⟨N3, hN3⟩ : ∃ N, N = (m ++ [(⟨i, hltp⟩ : Fin p.n)]).length := ⟨_, rfl⟩
        rw [← hN3] at hrow3 ⊢
        have HS3 : Hid (N3 = (m ++ [(⟨i, hltp⟩ : Fin p.n)]).length ∧ (m ++ [(⟨i, hltp⟩ : Fin p.n)]).length ≤ i + 1 ∧ m ++ [(⟨i, hltp⟩ : Fin p.n)] = p.pls k nd (i + 1)) := Lib.hid ⟨hN3, by have := HS.out.2.1; simp; omega, by rw [HY.out, ← HS.out.2.2]⟩
        clear hN3 hg3 hv3 hlit hO2 hb01 hb hb1
        go_wp2
        go_roundw
        case rel => exact ⟨i + 1, A3, N3, c3', _, by go_num, by omega, rfl, HS3, hrow3, hb03⟩
        case measure => simp [intOf]; omega
      · have HY : Hid (No = m.length ∧ m.length ≤ i + 1 ∧ m = p.pls k nd (i + 1)) := Lib.hid ⟨HS.out.1, by have := HS.out.2.1; omega, by rw [Cap.pls_no hltp (by rw [HX.out]; exact hs)]; exact HS.out.2.2⟩
        have hb01' := hb01
        by_cases h3 : F 3 = 1
        · have h3' : (F 3 == 1) = true := by simpa using h3
          by_cases h4 : F 4 = k
          · have h4' : (F 4 == k) = true := by simpa using h4
            have h0 : ¬ F 0 = nd := fun h => hs ⟨h3, h4, h⟩
            have h0' : (F 0 == nd) = false := by simpa using h0
            clear hs h3 h4 h0 hO hb
            go_wp2
            go_roundw
            case rel => exact ⟨i + 1, Ao, No, co, m, by go_num, by omega, rfl, HY, by rw [HW1.out]; exact hO1, by rw [HW1.out]; exact hb01'⟩
            case measure => simp [intOf]; omega
          · have h4' : (F 4 == k) = false := by simpa using h4
            clear hs h3 h4 hO hb
            go_wp2
            go_roundw
            case rel => exact ⟨i + 1, Ao, No, co, m, by go_num, by omega, rfl, HY, by rw [HW1.out]; exact hO1, by rw [HW1.out]; exact hb01'⟩
            case measure => simp [intOf]; omega
        · have h3' : (F 3 == 1) = false := by simpa using h3
          clear hs h3 hO hb
          go_wp2
          go_roundw
          case rel => exact ⟨i + 1, Ao, No, co, m, by go_num, by omega, rfl, HY, by rw [HW1.out]; exact hO1, by rw [HW1.out]; exact hb01'⟩
          case measure => simp [intOf]; omega
    · have HE : Hid (No = (p.pls k nd p.n).length ∧ m = p.pls k nd p.n) := Lib.hid (by
        have h1 := HS.out
        have e : p.pls k nd p.n = p.pls k nd i := congrArg (p.pls k nd) (by rw [HPN.out]; omega)
        rw [e]
        exact ⟨by rw [h1.1, ← h1.2.2], h1.2.2⟩)
      have hBw : Blo wr w.heap.size 22 #[.slice A n c] := hB0.new hb
      have hbw := below_new hb0 hb
      have hC := HPL.out wr hbw hBw
      have hNo : No ≤ 900000 := by
        have h1 := HE.out.1
        have h2 := Cap.pls_len p k nd (Nat.le_refl p.n)
        have h3 := HPN.out
        omega
      have HI : Hid (∃ ls : List (Fin p.n), ls = P.isort (ltI p) (p.pls k nd p.n) ∧ ls.length = No) := Lib.hid ⟨_, rfl, by rw [P.isort_len]; exact HE.out.1.symm⟩
      obtain ⟨ls, hls, hln⟩ := HI.out
      have HLS := Lib.hid hls
      have HLN := Lib.hid hln
      have key : Calls Try.prog 29 #[.slice Ao No co, .func (.func 30) #[] #[.pointer (some ⟨w.heap.size, 0, none⟩)]] wr fun e w' => e = .returned (.tuple #[]) ∧ Rds w' (fun b => w.heap.size ≤ b) Ao (ivs ls) ∧ Below w.heap.size w w' := by
        have e0 : cmpV p = .func (.func 30) #[] #[.pointer (some ⟨w.heap.size, 0, none⟩)] := by unfold cmpV; rw [HB.out]
        rw [← e0]
        by_cases h0 : No = 0
        · subst h0
          refine (sortstable_none co p Ao wr).mono ?_
          rintro e w3 ⟨rfl, rfl⟩
          have : ls = [] := List.eq_nil_of_length_eq_zero HLN.out
          rw [this]
          exact ⟨rfl, Rds.nil, hbw⟩
        · obtain ⟨g, rfl, hgb, hS2⟩ := IRow.srow hO h0
          have hg0 : w.heap.size < g := by rw [HZ0.out] at hgb; omega
          refine (sortstable_any g No co p m wr (by rw [HE.out.2]; exact HE.out.1.symm) hS2 hC (HOF.out g hg0) hNo).mono ?_
          rintro e w3 ⟨rfl, l', hS3, hl', hg3⟩
          rw [hl', HE.out.2, ← HLS.out] at hS3
          exact ⟨rfl, hS3.rds.mono (fun b hb => by rw [hb]; omega), hbw.grown hg3 hbw.size (fun k hk => by injection hk with hk; omega)⟩
      have HK := Lib.hid key
      have HFM := Lib.hid hO.form
      clear key hC hBw hbw hls hln hb hO hB0 hb0 hr0
      go_wp2_with fail
      refine HK.out.mono ?_
      rintro e w1 ⟨rfl, hR1, hb1⟩
      go_wp2_with fail
      refine (within_any sz 0 (No : Int) w1).mono ?_
      rintro e w2 ⟨rfl, rfl⟩
      have HQ : Hid (∃ r : Nat, S.within sz 0 (No : Int) = (r : Int) ∧ r ≤ No ∧ ls.take r = ls.take sz.toNat) := Lib.hid (by
        unfold S.within
        by_cases g1 : (No : Int) < sz
        · exact ⟨No, by rw [if_pos g1], Nat.le_refl _, by rw [List.take_of_length_le (by rw [HLN.out]; exact Nat.le_refl _), List.take_of_length_le (by rw [HLN.out]; omega)]⟩
        · by_cases g2 : sz < 0
          · exact ⟨0, by rw [if_neg g1, if_pos g2]; rfl, Nat.zero_le _, by rw [show sz.toNat = 0 by omega]⟩
          · exact ⟨sz.toNat, by rw [if_neg g1, if_neg g2]; omega, by omega, rfl⟩)
      obtain ⟨r, hr1, hr2, hr3⟩ := HQ.out
      rw [hr1]
      have hrc : r ≤ co := by
        obtain ⟨_, _, e, h, _⟩ := HFM.out
        injection e with _ e2 e3
        omega
      have hcut := fun W => run_ito Ao No co r hrc W
      have hcut2 := fun W => run_atI (hcut W)
      have HR2 := Lib.hid hr2
      have HR3 := Lib.hid hr3
      clear hr1 hr2 hr3 HQ hrc
      have hrl : Int.toNat (r : Int) = r := Int.toNat_natCast r
      go_wp2
      go_ret
      refine ⟨Ao, r, co, ls.take r, rfl, by rw [List.length_take, HLN.out]; exact Nat.min_eq_left HR2.out, ?_, ?_, hb1⟩
      · rw [HR3.out, HLS.out, Cap.newest]
      · unfold ivs
        rw [List.map_take]
        exact hR1.take r
end Go.Proofs.Ytodlifbhpgphcaa
