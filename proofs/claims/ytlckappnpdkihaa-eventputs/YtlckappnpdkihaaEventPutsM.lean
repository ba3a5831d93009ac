/- The walk of EventPuts. -/
import Derived.Test.YtlckappnpdkihaaEvAlive
import Derived.Test.YtlckappnpdkihaaEvArgs2
import Derived.Test.YtlckappnpdkihaaEvFinP
import Derived.Test.YtlckappnpdkihaaEvRefSames
namespace Go.Proofs.Ytlckappnpdkihaa
set_option linter.unusedVariables false
set_option linter.unusedSimpArgs false
open Go.ChangeShapes Go.WideShapes Go.ChangeAt Go.RowKit

set_option maxRecDepth 100000 in
set_option maxHeartbeats 8000000 in
theorem puts_main (A : Option Addr) (n c : Nat) (l : List EvV) (w : World) (hA : EvsIn w A n c l) :
    Calls Try.prog 4 #[.slice A n c] w fun e w' => e = .returned (.bool true) ∧ Below w.heap.size w w' := by
  obtain ⟨hn, hnc, hcm, hr, hmk⟩ := hA
  have hnm : n ≤ maxLen := by omega
  have HN := Lib.hid hn
  have HMK := Lib.hid hmk
  clear hn hmk hnc hcm
  go_enter Try.func4, Try.ntmps4
  go_wp2_with fail
  refine (evalive_any _).mono ?_
  rintro e w1 ⟨rfl, hb1⟩
  have hgr := great_any _ A n c l w1 HN.out (hr.new hb1) hnm
  go_wp2_with fail
  refine hgr.mono ?_
  rintro e w2 ⟨b, rfl, hb2, hG⟩
  have hb02 := below_new hb1 hb2
  have hr2 := hr.new hb02
  cases b with
  | true =>
    clear hgr hG
    go_wp2
    go_ret
    exact ⟨rfl, hb02⟩
  | false =>
    have hbk : bulk l ≤ 3000 := hG rfl HMK.out
    have hn3 : n ≤ 3000 := by have := bulk_len l; rw [HN.out] at this; omega
    have hml : ∀ e ∈ l, e.M.length ≤ 1000000 := fun e he => by have := bulk_mem he; omega
    have hcp := ecopies_any _ A n c l w2 HN.out hr2 (by omega) hml
    have HML := Lib.hid hml
    have HBK := Lib.hid hbk
    clear hgr hG hb1 hb2 hbk hml
    go_wp2_with fail
    refine hcp.mono ?_
    unfold EvsPost
    rw [plain_len, HN.out]
    rintro e w3 ⟨Ai, ci, m, rfl, hm, hO, hb3⟩
    have hb03 := below_new hb02 hb3
    have hr3 := hr2.new hb3
    have hmn : m.length = n := by rw [← plain_len m, hm, plain_len, HN.out]
    have hmb : bulk m ≤ 3000 := by rw [bulk_plain hm]; exact HBK.out
    have hmm : ∀ e ∈ m, e.M.length ≤ 1000000 := fun e he => by have := bulk_mem he; omega
    have hpa := evputall_any _ Ai n ci m w3 hmn hO.erds hnm hmb
    have HM := Lib.hid hm
    have HMN := Lib.hid hmn
    have HMM := Lib.hid hmm
    rw [hm] at hpa
    clear hcp hm hmn hmb hmm hb3 hr2
    go_wp2_with fail
    refine hpa.mono ?_
    rintro e w4 ⟨Ab, Nb, cb, rfl, hNb, hob, hb4⟩
    have hb04 := below_new hb03 hb4
    have hr4 := hr3.new hb4
    have hO4 := hO.new hb4
    have hpr := eputall_any _ A n c l w4 HN.out hr4 hnm HML.out
    have hlb := putAB_len HBK.out
    obtain ⟨L, hL⟩ : ∃ L, L = E.putAB (plain l) := ⟨_, rfl⟩
    obtain ⟨x, hx⟩ : ∃ x, x = E.putAE (plain l) := ⟨_, rfl⟩
    rw [← hL, ← hx] at hpr
    rw [← hL] at hNb hob hlb
    rw [← hx]
    have HNb := Lib.hid hNb
    clear hL hx hpa hO hr3 hb03 hNb
    go_wp2_with fail
    refine hpr.mono ?_
    rintro e w5 ⟨Ac, Nc, cc, rfl, hNc, hoc, hb5⟩
    have hb05 := below_new hb04 hb5
    have hr5 := hr4.new hb5
    have hO5 := hO4.new hb5
    have hsm := same_yes _ _ Ab Ac cb cc L w5 ((own_rds hob).new hb5) (own_rds hoc) (by omega)
    rw [← HNb.out] at hsm hNc
    rw [hNc]
    have hxx : (x != x) = false := by simp
    clear hpr hb04 hr4 hO4 hNc hob hoc hlb hb4 hb5
    go_wp2_with fail
    refine hsm.mono ?_
    rintro e w6 ⟨rfl, hd6⟩
    have hb6 : Below w5.heap.size w5 w6 := hd6.below _
    have hb06 := below_new hb05 hb6
    have hr6 := hr5.new hb6
    have hO6 := hO5.new hb6
    clear hsm hd6 hb05 hr5 hO5 hb6
    go_wp2_with fail
    go_loopw [41] (fun iv wr => ∃ i : Nat, iv = .int .i64 i ∧ i ≤ n ∧ Below w6.heap.size w6 wr) (fun iv _ => n - (intOf iv).toNat)
    case atStart => exact ⟨0, rfl, by omega, Below.refl _ _⟩
    case round =>
      obtain ⟨i, rfl, hi, hbr⟩ := hrel
      by_cases hlt : i < n
      · have hi1 : (i : Int) < (n : Int) := by omega
        have hlm : i < m.length := by rw [HMN.out]; exact hlt
        have hll : i < l.length := by rw [HN.out]; exact hlt
        have hFM : m[i].F = l[i].F ∧ m[i].M = l[i].M := by
          have h1 : (plain m)[i]? = (plain l)[i]? := by rw [HM.out]
          simp [plain, hlm, hll] at h1
          exact h1
        obtain ⟨ad, rfl, _, hrx, c0, c1, c2, c3, c4, c5, c6, c7, c8, c9, c10, c11, c12, c13⟩ := (hO6.new hbr).erds.cells hlm
        obtain ⟨x, hx⟩ : ∃ x, x = m[i] := ⟨_, rfl⟩
        obtain ⟨y, hy⟩ : ∃ y, y = l[i] := ⟨_, rfl⟩
        rw [← hx] at hrx c0 c1 c2 c3 c4 c5 c6 c7 c8 c9 c10 c11 c12 c13
        rw [← hx, ← hy] at hFM
        have hxl : x.M.length ≤ 1000000 := by rw [hx]; exact HMM.out _ (List.getElem_mem hlm)
        have HY := Lib.hid hy
        obtain ⟨F, M, Ax, cx⟩ := x
        obtain ⟨G, M', Ay, cy⟩ := y
        simp only at hrx c0 c1 c2 c3 c4 c5 c6 c7 c8 c9 c10 c11 c12 c13 hxl hFM
        obtain ⟨rfl, rfl⟩ := hFM
        obtain ⟨q, hq⟩ : ∃ q, M.length = q := ⟨_, rfl⟩
        rw [hq] at c13 hxl
        have HQ := Lib.hid hq
        obtain ⟨w7, hw7⟩ : ∃ W, wr.alloc (.cells (ecs F Ax q cx) 28) = W := ⟨_, rfl⟩
        obtain ⟨g7, hg7⟩ : ∃ g, g = wr.heap.size := ⟨_, rfl⟩
        have hb7 : Below wr.heap.size wr w7 := by rw [← hw7]; exact b_alloc _ _
        have hX7 : Blo w7 g7 28 (ecs F Ax q cx) := by rw [← hw7, hg7]; exact Blo.made _ _ _
        have hput := evput_any _ F Ax q cx M w7 hq (hrx.new hb7) (by unfold maxLen; omega)
        have hlb := putB_len F M
        obtain ⟨P, hP⟩ : ∃ P, P = E.putB F M := ⟨_, rfl⟩
        obtain ⟨z, hz⟩ : ∃ z, z = E.putE F M := ⟨_, rfl⟩
        rw [← hP, ← hz] at hput
        rw [← hP] at hlb
        have HP := Lib.hid hP
        have HZ := Lib.hid hz
        have HW7 := Lib.hid hw7
        have HG7 := Lib.hid hg7
        clear hx hy hq hw7 hg7 hrx hP hz
        go_wp2_with fail
        rw [HW7.out, ← HG7.out]
        clear c0 c1 c2 c3 c4 c5 c6 c7 c8 c9 c10 c11 c12 c13
        obtain ⟨c0, c1, c2, c3, c4, c5, c6, c7, c8, c9, c10, c11, c12, c13⟩ := set14 hX7
        go_wp2_with fail
        refine hput.mono ?_
        rintro e w8 ⟨A8, N8, c8', rfl, hN8, ho8, hb8⟩
        have hb68 := below_new (below_new hbr hb7) hb8
        have HN8 := Lib.hid hN8
        clear hN8
        clear c0 c1 c2 c3 c4 c5 c6 c7 c8 c9 c10 c11 c12 c13 hput hX7
        obtain ⟨bd, rfl, _, hry, c0, c1, c2, c3, c4, c5, c6, c7, c8, c9, c10, c11, c12, c13⟩ := (hr6.new hb68).cells hll
        rw [← HY.out] at hry c0 c1 c2 c3 c4 c5 c6 c7 c8 c9 c10 c11 c12 c13
        simp only at hry c0 c1 c2 c3 c4 c5 c6 c7 c8 c9 c10 c11 c12 c13
        rw [HQ.out] at c13
        have hput2 := eput_any _ F Ay q cy M w8 HQ.out hry (by unfold maxLen; omega)
        rw [← HP.out, ← HZ.out] at hput2
        clear hry
        go_wp2_with fail
        refine hput2.mono ?_
        rintro e w9 ⟨A9, N9, c9', rfl, hN9, ho9, hb9⟩
        have hb69 := below_new hb68 hb9
        have hsm := same_yes _ _ A8 A9 c8' c9' P w9 ((own_rds ho8).new hb9) (own_rds ho9) (by omega)
        rw [← HN8.out] at hsm hN9
        rw [hN9]
        have hzz : (z != z) = false := by simp
        clear c0 c1 c2 c3 c4 c5 c6 c7 c8 c9 c10 c11 c12 c13 hput2 hN9 ho8 ho9 hlb hb8 hb9
        go_wp2_with fail
        refine hsm.mono ?_
        rintro e w10 ⟨rfl, hd10⟩
        have hb610 := below_new hb69 (hd10.below _)
        clear hsm
        go_wp2
        go_roundw
        case rel => exact ⟨i + 1, by go_num, by omega, hb610⟩
        case measure => simp [intOf]; omega
      · have hall := eall_yes _ _ Ai A n ci c m l wr HMN.out (alike_plain HM.out) (hO6.new hbr).erds (hr6.new hbr) hnm HMM.out
        have hb07 := below_new hb06 hbr
        go_wp2_with fail
        refine hall.mono ?_
        rintro e w7 ⟨rfl, hb7⟩
        have hb08 := below_new hb07 hb7
        clear hall
        go_wp2
        go_ret
        exact ⟨rfl, hb08⟩
end Go.Proofs.Ytlckappnpdkihaa
