/- What WindowLoads comes to. -/
import Derived.Test.YtodlifbhpgphcaaWinAlive
import Derived.Test.YtodlifbhpgphcaaWinArgs
import Derived.Test.YtodlifbhpgphcaaEvGreat
namespace Go.Proofs.Ytodlifbhpgphcaa
set_option linter.unusedVariables false
set_option linter.unusedSimpArgs false
open Go.ChangeShapes Go.WideShapes Go.ChangeAt Go.RowKit

theorem box4 {w w' : World} {t : TypeId} {a b c d : Value} (hb : Below (w.alloc (.cells #[a, b, c, d] t)).heap.size (w.alloc (.cells #[a, b, c, d] t)) w') :
    w'.cell? ⟨w.heap.size, 0, none⟩ = some a ∧ w'.cell? ⟨w.heap.size, 1, none⟩ = some b ∧ w'.cell? ⟨w.heap.size, 2, none⟩ = some c ∧ w'.cell? ⟨w.heap.size, 3, none⟩ = some d := by
  have h := (Blo.made w t #[a, b, c, d]).new hb
  exact ⟨h.cell 0, h.cell 1, h.cell 2, h.cell 3⟩
theorem plain_len2 {l m : List EvV} (h : plain m = plain l) : m.length = l.length := by rw [← plain_len, h, plain_len]
theorem plain_memM {l m : List EvV} (h : plain m = plain l) {Q : List D.Dot → Prop} (hl : ∀ e ∈ l, Q e.M) : ∀ e ∈ m, Q e.M := by
  intro e he
  have h1 : (e.F, e.M) ∈ plain m := List.mem_map.2 ⟨e, he, rfl⟩
  rw [h] at h1
  obtain ⟨e', he', h2⟩ := List.mem_map.1 h1
  injection h2 with h3 h4
  rw [← h4]; exact hl e' he'

set_option maxRecDepth 100000 in
set_option maxHeartbeats 4000000 in
theorem winloads_main (A : Option Addr) (n c : Nat) (l : List EvV) (k nd sz : Int) (w : World) (h0 : EvsIn w A n c l) :
    Calls Try.prog 3 #[.agg #[.slice A n c, .int .i64 k, .int .i64 nd, .int .i64 sz]] w fun e w' => e = .returned (.bool true) ∧ Below w.heap.size w w' := by
  obtain ⟨hn, hnc, hcm, hr, hmeek⟩ := h0
  have HN := Lib.hid hn
  have HNC := Lib.hid hnc
  have HCM : Hid (c ≤ maxLen) := Lib.hid hcm
  have HR := Lib.hid hr
  have HME := Lib.hid hmeek
  clear hn hnc hcm hr hmeek
  have hB0 : Below w.heap.size w (w.alloc (.cells #[.slice A n c, .int .i64 k, .int .i64 nd, .int .i64 sz] 24)) := (Below.refl _ _).alloc (Nat.le_refl _) _
  go_enter Try.func3, Try.ntmps3
  go_wp2_with fail
  refine (winalive_any _).mono ?_
  rintro e w1 ⟨rfl, hb⟩
  obtain ⟨c0, c1, c2, c3⟩ := box4 hb
  have hB := below_new hB0 hb
  clear hb hB0
  go_wp2_with fail
  go_quiet (fail)
  obtain ⟨w2, hd, hW⟩ : ∃ W, Drew w1 W ∧ w1.drewN nq = W := ⟨_, ⟨nq, rfl⟩, rfl⟩
  rw [hW]
  have hb02 := hB.trans (hd.below _)
  have HGR := Lib.hid (great_any (· < w.heap.size) A n c l w2 HN.out (HR.out.new hb02) (Nat.le_trans HNC.out HCM.out))
  clear hW hd hB c0 c1 c2 c3
  go_wp2_with fail
  refine HGR.out.mono ?_
  rintro e w3 ⟨b, rfl, hb3, hbk⟩
  have hb03 := below_new hb02 hb3
  clear hb02 hb3 HGR
  cases b with
  | true =>
    clear hbk
    go_wp2
    go_ret
    exact ⟨rfl, hb03⟩
  | false =>
    have HBK : Hid (bulk l ≤ 3000) := Lib.hid (hbk rfl HME.out)
    clear hbk
    by_cases h60 : 300 < n
    · have h60' : (300 : Int) < (n : Int) := by omega
      go_wp2
      go_ret
      exact ⟨rfl, hb03⟩
    · have h60' : ¬ (300 : Int) < (n : Int) := by omega
      have HEM : Hid (∀ e ∈ l, e.M.length ≤ 1000000) := Lib.hid (fun e he => by have := bulk_mem he; have := HBK.out; omega)
      have HCP := Lib.hid (ecopies_any (· < w.heap.size) A n c l w3 HN.out (HR.out.below hb03 (fun b hb _ => hb)) (by omega) HEM.out)
      go_wp2_with fail
      refine HCP.out.mono ?_
      rintro e w4 ⟨A1, c1, m1, rfl, hpl, hO1, hb4⟩
      have hm1 : (plain l).length = n := by rw [plain_len, HN.out]
      rw [hm1] at hO1 ⊢
      have HN1 : Hid (m1.length = n) := Lib.hid (by rw [← plain_len, hpl, hm1])
      have HPL := Lib.hid hpl
      have HE1 : Hid (∀ e ∈ m1, e.M.length ≤ 1000000) := Lib.hid (plain_memM (Q := fun M => M.length ≤ 1000000) hpl HEM.out)
      have hb04 := below_new hb03 hb4
      have HR1 : Hid (ERds w4 (fun b => b < w4.heap.size) A1 m1) := Lib.hid (hO1.erds.old.mono fun b hb => hb.2)
      have HOF := Lib.hid (pof_any _ A1 n c1 m1 k nd sz w4 HN1.out HR1.out (by omega) HE1.out)
      clear HCP hpl hO1 hb4 hm1 hb03
      go_wp2_with fail
      refine HOF.out.mono ?_
      rintro e w5 ⟨A2, N2, c2, m2, rfl, hN2, hp2, hR2, hb5⟩
      have hb05 := below_new hb04 hb5
      have HRF := Lib.hid (rof_any (· < w.heap.size) A n c l k nd sz w5 HN.out (HR.out.below hb05 (fun b hb _ => hb)) (by omega) HEM.out)
      have HN2 := Lib.hid hN2
      have HP2 := Lib.hid hp2
      have HR2 := Lib.hid hR2
      clear HOF hN2 hp2 hR2
      go_wp2_with fail
      refine HRF.out.mono ?_
      rintro e w6 ⟨A3, N3, c3, m3, rfl, hN3, hp3, hO3, hb6⟩
      have hE2 : plain m2 = plain m3 := by rw [HP2.out, hp3]; exact plain_newQ HPL.out
      obtain rfl : N3 = N2 := by rw [HN2.out, hN3, ← plain_len, ← plain_len, hE2]
      have HL9 : Hid (N3 ≤ 300) := Lib.hid (by
        have h1 := newQ_len k nd sz m1
        have h2 : m2.length = (newQ k nd sz m1).length := by rw [← plain_len, HP2.out, plain_len]
        have h3 := HN1.out
        have h4 := HN2.out
        omega)
      have HAL := Lib.hid (eall_yes _ _ A2 A3 N3 c2 c3 m2 m3 w6 HN2.out.symm (alike_plain hE2) (HR2.out.new hb6) hO3.erds (by have := HL9.out; unfold maxLen; omega) (plain_memM (Q := fun M => M.length ≤ 1000000) HP2.out (fun e he => HE1.out e (mem_newQ he).1)))
      have hb46 := hb5.trans (hb6.mono hb5.size)
      have hb06 := below_new hb05 hb6
      clear HRF hN3 hp3 hO3 hE2 HR2 HN2 HP2 hb5 hb6 hb05
      go_wp2_with fail
      refine HAL.out.mono ?_
      rintro e w7 ⟨rfl, hb7⟩
      have hb47 := below_new hb46 hb7
      have hb07 := below_new hb06 hb7
      have HM1 := Lib.hid (pmean_any _ A1 n c1 m1 k nd sz w7 HN1.out (HR1.out.new hb47) (by omega) HE1.out)
      clear HAL hb46 hb06 hb7
      obtain ⟨y, hy⟩ : ∃ y, y = meanQ (newQ k nd sz m1) := ⟨_, rfl⟩
      have HY : Hid (meanQ (newQ k nd sz l) = y) := Lib.hid (by rw [hy]; exact meanQ_plain (plain_newQ HPL.out.symm))
      rw [← hy] at HM1
      clear hy
      obtain ⟨x, ok⟩ := y
      unfold meanV at HM1
      go_wp2_with fail
      refine HM1.out.mono ?_
      rintro e w8 ⟨rfl, hb8⟩
      have hb48 := below_new hb47 hb8
      have hb08 := below_new hb07 hb8
      have HM2 := rmean_any (· < w.heap.size) A n c l k nd sz w8 HN.out (HR.out.below hb08 (fun b hb _ => hb)) (by omega) HEM.out
      rw [HY.out] at HM2
      unfold meanV at HM2
      have HM2 := Lib.hid HM2
      clear HM1 HY hb47 hb07 hb8
      go_wp2_with fail
      refine HM2.out.mono ?_
      rintro e w9 ⟨rfl, hb9⟩
      have hb49 := below_new hb48 hb9
      have hb09 := below_new hb08 hb9
      have HD1 := pload_any _ A1 n c1 m1 k sz w9 HN1.out (HR1.out.new hb49) (by omega) HE1.out
      obtain ⟨y, hy⟩ : ∃ y, y = loadQ m1 k sz := ⟨_, rfl⟩
      have HY : Hid (loadQ l k sz = y) := Lib.hid (by rw [hy]; exact loadQ_plain HPL.out.symm)
      rw [← hy] at HD1
      clear hy HM2 hb48 hb08 hb9
      obtain ⟨f, g, h⟩ := y
      unfold loadV at HD1
      have HD1 := Lib.hid HD1
      go_wp2_with fail
      refine HD1.out.mono ?_
      rintro e w10 ⟨rfl, hb10⟩
      have hb410 := below_new hb49 hb10
      have hb010 := below_new hb09 hb10
      have HD2 := rload_any (· < w.heap.size) A n c l k sz w10 HN.out (HR.out.below hb010 (fun b hb _ => hb)) (by omega) HEM.out
      rw [HY.out] at HD2
      unfold loadV at HD2
      have HD2 := Lib.hid HD2
      clear HD1 HY hb49 hb09 hb10
      go_wp2_with fail
      refine HD2.out.mono ?_
      rintro e w11 ⟨rfl, hb11⟩
      have hb411 := below_new hb410 hb11
      have hb011 := below_new hb010 hb11
      have HAL := Lib.hid (eall_yes _ _ A1 A n c1 c m1 l w11 HN1.out (alike_plain HPL.out) (HR1.out.new hb411) (HR.out.below hb011 (fun b hb _ => hb)) (by unfold maxLen; omega) HE1.out)
      clear HD2 hb410 hb010 hb11
      go_wp2_with fail
      refine HAL.out.mono ?_
      rintro e w12 ⟨rfl, hb12⟩
      have hbf := below_new hb011 hb12
      clear HAL hb011 hb12 hb411
      go_wp2
      go_ret
      exact ⟨rfl, hbf⟩
end Go.Proofs.Ytodlifbhpgphcaa
