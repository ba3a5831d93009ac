/- The walk of EventGets. -/
import Derived.Test.YtlckappnpdkihaaEvAlive
import Derived.Test.YtlckappnpdkihaaEvFin
import Derived.Test.YtlckappnpdkihaaEvRefGets
import Derived.Test.YtlckappnpdkihaaEvRefSames
import Derived.Test.YtlckappnpdkihaaVintSame
namespace Go.Proofs.Ytlckappnpdkihaa
set_option linter.unusedVariables false
set_option linter.unusedSimpArgs false
open Go.ChangeShapes Go.WideShapes Go.ChangeAt Go.RowKit

set_option maxRecDepth 100000 in
set_option maxHeartbeats 8000000 in
theorem gets_main (A : Option Addr) (c : Nat) (L : List Int) (w : World) (hc : L.length ≤ c) (hr : Rds w (· < w.heap.size) A (u8s L)) (hB : Byt L) :
    Calls Try.prog 5 #[.slice A L.length c] w fun e w' => e = .returned (.bool true) ∧ Below w.heap.size w w' := by
  go_enter Try.func5, Try.ntmps5
  go_wp2_with fail
  refine (evalive_any _).mono ?_
  rintro e w1 ⟨rfl, hb1⟩
  by_cases hl : 5000 < L.length
  · have hl' : (5000 : Int) < (L.length : Int) := by omega
    go_wp2
    go_ret
    exact ⟨rfl, hb1⟩
  have hl' : ¬ (5000 : Int) < (L.length : Int) := by omega
  have hr1 := hr.new hb1
  have hlt := lent_any _ A c L w1 hr1 (by omega)
  go_wp2_with fail
  refine hlt.mono ?_
  rintro e w2 ⟨g, rfl, hg, hbl, hb2⟩
  have hb02 := below_new hb1 hb2
  have hr2 := hr1.new hb2
  have hin2 := lent_rds hbl
  have hget := evget_any _ (some ⟨g, 0, none⟩) L.length (L.length + 4) L w2 rfl hin2 (by omega) hB
  have hm96 := getM_len L
  have hl5 : L.length ≤ 5000 := by omega
  unfold GetPost7 at hget
  obtain ⟨F, hF⟩ : ∃ F, F = E.getF L := ⟨_, rfl⟩
  obtain ⟨M, hM⟩ : ∃ M, M = E.getM L := ⟨_, rfl⟩
  obtain ⟨q, hq⟩ : ∃ q, q = M.length := ⟨_, rfl⟩
  obtain ⟨x, hx⟩ : ∃ x, x = E.gE L := ⟨_, rfl⟩
  rw [← hF, ← hM, ← hq, ← hx] at hget
  rw [← hM, ← hq] at hm96
  have HF := Lib.hid hF
  have HM := Lib.hid hM
  have HQ := Lib.hid hq
  have HX := Lib.hid hx
  have HB := Lib.hid hB
  have HC := Lib.hid hc
  clear hF hM hq hx hlt hb1 hr1 hl hl' hB hc hb2
  go_wp2_with fail
  refine hget.mono ?_
  rintro e w3 ⟨A3, c3, rfl, hD3, hb3⟩
  obtain ⟨w4, hw4⟩ : ∃ W, w3.alloc (.cells (ecs F A3 q c3) 28) = W := ⟨_, rfl⟩
  obtain ⟨g4, hg4⟩ : ∃ k, k = w3.heap.size := ⟨_, rfl⟩
  have hb4 : Below w3.heap.size w3 w4 := by rw [← hw4]; exact b_alloc _ _
  have hX4 : Blo w4 g4 28 (ecs F A3 q c3) := by rw [← hw4, hg4]; exact Blo.made _ _ _
  have hb24 := below_new hb3 hb4
  have hb04 := below_new hb02 hb24
  have hr4 := hr2.new hb24
  have hbl4 := hbl.new hb24
  have hD4 := hD3.new hb4
  have hgt := eget_any _ A L.length c L w4 rfl HC.out hr4 (by omega) HB.out
  unfold GetPost7 at hgt
  rw [← HF.out, ← HM.out, ← HQ.out, ← HX.out] at hgt
  have HW4 := Lib.hid hw4
  have HG4 := Lib.hid hg4
  clear hget hw4 hg4 hb02 hr2 hbl hin2 hD3 hb3 hb4 hb24
  go_wp2_with fail
  rw [HW4.out, ← HG4.out]
  refine hgt.mono ?_
  rintro e w5 ⟨A5, c5, rfl, hD5, hb5⟩
  obtain ⟨w6, hw6⟩ : ∃ W, w5.alloc (.cells (ecs F A5 q c5) 28) = W := ⟨_, rfl⟩
  obtain ⟨g6, hg6⟩ : ∃ k, k = w5.heap.size := ⟨_, rfl⟩
  have hb6 : Below w5.heap.size w5 w6 := by rw [← hw6]; exact b_alloc _ _
  have hY6 : Blo w6 g6 28 (ecs F A5 q c5) := by rw [← hw6, hg6]; exact Blo.made _ _ _
  have hb46 := below_new hb5 hb6
  have hb06 := below_new hb04 hb46
  have hr6 := hr4.new hb46
  have hbl6 := hbl4.new hb46
  have hD46 := hD4.new hb46
  have hD6 := hD5.new hb6
  have hX6 := hX4.new hb46
  have hga := evgetall_any _ (some ⟨g, 0, none⟩) L.length (L.length + 4) L w6 rfl (lent_rds hbl6) (by omega) HB.out
  unfold GetsPost7 at hga
  have hk768 := allM_len L
  obtain ⟨Q, hQ⟩ : ∃ Q, Q = E.allM L := ⟨_, rfl⟩
  obtain ⟨k, hk⟩ : ∃ k, k = Q.length := ⟨_, rfl⟩
  obtain ⟨y, hy⟩ : ∃ y, y = E.allE L := ⟨_, rfl⟩
  rw [← hQ, ← hk, ← hy] at hga
  rw [← hQ, ← hk] at hk768
  have HQQ := Lib.hid hQ
  have HKK := Lib.hid hk
  have HY := Lib.hid hy
  have HW6 := Lib.hid hw6
  have HG6 := Lib.hid hg6
  clear hgt hw6 hg6 hb04 hr4 hbl4 hD4 hD5 hb5 hb6 hb46 hX4 hQ hk hy
  go_wp2_with fail
  rw [HW6.out, ← HG6.out]
  refine hga.mono ?_
  rintro e w7 ⟨A7, c7, m7, rfl, hm7, hO7, hb7⟩
  have hb07 := below_new hb06 hb7
  have hr7 := hr6.new hb7
  have hbl7 := hbl6.new hb7
  have hD47 := hD46.new hb7
  have hD7 := hD6.new hb7
  have hX7 := hX6.new hb7
  have hY7 := hY6.new hb7
  have Hm7 := Lib.hid hm7
  have hgb := egetall_any _ A L.length c L w7 rfl HC.out hr7 (by omega) HB.out
  unfold GetsPost7 at hgb
  rw [← HQQ.out, ← HKK.out, ← HY.out] at hgb
  clear hga hb06 hr6 hbl6 hD46 hD6 hX6 hY6 hb7 hm7
  go_wp2_with fail
  refine hgb.mono ?_
  rintro e w8 ⟨A8, c8, m8, rfl, hm8, hO8, hb8⟩
  have hb08 := below_new hb07 hb8
  have hr8 := hr7.new hb8
  have hbl8 := hbl7.new hb8
  have hD48 := hD47.new hb8
  have hD8 := hD7.new hb8
  have hX8 := hX7.new hb8
  have hY8 := hY7.new hb8
  have hO78 := hO7.new hb8
  have Hm8 := Lib.hid hm8
  have hsame := esame_yes _ _ F A3 A5 q c3 c5 M w8 HQ.out.symm hD48.rdsT hD8.rdsT (by omega)
  obtain ⟨z0, z1, z2, z3, z4, z5, z6, z7, z8, z9, z10, z11, z12, z13⟩ := set14 hX8
  obtain ⟨y0, y1, y2, y3, y4, y5, y6, y7, y8, y9, y10, y11, y12, y13⟩ := set14 hY8
  have hxx : (x == x) = true := by simp
  have hyy : (y == y) = true := by simp
  clear hgb hb07 hr7 hbl7 hD47 hD7 hX7 hY7 hO7 hm8 hb8
  go_wp2_with fail
  refine hsame.mono ?_
  rintro e w9 ⟨rfl, hb9⟩
  have hall := eall_yes _ _ A7 A8 k c7 c8 m7 m8 w9 (by rw [HKK.out, ← Hm7.out, plain_len]) (alike_plain (by rw [Hm7.out, Hm8.out])) (hO78.new hb9).erds (hO8.new hb9).erds (by unfold maxLen; omega) (meek_of (by rw [Hm7.out]; exact HQQ.out))
  clear hsame z0 z1 z2 z3 z4 z5 z6 z7 z8 z9 z10 z11 z12 z13 y0 y1 y2 y3 y4 y5 y6 y7 y8 y9 y10 y11 y12 y13
  go_wp2_with fail
  refine hall.mono ?_
  rintro e w10 ⟨rfl, hb10⟩
  have hb810 := below_new hb9 hb10
  have hkept := kept_yes _ A c g L w10 (hbl8.new hb810) (hr8.new hb810) (by omega)
  clear hall
  go_wp2_with fail
  refine hkept.mono ?_
  rintro e w11 ⟨rfl, hd11⟩
  have hb11 := below_new (below_new hb08 hb810) (hd11.below _)
  clear hkept
  go_wp2
  go_ret
  exact ⟨rfl, hb11⟩
end Go.Proofs.Ytlckappnpdkihaa
