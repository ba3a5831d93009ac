/- Layer 7, the document's own: GetAll. -/
import Derived.Test.YtlckappnpdkihaaEvRefRds
import Derived.Test.YtlckappnpdkihaaEvR9
namespace Go.Proofs.Ytlckappnpdkihaa
set_option linter.unusedVariables false
set_option linter.unusedSimpArgs false
open Go.ChangeShapes Go.WideShapes Go.ChangeAt Go.RowKit

set_option maxRecDepth 100000 in
set_option maxHeartbeats 4000000 in
theorem egetall_any (S : Nat → Prop) (A : Option Addr) (N c : Nat) (L : List Int) (w : World) (hN : N = L.length) (hc : N ≤ c) (hr : Rds w S A (u8s L)) (hl : L.length ≤ 1000000) (hB : Byt L) :
    Calls Try.prog 28 #[.slice A N c] w (GetsPost7 L w) := by
  obtain ⟨h, hml⟩ := ml_of7 hB hl hr (c := c) (by omega)
  rw [← hN] at hml
  obtain ⟨w2, hw2⟩ : ∃ W, w.alloc (.cells #[.slice A N c, .int .i64 0, .int .i64 0] 77) = W := ⟨_, rfl⟩
  rw [hw2] at hml
  obtain ⟨g, hg⟩ : ∃ q, q = w.heap.size := ⟨_, rfl⟩
  rw [← hg] at hml
  have hb2 : Below w.heap.size w w2 := by rw [← hw2]; exact b_alloc _ _
  have hR := ereadall_any (st := (L, 0)) hml
  rw [← allS_R] at hR
  have hgl := hml.lt
  have hs2 := hb2.size
  have hwg : w.heap.size ≤ g := by omega
  have HE0 : Hid (E.allE L = if (E.allR L).2.2 = 0 then (if (E.allR L).2.1 ≠ [] then 4 else 0) else (E.allR L).2.2) := Lib.hid rfl
  have HM0 : Hid (E.allE L = 0 → E.allM L = (E.allR L).1) := Lib.hid (fun h => by unfold E.allM; rw [if_pos h])
  have HM1 : Hid (E.allE L ≠ 0 → E.allM L = []) := Lib.hid (fun h => by unfold E.allM; rw [if_neg h])
  unfold GotA at hR
  obtain ⟨R, hRR⟩ : ∃ R, R = E.allR L := ⟨_, rfl⟩
  rw [← hRR] at hR HE0 HM0
  obtain ⟨l, s, x⟩ := R
  simp only at hR HE0 HM0
  have HW2 := Lib.hid hw2
  have HG := Lib.hid hg
  have HN := Lib.hid hN
  clear hw2 hg hN hRR hr hl hB
  go_enter Try.func28, Try.ntmps28
  go_wp2_with fail
  rw [HW2.out, ← HG.out]
  refine hR.mono ?_
  rintro e w3 ⟨A3, c3, m, rfl, hm, hO, hr3, hg3⟩
  have hb03 : Below w.heap.size w w3 := hb2.grown hg3 hs2 (fun k hk => by injection hk with hk; omega)
  obtain ⟨k, hk⟩ : ∃ k, k = l.length := ⟨_, rfl⟩
  rw [← hk] at hO ⊢
  have HK := Lib.hid hk
  have Hm := Lib.hid hm
  have hO3 := hO.mono (B' := w.heap.size) (S' := fun b => w.heap.size ≤ b) hs2 (fun b hb => by omega)
  obtain ⟨A5, c5, p5, q0, q1, q2, f2, hq⟩ : ∃ A c, ∃ p : Nat, w3.cell? ⟨g, 0, none⟩ = some (.slice A L.length c) ∧ w3.cell? ⟨g, 1, none⟩ = some (.int .i64 p) ∧ w3.cell? ⟨g, 2, none⟩ = some (.int .i64 x) ∧ w3.frozen? ⟨g, 2, none⟩ = false ∧ s.length + p = L.length := by
    obtain ⟨p, hmr, rfl⟩ := hr3
    have hp := hmr.2.2.2.2.1
    obtain ⟨A, c, z0, z1, z2, _, f2, _⟩ := hmr.cells
    exact ⟨A, c, p, z0, z1, z2, f2, by simp; omega⟩
  clear hR hm hk hml hO hr3
  by_cases hx : x = 0
  · subst hx
    by_cases hll : s = []
    · have hpn : p5 = N := by rw [HN.out]; subst hll; simpa using hq
      have HY : Hid (E.allE L = 0) := Lib.hid (by rw [HE0.out, if_pos rfl, if_neg (fun hh => hh hll)])
      have HM := Lib.hid (HM0.out HY.out)
      subst hpn
      clear hq hll
      go_wp2
      go_ret2
      unfold GetsPost7
      rw [HM.out, HY.out, ← HK.out]
      exact ⟨A3, c3, m, rfl, Hm.out, hO3, hb03⟩
    · have hpn : p5 < N := by rw [HN.out]; have := List.length_pos_iff.2 hll; omega
      have hpi : (p5 : Int) < (N : Int) := by omega
      have HY : Hid (E.allE L = 4) := Lib.hid (by rw [HE0.out, if_pos rfl, if_pos hll])
      have HM := Lib.hid (HM1.out (by rw [HY.out]; decide))
      have k2 : (w3.setCell ⟨g, 2, none⟩ (.int .i64 4)).cell? ⟨g, 2, none⟩ = some (.int .i64 4) := World.cell?_setCell_same (h := q2) ..
      have hb04 : Below w.heap.size w (w3.setCell ⟨g, 2, none⟩ (.int .i64 4)) := hb03.setCell hwg _
      obtain ⟨w4, hw4⟩ : ∃ W, w3.setCell ⟨g, 2, none⟩ (.int .i64 4) = W := ⟨_, rfl⟩
      have HW4 := Lib.hid hw4
      rw [hw4] at hb04
      clear hq hll hw4
      go_wp2_with fail
      rw [HW4.out]
      rw [HW4.out] at k2
      clear q0 q1 q2 f2
      go_quiet (fail)
      obtain ⟨W, hd, hW⟩ : ∃ W, Drew w4 W ∧ w4.drewN nq = W := ⟨_, ⟨nq, rfl⟩, rfl⟩
      rw [hW]
      have hb05 := below_new hb04 (hd.below _)
      go_wp2
      go_ret2
      unfold GetsPost7
      rw [HM.out, HY.out]
      exact ⟨none, 0, [], rfl, rfl, EOwn.nil _ _ _, hb05⟩
  · have hxb : (x == 0) = false := by simpa using hx
    have hxn : (x != 0) = true := by simpa using hx
    have HY : Hid (E.allE L = x) := Lib.hid (by rw [HE0.out, if_neg hx])
    have HM := Lib.hid (HM1.out (by rw [HY.out]; exact hx))
    clear hq hx
    go_wp2_with fail
    go_quiet (fail)
    obtain ⟨W, hd, hW⟩ : ∃ W, Drew w3 W ∧ w3.drewN nq = W := ⟨_, ⟨nq, rfl⟩, rfl⟩
    rw [hW]
    have hb05 := below_new hb03 (hd.below _)
    go_wp2
    go_ret2
    unfold GetsPost7
    rw [HM.out, HY.out]
    exact ⟨none, 0, [], rfl, rfl, EOwn.nil _ _ _, hb05⟩
end Go.Proofs.Ytlckappnpdkihaa
