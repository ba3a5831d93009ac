/- Layer 6: Count, List, Less, Join, Add: the program's. -/
import Derived.Test.YtedcgfcmhaeldaaDotFace
import Derived.Test.YtedcgfcmhaeldaaDotMath
namespace Go.Proofs.Ytedcgfcmhaeldaa
set_option linter.unusedVariables false
set_option linter.unusedSimpArgs false
open Go.ChangeShapes Go.WideShapes Go.ChangeAt Go.RowKit

/-- A call answers a set and an error. -/
def SetPost2 (r : (Nat → Int) × List D.Dot × Int) (w : World) (e : Ending) (w' : World) : Prop :=
  ∃ A c, e = .returned (.tuple #[sv r.1 A r.2.1.length c, .int .i64 r.2.2]) ∧ DRow w' w.heap.size (.slice A r.2.1.length c) r.2.1 ∧ Below w.heap.size w w'

set_option maxHeartbeats 2000000 in
theorem count_any (S : Nat → Prop) (U : Nat → Int) (A : Option Addr) (n c : Nat) (M : List D.Dot) (w : World) (hn : M.length = n) (hr : Rds w S A (dvs M)) (hl : n ≤ 1000000) :
    Calls Try.prog 39 #[sv U A n c] w fun e w' => e = .returned (.int .i64 (D.cnt U M)) ∧ Below w.heap.size w w' := by
  have HN := Lib.hid hn
  clear hn
  obtain ⟨w1, hw1⟩ : ∃ W, w.alloc (.cells (scs U A n c) 53) = W := ⟨_, rfl⟩
  have hb1 : Below w.heap.size w w1 := by rw [← hw1]; exact b_alloc _ _
  have hSt : Blo w1 w.heap.size 53 (scs U A n c) := by rw [← hw1]; exact Blo.made _ _ _
  have hR := right_any S U A n c M w1 HN.out (hr.new hb1) hl
  have HW := Lib.hid hw1
  clear hw1
  go_enter Try.func39, Try.ntmps39
  go_wp2_with fail
  rw [HW.out]
  refine hR.mono ?_
  rintro e w2 ⟨rfl, hb2⟩
  have hSt2 := hSt.new hb2
  obtain ⟨z0, z1, z2, z3, z4, z5, z6, z7, z8⟩ := set9 hSt2
  clear hR
  cases hrt : D.rt U M with
  | false =>
    have HC : Hid (D.cnt U M = 0) := Lib.hid (by unfold D.cnt; rw [hrt]; rfl)
    clear hrt z0 z1 z2 z3 z4 z5 z6 z7 z8
    go_wp2
    go_ret
    exact ⟨ret_int HC.out.symm, below_new hb1 hb2⟩
  | true =>
    have HC : Hid (D.cnt U M = (n : Int) + D.sumU U 8) := Lib.hid (by unfold D.cnt; rw [hrt, HN.out]; rfl)
    have HU : Hid (∀ k, k < 8 → 0 ≤ U k ∧ U k ≤ 96) := Lib.hid (D.rt_iff.1 hrt).1
    clear hrt
    go_wp2
    clear z0 z1 z2 z3 z4 z5 z6 z7 z8
    go_loop [3, 14] (fun nv iv => ∃ k : Nat, iv = .int .i64 k ∧ k ≤ 8 ∧ nv = .int .i64 ((n : Int) + D.sumU U k)) (fun _ iv => 8 - (intOf iv).toNat)
    case atStart => exact ⟨0, rfl, by omega, by simp [D.sumU]⟩
    case round =>
      obtain ⟨k, rfl, hk, rfl⟩ := hrel
      have hs := D.sumU_in HU.out k hk
      by_cases hlt : k < 8
      · have q := fun W => av_at U hlt W
        have hu := HU.out k hlt
        have HS : Hid (D.sumU U (k + 1) = D.sumU U k + U k) := Lib.hid rfl
        generalize U k = x at *
        generalize D.sumU U k = y at *
        go_wp2
        go_round
        case rel => exact ⟨k + 1, by go_num, by omega, by rw [HS.out, Int.add_assoc]⟩
        case measure => simp [intOf]; omega
      · have HE : Hid (D.sumU U k = D.sumU U 8) := Lib.hid (by rw [show k = 8 by omega])
        generalize D.sumU U k = y at *
        go_wp2
        go_ret
        exact ⟨ret_int (by rw [HC.out, HE.out]), below_new hb1 hb2⟩

set_option maxHeartbeats 2000000 in
theorem dlist_any (S : Nat → Prop) (U : Nat → Int) (A : Option Addr) (n c : Nat) (M : List D.Dot) (w : World) (hn : M.length = n) (hr : Rds w S A (dvs M)) (hl : n ≤ 1000000) :
    Calls Try.prog 35 #[sv U A n c] w (DotsPost (D.lst (D.has U M)) w) := by
  have hL := lay_any S U A n c M (w.alloc (.cells (scs U A n c) 53)) hn (hr.alloc _) hl
  generalize HT : D.lst (D.has U M) = T
  have HT' := Lib.hid HT
  clear HT
  go_enter Try.func35, Try.ntmps35
  go_wp2_with fail
  refine hL.mono ?_
  rintro e w2 ⟨g, rfl, ho, hg, hb⟩
  have hl2 := list_any w2 ho
  rw [HT'.out] at hl2
  clear hL
  go_wp2_with fail
  refine hl2.mono ?_
  rintro e w3 ⟨A', c', rfl, hR, hb3⟩
  clear hl2
  have hsz := hb.size
  go_wp2
  go_ret
  exact ⟨A', c', rfl, hR.mono (by simp at hsz; omega), below_new (below_new (b_alloc _ _) hb) hb3⟩

set_option maxHeartbeats 2000000 in
theorem dless_any (S S' : Nat → Prop) (U : Nat → Int) (A : Option Addr) (n c : Nat) (M : List D.Dot) (U' : Nat → Int) (A' : Option Addr) (n' c' : Nat) (M' : List D.Dot) (w : World) (hn : M.length = n) (hr : Rds w S A (dvs M)) (hl : n ≤ 1000000) (hn' : M'.length = n') (hr' : Rds w S' A' (dvs M')) (hl' : n' ≤ 1000000) :
    Calls Try.prog 34 #[sv U A n c, sv U' A' n' c'] w (DotsPost (D.lst (D.less U M U' M')) w) := by
  obtain ⟨w1, hw1⟩ : ∃ W, (w.alloc (.cells (scs U A n c) 53)).alloc (.cells (scs U' A' n' c') 53) = W := ⟨_, rfl⟩
  have hb1 : Below w.heap.size w w1 := by rw [← hw1]; exact b_alloc2 _ _ _
  have hz1 : w1.heap.size = w.heap.size + 2 := by rw [← hw1]; simp
  have hX : Blo w1 w.heap.size 53 (scs U A n c) := by rw [← hw1]; exact (Blo.made _ _ _).alloc _
  have hY : Blo w1 (w.heap.size + 1) 53 (scs U' A' n' c') := by
    rw [← hw1]
    have := Blo.made (w.alloc (.cells (scs U A n c) 53)) 53 (scs U' A' n' c')
    simpa using this
  have hL := lay_any S U A n c M w1 hn (hr.new hb1) hl
  have hr1' := hr'.old.new hb1
  obtain ⟨z0, z1, z2, z3, z4, z5, z6, z7, z8⟩ := set9 hX
  generalize HT : D.lst (D.less U M U' M') = T
  have HT' := Lib.hid HT
  have HN' := Lib.hid hn'
  have HW := Lib.hid hw1
  have hmf : ∀ (fn : Fn) (first cap : Array Value) (w : World), (Instr.makeFunc fn first cap).run Try.prog w = .ok (.func fn first cap) w := fun _ _ _ _ => rfl
  clear HT hw1 hn hn'
  go_enter Try.func34, Try.ntmps34
  go_wp2_with fail
  rw [HW.out]
  go_wp2_with fail
  refine hL.mono ?_
  rintro e w2 ⟨g, rfl, ho, hg, hb2⟩
  have hY2 := hY.new hb2
  clear z0 z1 z2 z3 z4 z5 z6 z7 z8 hL
  obtain ⟨z0, z1, z2, z3, z4, z5, z6, z7, z8⟩ := set9 hY2
  have hov := over_any (K := 59) (.inr ⟨rfl, rfl⟩) U' A' n' c' M' w2 HN'.out ((hr1'.new hb2).mono fun b hb => by have := hb.2; omega) hl' ho
  go_wp2_with fail
  refine hov.mono ?_
  rintro e w3 ⟨rfl, ho3, hg3⟩
  have hl2 := list_any w3 ho3
  have e3 : D.lst (into false U' M' (D.has U M)) = T := HT'.out
  rw [e3] at hl2
  clear hov z0 z1 z2 z3 z4 z5 z6 z7 z8 e3
  have hsz := hb2.size
  have hb3 : Below w.heap.size w w3 := (below_new hb1 hb2).grown hg3 (by omega) (fun k hk => by injection hk with hk; omega)
  go_wp2_with fail
  refine hl2.mono ?_
  rintro e w4 ⟨B, d, rfl, hR, hb4⟩
  clear hl2
  have hsz3 := hb3.size
  go_wp2
  go_ret
  exact ⟨B, d, rfl, hR.mono hsz3, below_new hb3 hb4⟩
end Go.Proofs.Ytedcgfcmhaeldaa
