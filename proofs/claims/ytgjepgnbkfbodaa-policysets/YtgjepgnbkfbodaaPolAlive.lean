/- Layer 9, the law's own: alive. -/
import Derived.Test.YtgjepgnbkfbodaaPolWin
import Derived.Test.YtgjepgnbkfbodaaPolAsk
namespace Go.Proofs.Ytgjepgnbkfbodaa
set_option linter.unusedVariables false
set_option linter.unusedSimpArgs false
open Go.ChangeShapes Go.WideShapes Go.ChangeAt Go.RowKit

def fp9 (l : List Int) : Nat → Int := fun j => l.getD j 0
abbrev FA : Nat → Int := fp9 [0, 0, 0, 0, 0, 0, 1, 4, 10, 0, 1, 1, 0]
abbrev F1 : Nat → Int := fp9 [0, 0, 1, 2]
abbrev F2 : Nat → Int := fp9 [0, 0, 2, 2, 0, 0, 1, 4, 10, 0, 1, 1, 0]
theorem ask_a : askN FA 25 = 3 ∧ askE FA = 0 := by decide
theorem ask_b : askN FA 0 = 1 ∧ askE FA = 0 := by decide
theorem ask_c : askN FA 99 = 4 ∧ askE FA = 0 := by decide
theorem ask_d : askN (fp9 []) 1 = 0 ∧ askE (fp9 []) = 2 := by decide
theorem win_a : winV (winOf (sets 0 [⟨F1, [], none, 0⟩, ⟨F2, [], none, 0⟩])) = .tuple #[pv F2, .agg (dcs F2), .bool true] := by rfl
theorem eql_pols (F G : Nat → Int) (W : World) : (binOp .eql 31 (pv F) (pv G)).run Try.prog W = .ok (.bool (F 6 == G 6 && F 7 == G 7 && F 8 == G 8 && F 9 == G 9 && F 10 == G 10 && F 11 == G 11 && F 12 == G 12)) W := by
  rw [run_eql_struct, eqIn_pol F G W]
  rfl

set_option maxRecDepth 100000 in
set_option maxHeartbeats 4000000 in
theorem polalive_any (w : World) : Calls Try.prog 8 #[] w fun e w' => e = .returned (.bool true) ∧ Below w.heap.size w w' := by
  obtain ⟨w1, hw1⟩ : ∃ W, w.alloc (.cells #[.int .i64 1, .int .i64 4, .int .i64 10, .int .i64 0, .int .i64 1, .int .i64 1, .int .i64 0] 31) = W := ⟨_, rfl⟩
  have hb1 : Below w.heap.size w w1 := by rw [← hw1]; exact b_alloc _ _
  have hX1 : Blo w1 w.heap.size 31 (pcs FA) := by rw [← hw1]; exact Blo.made _ _ _
  have ha := fun W => asked_any FA 25 W
  have hb := fun W => asked_any FA 0 W
  have hc := fun W => asked_any FA 99 W
  have hd := fun W => asked_any (fp9 []) 1 W
  rw [ask_a.1, ask_a.2] at ha
  rw [ask_b.1, ask_b.2] at hb
  rw [ask_c.1, ask_c.2] at hc
  rw [ask_d.1, ask_d.2] at hd
  have e1 : pv FA = .agg #[.int .i64 1, .int .i64 4, .int .i64 10, .int .i64 0, .int .i64 1, .int .i64 1, .int .i64 0] := rfl
  have e2 : pv (fp9 []) = .agg #[.int .i64 0, .int .i64 0, .int .i64 0, .int .i64 0, .int .i64 0, .int .i64 0, .int .i64 0] := rfl
  rw [e1] at ha hb hc
  rw [e2] at hd
  have hcell : ∀ W, Blo W w.heap.size 31 (pcs FA) → W.cell? ⟨w.heap.size, 0, none⟩ = some (.int .i64 1) ∧ W.cell? ⟨w.heap.size, 1, none⟩ = some (.int .i64 4) ∧ W.cell? ⟨w.heap.size, 2, none⟩ = some (.int .i64 10) ∧ W.cell? ⟨w.heap.size, 3, none⟩ = some (.int .i64 0) ∧ W.cell? ⟨w.heap.size, 4, none⟩ = some (.int .i64 1) ∧ W.cell? ⟨w.heap.size, 5, none⟩ = some (.int .i64 1) ∧ W.cell? ⟨w.heap.size, 6, none⟩ = some (.int .i64 0) := fun W h =>
    ⟨by simpa [fp9] using h.cell 0, by simpa [fp9] using h.cell 1, by simpa [fp9] using h.cell 2, by simpa [fp9] using h.cell 3, by simpa [fp9] using h.cell 4, by simpa [fp9] using h.cell 5, by simpa [fp9] using h.cell 6⟩
  have HC := Lib.hid hcell
  have HW1 := Lib.hid hw1
  clear hw1 hcell e1 e2
  go_enter Try.func8, Try.ntmps8
  go_wp2_with fail
  refine (ha _).mono ?_
  rintro e w2 ⟨rfl, hb2⟩
  rw [HW1.out] at hb2
  have hb01 := hb1
  clear hb1
  have hX2 := hX1.new hb2
  obtain ⟨k0, k1, k2, k3, k4, k5, k6⟩ := HC.out w2 hX2
  have hb02 := below_new hb01 hb2
  clear hX1 hb2 hb01
  go_wp2_with fail
  refine (hb _).mono ?_
  rintro e w3 ⟨rfl, hb3⟩
  clear k0 k1 k2 k3 k4 k5 k6
  have hX3 := hX2.new hb3
  obtain ⟨k0, k1, k2, k3, k4, k5, k6⟩ := HC.out w3 hX3
  have hb03 := below_new hb02 hb3
  clear hX2 hb3 hb02
  go_wp2_with fail
  refine (hc _).mono ?_
  rintro e w4 ⟨rfl, hb4⟩
  clear k0 k1 k2 k3 k4 k5 k6
  have hX4 := hX3.new hb4
  obtain ⟨k0, k1, k2, k3, k4, k5, k6⟩ := HC.out w4 hX4
  have hb04 := below_new hb03 hb4
  clear hX3 hb4 hb03
  go_wp2_with fail
  refine (hd _).mono ?_
  rintro e w5 ⟨rfl, hb5⟩
  clear k0 k1 k2 k3 k4 k5 k6
  have hX5 := hX4.new hb5
  have hb05 := below_new hb04 hb5
  obtain ⟨k0, k1, k2, k3, k4, k5, k6⟩ := HC.out w5 hX5
  clear hX4 hb04 hb5 ha hb hc hd
  obtain ⟨w6, hw6⟩ : ∃ W, w5.alloc (.cells (ecs F1 none 0 0 ++ ecs F2 none 0 0) 34) = W := ⟨_, rfl⟩
  have hb6 : Below w5.heap.size w5 w6 := by rw [← hw6]; exact b_alloc _ _
  have hL : Blo w6 w5.heap.size 34 (ecs F1 none 0 0 ++ ecs F2 none 0 0) := by rw [← hw6]; exact Blo.made _ _ _
  have hER : ERds w6 (fun _ => True) (some ⟨w5.heap.size, 0, none⟩) [⟨F1, [], none, 0⟩, ⟨F2, [], none, 0⟩] := by
    refine ⟨fun j u hu => ⟨_, rfl, trivial, ?_⟩, fun e he => ?_⟩
    · rw [M.addMk, Nat.zero_add, hL.cell j]
      have e1 : (evs [⟨F1, [], none, 0⟩, ⟨F2, [], none, 0⟩]) = (ecs F1 none 0 0 ++ ecs F2 none 0 0).toList := rfl
      rw [e1] at hu
      simpa using hu
    · simp at he
      rcases he with rfl | rfl
      · exact Rds.nil
      · exact Rds.nil
  have hw := pwinner_any (fun _ => True) _ 2 2 _ 0 w6 rfl hER (by omega)
  rw [win_a] at hw
  have hX6 := hX5.new hb6
  have hb06 := below_new hb05 hb6
  have e28 : (ecs F1 none 0 0 ++ ecs F2 none 0 0) = #[.int .i64 0, .int .i64 0, .int .i64 1, .int .i64 2, .int .i64 0, .int .i64 0, .int .i64 0, .int .i64 0, .int .i64 0, .int .i64 0, .int .i64 0, .int .i64 0, .int .i64 0, .slice none 0 0, .int .i64 0, .int .i64 0, .int .i64 2, .int .i64 2, .int .i64 0, .int .i64 0, .int .i64 1, .int .i64 4, .int .i64 10, .int .i64 0, .int .i64 1, .int .i64 1, .int .i64 0, .slice none 0 0] := rfl
  rw [e28] at hw6
  have e31 : Value.tuple #[pv F2, .agg (dcs F2), .bool true] = .tuple #[.agg #[.int .i64 1, .int .i64 4, .int .i64 10, .int .i64 0, .int .i64 1, .int .i64 1, .int .i64 0], .agg #[.int .i64 0, .int .i64 0], .bool true] := rfl
  rw [e31] at hw
  have HWI := Lib.hid hw
  have HW6 := Lib.hid hw6
  have heq := fun W => eql_pols FA FA W
  have e1 : pv FA = .agg #[.int .i64 1, .int .i64 4, .int .i64 10, .int .i64 0, .int .i64 1, .int .i64 1, .int .i64 0] := rfl
  rw [e1] at heq
  have HE := Lib.hid heq
  clear e28 e31 e1 heq
  clear hw hw6 hER hL hX5 hb05 hb6
  go_wp2_with fail
  rw [HW6.out]
  refine HWI.out.mono ?_
  rintro e w7 ⟨rfl, hb7⟩
  have hX7 := hX6.new hb7
  have hb07 := below_new hb06 hb7
  clear k0 k1 k2 k3 k4 k5 k6
  obtain ⟨w8, hw8⟩ : ∃ W, (w7.alloc (.cells #[.int .i64 1, .int .i64 4, .int .i64 10, .int .i64 0, .int .i64 1, .int .i64 1, .int .i64 0] 31)).alloc (.cells #[.int .i64 0, .int .i64 0] 29) = W := ⟨_, rfl⟩
  have hb8 : Below w7.heap.size w7 w8 := by rw [← hw8]; exact b_alloc2 _ _ _
  obtain ⟨k0, k1, k2, k3, k4, k5, k6⟩ := HC.out w8 (hX7.new hb8)
  have hb08 := below_new hb07 hb8
  rw [← hw8] at k0 k1 k2 k3 k4 k5 k6
  have hq := HE.out ((w7.alloc (.cells #[.int .i64 1, .int .i64 4, .int .i64 10, .int .i64 0, .int .i64 1, .int .i64 1, .int .i64 0] 31)).alloc (.cells #[.int .i64 0, .int .i64 0] 29))
  have HW8 := Lib.hid hw8
  clear hw8 hX6 hX7 hb06 hb7 hb07 hb8
  go_wp2
  go_ret
  rw [HW8.out]
  exact ⟨rfl, hb08⟩
end Go.Proofs.Ytgjepgnbkfbodaa
