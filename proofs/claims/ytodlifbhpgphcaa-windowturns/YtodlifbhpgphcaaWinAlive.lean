/- Layer 10, the law's own: sample, alive. -/
import Derived.Test.YtodlifbhpgphcaaWinP
namespace Go.Proofs.Ytodlifbhpgphcaa
set_option linter.unusedVariables false
set_option linter.unusedSimpArgs false
open Go.ChangeShapes Go.WideShapes Go.ChangeAt Go.RowKit

/-- What a sample says. -/
def sF (nd sq v : Int) : Nat → Int := fun j => [nd, sq, 1, 1, 0, v].getD j 0
theorem sF_ev (nd sq v : Int) : ev (sF nd sq v) none 0 0 = .agg #[.int .i64 nd, .int .i64 sq, .int .i64 1, .int .i64 1, .int .i64 0, .int .i64 v, .int .i64 0, .int .i64 0, .int .i64 0, .int .i64 0, .int .i64 0, .int .i64 0, .int .i64 0, .slice none 0 0] := rfl
set_option maxRecDepth 100000 in
set_option maxHeartbeats 1000000 in
theorem sample_any (nd sq v : Int) (w : World) : Calls Try.prog 17 #[.int .i64 nd, .int .i64 sq, .int .i64 v] w fun e w' => e = .returned (ev (sF nd sq v) none 0 0) ∧ Below w.heap.size w w' := by
  rw [sF_ev]
  go_enter Try.func17, Try.ntmps17
  go_wp2
  obtain ⟨z0, z1, z2, z3, z4, z5, z6, z7, z8, z9, z10, z11, z12, z13⟩ := set14 (Blo.made w 46 (ecs (sF nd sq v) none 0 0))
  simp [sF] at z0 z1 z2 z3 z4 z5 z6 z7 z8 z9 z10 z11 z12 z13
  refine bodyPost_ret (v := .agg #[.int .i64 nd, .int .i64 sq, .int .i64 1, .int .i64 1, .int .i64 0, .int .i64 v, .int .i64 0, .int .i64 0, .int .i64 0, .int .i64 0, .int .i64 0, .int .i64 0, .int .i64 0, .slice none 0 0]) ?_ rfl ?_
  · simp [results, Try.results17, go_sem, z0, z1, z2, z3, z4, z5, z6, z7, z8, z9, z10, z11, z12, z13]
  · exact ⟨rfl, b_alloc _ _⟩
/-- The example's samples. -/
def LA : List EvV := [⟨sF 1 1 4, [], none, 0⟩, ⟨sF 1 2 7, [], none, 0⟩, ⟨sF 1 3 8, [], none, 0⟩, ⟨sF 2 1 1, [], none, 0⟩]
theorem la_mean : meanV (meanQ (newQ 0 1 2 LA)) = .tuple #[.int .i64 8, .bool true] := by rfl
theorem la_load : loadV (loadQ LA 0 2) = .tuple #[.int .i64 9, .int .i64 2, .int .i64 0] := by rfl
theorem la_none : loadV (loadQ LA 0 0) = .tuple #[.int .i64 0, .int .i64 0, .int .i64 2] := by rfl
set_option maxRecDepth 100000 in
set_option maxHeartbeats 4000000 in
theorem winalive_any (w : World) : Calls Try.prog 7 #[] w fun e w' => e = .returned (.bool true) ∧ Below w.heap.size w w' := by
  have H1 := fun W => sample_any 1 1 4 W
  have H2 := fun W => sample_any 1 2 7 W
  have H3 := fun W => sample_any 1 3 8 W
  have H4 := fun W => sample_any 2 1 1 W
  simp only [sF_ev] at H1 H2 H3 H4
  have HML : Hid (∀ W, ERds W (fun _ => True) (some ⟨0, 0, none⟩) [] → True) := Lib.hid (fun _ _ => trivial)
  clear HML
  go_enter Try.func7, Try.ntmps7
  go_wp2_with fail
  refine (H1 _).mono ?_
  rintro e w1 ⟨rfl, hb1⟩
  go_wp2_with fail
  refine (H2 _).mono ?_
  rintro e w2 ⟨rfl, hb2⟩
  have hb02 := below_new hb1 hb2
  go_wp2_with fail
  refine (H3 _).mono ?_
  rintro e w3 ⟨rfl, hb3⟩
  have hb03 := below_new hb02 hb3
  go_wp2_with fail
  refine (H4 _).mono ?_
  rintro e w4 ⟨rfl, hb4⟩
  have hb04 := below_new hb03 hb4
  clear H1 H2 H3 H4 hb1 hb2 hb02 hb3 hb03 hb4
  obtain ⟨w5, hw5⟩ : ∃ W, w4.alloc (.cells (ecs (sF 1 1 4) none 0 0 ++ ecs (sF 1 2 7) none 0 0 ++ ecs (sF 1 3 8) none 0 0 ++ ecs (sF 2 1 1) none 0 0) 46) = W := ⟨_, rfl⟩
  have hb5 : Below w4.heap.size w4 w5 := by rw [← hw5]; exact b_alloc _ _
  have hL : Blo w5 w4.heap.size 46 (ecs (sF 1 1 4) none 0 0 ++ ecs (sF 1 2 7) none 0 0 ++ ecs (sF 1 3 8) none 0 0 ++ ecs (sF 2 1 1) none 0 0) := by rw [← hw5]; exact Blo.made _ _ _
  have hER : ERds w5 (fun _ => True) (some ⟨w4.heap.size, 0, none⟩) LA := by
    refine ⟨fun j u hu => ⟨_, rfl, trivial, ?_⟩, fun e he => ?_⟩
    · rw [M.addMk, Nat.zero_add, hL.cell j]
      have e1 : (evs LA) = (ecs (sF 1 1 4) none 0 0 ++ ecs (sF 1 2 7) none 0 0 ++ ecs (sF 1 3 8) none 0 0 ++ ecs (sF 2 1 1) none 0 0).toList := rfl
      rw [e1] at hu
      rw [← hu]
      exact (Array.getElem?_toList).symm
    · simp [LA] at he
      rcases he with rfl | rfl | rfl | rfl <;> exact Rds.nil
  have hem : ∀ e ∈ LA, e.M.length ≤ 1000000 := by
    intro e he
    simp [LA] at he
    rcases he with rfl | rfl | rfl | rfl <;> simp
  have HML : Hid (∀ W, Below w5.heap.size w5 W → Calls Try.prog 13 #[.slice (some ⟨w4.heap.size, 0, none⟩) 4 4, .int .i64 0, .int .i64 1, .int .i64 2] W fun e w' => e = .returned (.tuple #[.int .i64 8, .bool true]) ∧ Below W.heap.size W w') := Lib.hid (fun W hb => by rw [← la_mean]; exact pmean_any (fun _ => True) _ 4 4 LA 0 1 2 W rfl (hER.new hb) (by omega) hem)
  have HLL : Hid (∀ W, Below w5.heap.size w5 W → Calls Try.prog 15 #[.slice (some ⟨w4.heap.size, 0, none⟩) 4 4, .int .i64 0, .int .i64 2] W fun e w' => e = .returned (.tuple #[.int .i64 9, .int .i64 2, .int .i64 0]) ∧ Below W.heap.size W w') := Lib.hid (fun W hb => by rw [← la_load]; exact pload_any (fun _ => True) _ 4 4 LA 0 2 W rfl (hER.new hb) (by omega) hem)
  have HLN : Hid (∀ W, Below w5.heap.size w5 W → Calls Try.prog 15 #[.slice (some ⟨w4.heap.size, 0, none⟩) 4 4, .int .i64 0, .int .i64 0] W fun e w' => e = .returned (.tuple #[.int .i64 0, .int .i64 0, .int .i64 2]) ∧ Below W.heap.size W w') := Lib.hid (fun W hb => by rw [← la_none]; exact pload_any (fun _ => True) _ 4 4 LA 0 0 W rfl (hER.new hb) (by omega) hem)
  have hb05 := below_new hb04 hb5
  have e56 : ecs (sF 1 1 4) none 0 0 ++ ecs (sF 1 2 7) none 0 0 ++ ecs (sF 1 3 8) none 0 0 ++ ecs (sF 2 1 1) none 0 0 = #[.int .i64 1, .int .i64 1, .int .i64 1, .int .i64 1, .int .i64 0, .int .i64 4, .int .i64 0, .int .i64 0, .int .i64 0, .int .i64 0, .int .i64 0, .int .i64 0, .int .i64 0, .slice none 0 0, .int .i64 1, .int .i64 2, .int .i64 1, .int .i64 1, .int .i64 0, .int .i64 7, .int .i64 0, .int .i64 0, .int .i64 0, .int .i64 0, .int .i64 0, .int .i64 0, .int .i64 0, .slice none 0 0, .int .i64 1, .int .i64 3, .int .i64 1, .int .i64 1, .int .i64 0, .int .i64 8, .int .i64 0, .int .i64 0, .int .i64 0, .int .i64 0, .int .i64 0, .int .i64 0, .int .i64 0, .slice none 0 0, .int .i64 2, .int .i64 1, .int .i64 1, .int .i64 1, .int .i64 0, .int .i64 1, .int .i64 0, .int .i64 0, .int .i64 0, .int .i64 0, .int .i64 0, .int .i64 0, .int .i64 0, .slice none 0 0] := rfl
  rw [e56] at hw5
  have HW5 := Lib.hid hw5
  clear hw5 hb5 hL hER hem e56 hb04
  go_wp2_with fail
  rw [HW5.out]
  refine (HML.out _ (Below.refl _ _)).mono ?_
  rintro e w6 ⟨rfl, hb6⟩
  have hb56 := hb6
  have hb06 := below_new hb05 hb6
  clear hb6 hb05
  go_wp2_with fail
  refine (HLL.out _ hb56).mono ?_
  rintro e w7 ⟨rfl, hb7⟩
  have hb57 := below_new hb56 hb7
  have hb07 := below_new hb06 hb7
  clear hb7 hb06 hb56
  go_wp2_with fail
  refine (HLN.out _ hb57).mono ?_
  rintro e w8 ⟨rfl, hb8⟩
  have hb08 := below_new hb07 hb8
  clear hb8 hb07 hb57
  go_wp2
  go_ret
  exact ⟨rfl, hb08⟩
end Go.Proofs.Ytodlifbhpgphcaa
