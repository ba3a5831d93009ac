/- Layer 12, the law's own: alive. -/
import Derived.Test.YtdgmbopdommnhaaRnkP
namespace Go.Proofs.Ytdgmbopdommnhaa
set_option linter.unusedVariables false
set_option linter.unusedSimpArgs false
open Go.ChangeShapes Go.WideShapes Go.ChangeAt Go.RowKit

theorem r_none : R.own [] 0 0 = 0 ∧ R.oer [] 0 0 = 8 := R.own_nil rfl
theorem r_three : R.own [3, -1, 8] 0 0 = 3 ∧ R.oer [3, -1, 8] 0 0 = 0 := R.own_cons (a := 3) (r := []) (by
  have h : R.here [3, -1, 8] 8 = [3] := by decide
  unfold R.all
  rw [h]
  rfl)
theorem r_two : (R.all [1, 2, 1] 0 0).length = 2 := by
  have h : R.here [1, 2, 1] 8 = [1, 2] := by decide
  unfold R.all
  rw [P.isort_len, h]
  rfl
/-- A literal row of ints. -/
theorem ilit_rds (w : World) (l : List Int) : Rds (w.alloc (.cells (i64s l).toArray 3)) (fun _ => True) (some ⟨w.heap.size, 0, none⟩) (i64s l) := by
  intro j u hu
  refine ⟨_, rfl, trivial, ?_⟩
  rw [M.addMk, Nat.zero_add, (Blo.made w 3 (i64s l).toArray).cell j]
  simpa using hu
set_option maxRecDepth 100000 in
set_option maxHeartbeats 4000000 in
theorem rnkalive_any (w : World) : Calls Try.prog 7 #[] w fun e w' => e = .returned (.bool true) ∧ Below w.heap.size w w' := by
  have h1 := fun W => powner_any (fun _ => True) none 0 0 [] 0 0 W (by omega) rfl Rds.nil (by omega)
  rw [r_none.1, r_none.2] at h1
  have h2 := fun W => powner_any (fun _ => True) _ 3 3 [3, -1, 8] 0 0 _ (by omega) rfl (ilit_rds W [3, -1, 8]) (by omega)
  rw [r_three.1, r_three.2] at h2
  have h3 := fun W => porder_any (fun _ => True) _ 3 3 [1, 2, 1] 0 0 _ (by omega) rfl (ilit_rds W [1, 2, 1]) (by omega)
  simp only [i64s, List.map_cons, List.map_nil, Int.natCast_zero] at h1 h2 h3
  have H1 := Lib.hid h1
  have H2 := Lib.hid h2
  have H3 := Lib.hid h3
  clear h1 h2 h3
  go_enter Try.func7, Try.ntmps7
  go_wp2_with fail
  refine (H1.out _).mono ?_
  rintro e w1 ⟨rfl, hb1⟩
  go_wp2_with fail
  refine (H2.out _).mono ?_
  rintro e w2 ⟨rfl, hb2⟩
  have hb02 := below_new (below_new hb1 (b_alloc _ _)) hb2
  go_wp2_with fail
  refine (H3.out _).mono ?_
  rintro e w3 ⟨A3, N3, c3, rfl, hN3, _, hb3⟩
  rw [r_two] at hN3
  subst hN3
  have hb03 := below_new (below_new hb02 (b_alloc _ _)) hb3
  go_wp2
  go_ret
  exact ⟨rfl, hb03⟩
end Go.Proofs.Ytdgmbopdommnhaa
