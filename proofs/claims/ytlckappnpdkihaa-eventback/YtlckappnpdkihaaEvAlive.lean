/- Layer 7, the law's own: alive. -/
import Derived.Test.YtlckappnpdkihaaEvW4
import Derived.Test.YtlckappnpdkihaaVint
namespace Go.Proofs.Ytlckappnpdkihaa
set_option linter.unusedVariables false
set_option linter.unusedSimpArgs false
open Go.ChangeShapes Go.WideShapes Go.ChangeAt Go.RowKit

def fx (l : List Int) : Nat → Int := fun j => l.getD j 0
theorem fx_right : E.right (fx [1, 2, 3, 1, 4, 5]) [] = true := by decide
theorem fx_zero : E.right (fx []) [] = false := by decide
theorem fx_later : E.later (fx [0, 0, 2]) (fx [0, 0, 1]) = true := by decide
theorem fx_put : E.putB (fx [1, 2, 3, 1, 4, 5]) [] = [1, 2, 3, 1, 4, 5] ∧ E.putE (fx [1, 2, 3, 1, 4, 5]) [] = 0 := by
  unfold E.putB E.putE
  rw [fx_right]
  have e : E.nums (fx [1, 2, 3, 1, 4, 5]) [] = [1, 2, 3, 1, 4, 5] := by decide
  rw [e]
  refine ⟨?_, rfl⟩
  simp only [if_true, V.encs, List.flatMap_cons, List.flatMap_nil]
  rw [V.enc_small (n := 1) (by omega), V.enc_small (n := 2) (by omega), V.enc_small (n := 3) (by omega), V.enc_small (n := 4) (by omega), V.enc_small (n := 5) (by omega)]
  rfl

set_option maxRecDepth 100000 in
set_option maxHeartbeats 4000000 in
theorem evalive_any (w : World) : Calls Try.prog 9 #[] w fun e w' => e = .returned (.bool true) ∧ Below w.heap.size w w' := by
  obtain ⟨w1, hw1⟩ : ∃ W, w.alloc (.cells (ecs (fx [1, 2, 3, 1, 4, 5]) none 0 0) 28) = W := ⟨_, rfl⟩
  have hb1 : Below w.heap.size w w1 := by rw [← hw1]; exact b_alloc _ _
  have hX1 : Blo w1 w.heap.size 28 (ecs (fx [1, 2, 3, 1, 4, 5]) none 0 0) := by rw [← hw1]; exact Blo.made _ _ _
  have hput := evput_any (fun _ => True) (fx [1, 2, 3, 1, 4, 5]) none 0 0 [] w1 rfl Rds.nil (by unfold maxLen; omega)
  rw [fx_put.1, fx_put.2] at hput
  have hr1 : ∀ W, Calls Try.prog 11 #[ev (fx [1, 2, 3, 1, 4, 5]) none 0 0] W fun e w' => e = .returned (.bool true) ∧ Below W.heap.size W w' := fun W => by
    have := evright_any (fun _ => True) (fx [1, 2, 3, 1, 4, 5]) none 0 0 [] W rfl Rds.nil (by unfold maxLen; omega)
    rwa [fx_right] at this
  have hr0 : ∀ W, Calls Try.prog 11 #[ev (fx []) none 0 0] W fun e w' => e = .returned (.bool false) ∧ Below W.heap.size W w' := fun W => by
    have := evright_any (fun _ => True) (fx []) none 0 0 [] W rfl Rds.nil (by unfold maxLen; omega)
    rwa [fx_zero] at this
  have hla : ∀ W, Calls Try.prog 15 #[ev (fx [0, 0, 2]) none 0 0, ev (fx [0, 0, 1]) none 0 0] W fun e w' => e = .returned (.bool true) ∧ Below W.heap.size W w' := fun W => by
    have := later_any (fx [0, 0, 2]) (fx [0, 0, 1]) none 0 0 none 0 0 W
    rwa [fx_later] at this
  have HW := Lib.hid hw1
  have HR1 := Lib.hid hr1
  have HR0 := Lib.hid hr0
  have HLA := Lib.hid hla
  clear hw1 hr1 hr0 hla
  go_enter Try.func9, Try.ntmps9
  go_wp2_with fail
  have e0 : w.alloc (.cells #[.int .i64 1, .int .i64 2, .int .i64 3, .int .i64 1, .int .i64 4, .int .i64 5, .int .i64 0, .int .i64 0, .int .i64 0, .int .i64 0, .int .i64 0, .int .i64 0, .int .i64 0, .slice none 0 0] 28) = w1 := HW.out
  rw [e0]
  refine Calls.mono hput ?_
  rintro e w2 ⟨A2, N2, c2, rfl, hN2, ho2, hb2⟩
  simp only [List.length_cons, List.length_nil] at hN2
  subst hN2
  have hX2 := hX1.new hb2
  have hb02 := below_new hb1 hb2
  have hrd := own_rds ho2
  clear hput e0 hb1 hb2 hX1
  have hsame := same_yes _ (fun _ => True) A2 (some ⟨w2.heap.size, 0, none⟩) c2 6 [1, 2, 3, 1, 4, 5] (w2.alloc (.cells (u8s [1, 2, 3, 1, 4, 5]).toArray 5)) (hrd.alloc _) (lit_rds w2 [1, 2, 3, 1, 4, 5] .u8 5) (by simp)
  go_wp2_with fail
  refine Calls.mono hsame ?_
  rintro e w3 ⟨rfl, hd3⟩
  have hX3 := hd3.blo (hX2.alloc (.cells (u8s [1, 2, 3, 1, 4, 5]).toArray 5))
  have hb03 : Below w.heap.size w w3 := below_new (below_new hb02 (b_alloc _ _)) (hd3.below _)
  clear hsame hd3 hX2 hb02 hrd ho2
  obtain ⟨z0, z1, z2, z3, z4, z5, z6, z7, z8, z9, z10, z11, z12, z13⟩ := set14 hX3
  go_wp2_with fail
  refine Calls.mono (HR1.out w3) ?_
  rintro e w4 ⟨rfl, hb4⟩
  have hb04 := below_new hb03 hb4
  clear z0 z1 z2 z3 z4 z5 z6 z7 z8 z9 z10 z11 z12 z13 hX3 hb03 hb4
  go_wp2_with fail
  refine Calls.mono (HR0.out w4) ?_
  rintro e w5 ⟨rfl, hb5⟩
  have hb05 := below_new hb04 hb5
  clear hb04 hb5
  go_wp2_with fail
  refine Calls.mono (HLA.out w5) ?_
  rintro e w6 ⟨rfl, hb6⟩
  have hb06 := below_new hb05 hb6
  clear hb05 hb6
  go_wp2
  go_ret
  exact ⟨rfl, hb06⟩
end Go.Proofs.Ytlckappnpdkihaa
