/- Layer 5: the document's first example. -/
import Derived.Test.YtabilkjfijljbaaMixTell
namespace Go.Proofs.Ytabilkjfijljbaa
open Go.ChangeShapes Go.WideShapes Go.ChangeAt Go.RowKit

theorem X.ex_next : X.next 0 = 11400714819323198485 := by decide +kernel
theorem X.ex_draw : X.draw 0 1 = 0 := by decide +kernel
theorem X.ex_w1 : X.weight 0 1 2 = 18269067173657744944 := by decide +kernel
theorem X.ex_w2 : X.weight 1 0 2 = 9002228777926687232 := by decide +kernel
theorem X.ex_h1 : X.hash [1] = 12254457192590784505 := by decide +kernel
theorem X.ex_h2 : X.hash [2] = 11956242466791737784 := by decide +kernel

set_option maxHeartbeats 400000 in
theorem mix_alive (w : World) : Calls Try.prog 6 #[] w fun e w' => e = .returned (.bool true) ∧ Below w.heap.size w w' := by
  have D := draw_any 0 1 w (by omega) (by omega)
  rw [X.ex_next, X.ex_draw] at D
  have W1 := fun w => weight_any 0 1 2 w (by omega)
  rw [X.ex_w1] at W1
  have W2 := fun w => weight_any 1 0 2 w (by omega)
  rw [X.ex_w2] at W2
  go_enter Try.func6, Try.ntmps6
  go_wp2_with fail
  refine D.mono ?_
  rintro e w1 ⟨rfl, hd1⟩
  have hb1 := hd1.below w.heap.size
  clear D hd1
  go_wp2_with fail
  refine (W1 w1).mono ?_
  rintro e w2 ⟨rfl, hb2⟩
  go_wp2_with fail
  refine (W2 w2).mono ?_
  rintro e w3 ⟨rfl, hb3⟩
  clear W1 W2
  have hb := hb1.trans ((below_new hb2 hb3).mono hb1.size)
  clear hb1 hb2 hb3
  have z := hb.size
  obtain ⟨w4, hw4⟩ : ∃ W, w3.alloc (.cells #[.int .u8 1] 5) = W := ⟨_, rfl⟩
  have hr4 : Rds w4 (fun _ => True) (some ⟨w3.heap.size, 0, none⟩) (nby [1]) := by rw [← hw4]; exact blit_rds w3 [1] _ _
  have hb4 : Below w.heap.size w w4 := by rw [← hw4]; exact hb.alloc z _
  have z4 := hb4.size
  obtain ⟨w5, hw5⟩ : ∃ W, w4.alloc (.cells #[.int .u8 2] 5) = W := ⟨_, rfl⟩
  have hr5 : Rds w5 (fun _ => True) (some ⟨w4.heap.size, 0, none⟩) (nby [2]) := by rw [← hw5]; exact blit_rds w4 [2] _ _
  have hb5 : Below w.heap.size w w5 := by rw [← hw5]; exact hb4.alloc z4 _
  have H1 := hash_any _ _ 1 1 [1] w4 rfl hr4 (by simp) (by unfold Small; decide)
  have H2 := hash_any _ _ 1 1 [2] w5 rfl hr5 (by simp) (by unfold Small; decide)
  rw [X.ex_h1] at H1
  rw [X.ex_h2] at H2
  have HW4 := Lib.hid hw4
  have HW5 := Lib.hid hw5
  clear hw4 hw5
  go_wp2_with fail
  rw [HW4.out]
  refine H1.mono ?_
  rintro e w6 ⟨rfl, rfl⟩
  go_wp2_with fail
  rw [HW5.out]
  refine H2.mono ?_
  rintro e w6 ⟨rfl, rfl⟩
  go_wp2
  go_ret
  exact ⟨rfl, hb5⟩
end Go.Proofs.Ytabilkjfijljbaa
