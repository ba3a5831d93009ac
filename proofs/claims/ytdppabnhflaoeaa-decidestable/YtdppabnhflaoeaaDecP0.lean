/- Layer 11, the program's: the bounds and what is clamped by them. -/
import Derived.Test.YtdppabnhflaoeaaDecMath
import Derived.Test.YtdppabnhflaoeaaPolBox
import Derived.Test.YtdppabnhflaoeaaSatMul
import Derived.Test.YtdppabnhflaoeaaSatSub
import Derived.Test.YtdppabnhflaoeaaSetB
import Derived.Test.YtdppabnhflaoeaaFam
import Derived.Laws.EntriesVeiled
namespace Go.Proofs.Ytdppabnhflaoeaa
set_option linter.unusedVariables false
set_option linter.unusedSimpArgs false
open Go.ChangeShapes Go.WideShapes Go.ChangeAt Go.RowKit

/-- How a workload stands: a policy, a load, a number. -/
abbrev scs (F : Nat → Int) (y t : Int) : Array Value := #[.int .i64 (F 6), .int .i64 (F 7), .int .i64 (F 8), .int .i64 (F 9), .int .i64 (F 10), .int .i64 (F 11), .int .i64 (F 12), .int .i64 y, .int .i64 t]
abbrev sv (F : Nat → Int) (y t : Int) : Value := .agg (scs F y t)
theorem Try.sizeStand : (Try.prog.info? 46).map (·.size) = some 9 := by kernel_rfl
theorem scs_one (F : Nat → Int) (y t : Int) : ∀ v ∈ (scs F y t).toList, v.oneCell' = true := by
  intro v hv
  simp at hv
  rcases hv with rfl | rfl | rfl | rfl | rfl | rfl | rfl | rfl | rfl <;> rfl
theorem st_box {w : World} {g : Nat} (F : Nat → Int) (y t : Int) (h : Blo w g 46 (scs F y t)) : w.cell? ⟨g, 0, none⟩ = some (.int .i64 (F 6)) ∧ w.cell? ⟨g, 1, none⟩ = some (.int .i64 (F 7)) ∧ w.cell? ⟨g, 2, none⟩ = some (.int .i64 (F 8)) ∧ w.cell? ⟨g, 3, none⟩ = some (.int .i64 (F 9)) ∧ w.cell? ⟨g, 4, none⟩ = some (.int .i64 (F 10)) ∧ w.cell? ⟨g, 5, none⟩ = some (.int .i64 (F 11)) ∧ w.cell? ⟨g, 6, none⟩ = some (.int .i64 (F 12)) ∧ w.cell? ⟨g, 7, none⟩ = some (.int .i64 y) ∧ w.cell? ⟨g, 8, none⟩ = some (.int .i64 t) :=
  ⟨by simpa using h.cell 0, by simpa using h.cell 1, by simpa using h.cell 2, by simpa using h.cell 3, by simpa using h.cell 4, by simpa using h.cell 5, by simpa using h.cell 6, by simpa using h.cell 7, by simpa using h.cell 8⟩

set_option maxHeartbeats 400000 in
theorem counted_any (F : Nat → Int) (y t n : Int) (w : World) : Calls Try.prog 33 #[sv F y t, .int .i64 n] w fun e w' => e = .returned (.int .i64 (S.within n 0 1099511627776)) ∧ Below w.heap.size w w' := by
  go_enter Try.func33, Try.ntmps33
  go_wp2_with fail
  refine (within_any _ _ _ _).mono ?_
  rintro e w2 ⟨rfl, rfl⟩
  go_wp2
  go_ret
  exact ⟨rfl, b_alloc _ _⟩
set_option maxHeartbeats 400000 in
theorem allowed_any (F : Nat → Int) (y t n : Int) (w : World) : Calls Try.prog 34 #[sv F y t, .int .i64 n] w fun e w' => e = .returned (.int .i64 (S.within n (F 6) (F 7))) ∧ Below w.heap.size w w' := by
  obtain ⟨w1, hw1⟩ : ∃ W, w.alloc (.cells (scs F y t) 46) = W := ⟨_, rfl⟩
  have hb1 : Below w.heap.size w w1 := by rw [← hw1]; exact b_alloc _ _
  have hX1 : Blo w1 w.heap.size 46 (scs F y t) := by rw [← hw1]; exact Blo.made _ _ _
  have HW1 := Lib.hid hw1
  obtain ⟨k0, k1, k2, k3, k4, k5, k6, k7, k8⟩ := st_box F y t hX1
  rw [← HW1.out] at k0 k1 k2 k3 k4 k5 k6 k7 k8
  clear hw1
  go_enter Try.func34, Try.ntmps34
  go_wp2_with fail
  rw [HW1.out]
  refine (within_any _ _ _ _).mono ?_
  rintro e w2 ⟨rfl, rfl⟩
  go_wp2
  go_ret
  exact ⟨rfl, hb1⟩
set_option maxHeartbeats 400000 in
theorem reached_any (F : Nat → Int) (y t n : Int) (w : World) (g1 : IntKind.i64.wrap (t - F 11) = t - F 11) (g2 : IntKind.i64.wrap (t + F 10) = t + F 10) : Calls Try.prog 35 #[sv F y t, .int .i64 n] w fun e w' => e = .returned (.int .i64 (S.within n (t - F 11) (t + F 10))) ∧ Below w.heap.size w w' := by
  obtain ⟨w1, hw1⟩ : ∃ W, w.alloc (.cells (scs F y t) 46) = W := ⟨_, rfl⟩
  have hb1 : Below w.heap.size w w1 := by rw [← hw1]; exact b_alloc _ _
  have hX1 : Blo w1 w.heap.size 46 (scs F y t) := by rw [← hw1]; exact Blo.made _ _ _
  have HW1 := Lib.hid hw1
  obtain ⟨k0, k1, k2, k3, k4, k5, k6, k7, k8⟩ := st_box F y t hX1
  rw [← HW1.out] at k0 k1 k2 k3 k4 k5 k6 k7 k8
  clear hw1
  go_enter Try.func35, Try.ntmps35
  go_wp2_with fail
  rw [HW1.out]
  refine (within_any _ _ _ _).mono ?_
  rintro e w2 ⟨rfl, rfl⟩
  go_wp2
  go_ret
  exact ⟨rfl, hb1⟩
abbrev bvs : Value := .agg #[.func (.func 33) #[] #[], .func (.func 34) #[] #[], .func (.func 35) #[] #[]]
set_option maxHeartbeats 400000 in
theorem bounds_any (w : World) : Calls Try.prog 27 #[] w fun e w' => e = .returned bvs ∧ Below w.heap.size w w' := by
  go_enter Try.func27, Try.ntmps27
  go_wp2
  refine bodyPost_ret (v := bvs) ?_ rfl ?_
  · simp [results, Try.results27, go_sem]
  · exact ⟨rfl, b_alloc _ _⟩
end Go.Proofs.Ytdppabnhflaoeaa
