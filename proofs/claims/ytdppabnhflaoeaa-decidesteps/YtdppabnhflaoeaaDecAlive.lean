/- Layer 11, the law's own: alive. -/
import Derived.Test.YtdppabnhflaoeaaDecP
namespace Go.Proofs.Ytdppabnhflaoeaa
set_option linter.unusedVariables false
set_option linter.unusedSimpArgs false
open Go.ChangeShapes Go.WideShapes Go.ChangeAt Go.RowKit

/-- The example's policy. -/
def fpD (l : List Int) : Nat → Int := fun j => l.getD j 0
abbrev FD : Nat → Int := fpD [0, 0, 0, 0, 0, 0, 1, 9, 10, 10, 2, 1, 0]
abbrev pD : Value := .agg #[.int .i64 1, .int .i64 9, .int .i64 10, .int .i64 10, .int .i64 2, .int .i64 1, .int .i64 0]
theorem pvD : pv FD = pD := rfl
theorem d_s0 : K.stp FD 54 5 = 5 ∧ K.err FD 5 = 0 := by decide
theorem d_s1 : K.stp FD 56 5 = 6 ∧ K.err FD 5 = 0 := by decide
theorem d_s2 : K.stp FD 99 5 = 7 ∧ K.err FD 5 = 0 := by decide
theorem d_s3 : K.stp FD 0 5 = 4 ∧ K.err FD 5 = 0 := by decide
theorem d_s4 : K.stp FD 1 (-1) = 0 ∧ K.err FD (-1) = 2 := by decide
theorem d_r : K.run (K.stp FD 99) 1001 5 = (2, 9) := by
  rw [K.run_go _ (k := 1000) (t := 5) (by decide), show K.stp FD 99 5 = 7 by decide, K.run_go _ (k := 999) (t := 7) (by decide), show K.stp FD 99 7 = 9 by decide, K.run_end _ (k := 998) (t := 9) (by decide)]
theorem d_q : K.sts FD 99 5 = (2, 9, 0) := by
  unfold K.sts
  rw [if_pos (by decide), d_r]
  rfl
theorem d_b : K.stb [4] 2 5 = 4 := by decide
theorem d_box {w : World} {g : Nat} (h : Blo w g 23 (pcs FD)) : w.cell? ⟨g, 0, none⟩ = some (.int .i64 1) ∧ w.cell? ⟨g, 1, none⟩ = some (.int .i64 9) ∧ w.cell? ⟨g, 2, none⟩ = some (.int .i64 10) ∧ w.cell? ⟨g, 3, none⟩ = some (.int .i64 10) ∧ w.cell? ⟨g, 4, none⟩ = some (.int .i64 2) ∧ w.cell? ⟨g, 5, none⟩ = some (.int .i64 1) ∧ w.cell? ⟨g, 6, none⟩ = some (.int .i64 0) :=
  ⟨by simpa [fpD] using h.cell 0, by simpa [fpD] using h.cell 1, by simpa [fpD] using h.cell 2, by simpa [fpD] using h.cell 3, by simpa [fpD] using h.cell 4, by simpa [fpD] using h.cell 5, by simpa [fpD] using h.cell 6⟩

set_option maxRecDepth 100000 in
set_option maxHeartbeats 4000000 in
theorem decalive_any (w : World) : Calls Try.prog 8 #[] w fun e w' => e = .returned (.bool true) ∧ Below w.heap.size w w' := by
  obtain ⟨w1, hw1⟩ : ∃ W, w.alloc (.cells #[.int .i64 1, .int .i64 9, .int .i64 10, .int .i64 10, .int .i64 2, .int .i64 1, .int .i64 0] 23) = W := ⟨_, rfl⟩
  have hb1 : Below w.heap.size w w1 := by rw [← hw1]; exact b_alloc _ _
  have hX1 : Blo w1 w.heap.size 23 (pcs FD) := by rw [← hw1]; exact Blo.made _ _ _
  have HW1 := Lib.hid hw1
  have h0 := fun W => pstep_any FD 54 5 W
  rw [d_s0.1, d_s0.2, pvD] at h0
  have h1 := fun W => pstep_any FD 56 5 W
  rw [d_s1.1, d_s1.2, pvD] at h1
  have h2 := fun W => pstep_any FD 99 5 W
  rw [d_s2.1, d_s2.2, pvD] at h2
  have h3 := fun W => pstep_any FD 0 5 W
  rw [d_s3.1, d_s3.2, pvD] at h3
  have h4 := fun W => pstep_any FD 1 (-1) W
  rw [d_s4.1, d_s4.2, pvD] at h4
  have h5 := fun W => psteps_any FD 99 5 W
  rw [d_q, pvD] at h5
  have H0 := Lib.hid h0
  have H1 := Lib.hid h1
  have H2 := Lib.hid h2
  have H3 := Lib.hid h3
  have H4 := Lib.hid h4
  have H5 := Lib.hid h5
  clear h0 h1 h2 h3 h4 h5 hw1
  go_enter Try.func8, Try.ntmps8
  go_wp2_with fail
  rw [HW1.out]
  go_loopw [17] (fun iv wr => ∃ i : Nat, iv = .int .i64 i ∧ i ≤ 4 ∧ Blo wr w.heap.size 23 (pcs FD) ∧ Below w.heap.size w wr) (fun iv _ => 4 - (intOf iv).toNat)
  case atStart => exact ⟨0, rfl, by omega, hX1, hb1⟩
  case round =>
    clear hX1 hb1
    obtain ⟨i, rfl, hi, hX, hb⟩ := hrel
    obtain ⟨k0, k1, k2, k3, k4, k5, k6⟩ := d_box hX
    rcases (show i = 0 ∨ i = 1 ∨ i = 2 ∨ i = 3 ∨ i = 4 by omega) with rfl | rfl | rfl | rfl | rfl
    · obtain ⟨w2, hw2⟩ : ∃ W, wr.alloc (.cells #[.int .i64 54, .int .i64 5] 43) = W := ⟨_, rfl⟩
      have hb2 : Below wr.heap.size wr w2 := by rw [← hw2]; exact b_alloc _ _
      have hY2 : Blo w2 wr.heap.size 43 #[.int .i64 54, .int .i64 5] := by rw [← hw2]; exact Blo.made _ _ _
      have HW2 := Lib.hid hw2
      have hix : ∀ W, (Instr.index 44 (.agg #[.int .i64 54, .int .i64 5, .int .i64 56, .int .i64 6, .int .i64 99, .int .i64 7, .int .i64 0, .int .i64 4]) (.int .i64 0)).run Try.prog W = .ok (.agg #[.int .i64 54, .int .i64 5]) W := fun W => by kernel_rfl
      clear hw2 k0 k1 k2 k3 k4 k5 k6
      obtain ⟨k0, k1, k2, k3, k4, k5, k6⟩ := d_box (hX.new hb2)
      have y0 : w2.cell? ⟨wr.heap.size, 0, none⟩ = some (.int .i64 54) := by simpa using hY2.cell 0
      rw [← HW2.out] at k0 k1 k2 k3 k4 k5 k6 y0
      go_wp2_with fail
      rw [HW2.out]
      refine (H0.out _).mono ?_
      rintro e w3 ⟨rfl, hb3⟩
      have hX3 := (hX.new hb2).new hb3
      have hY3 := hY2.new hb3
      clear y0
      have y0 : w3.cell? ⟨wr.heap.size, 0, none⟩ = some (.int .i64 54) := by simpa using hY3.cell 0
      have y1 : w3.cell? ⟨wr.heap.size, 1, none⟩ = some (.int .i64 5) := by simpa using hY3.cell 1
      have hb03 := below_new (below_new hb hb2) hb3
      clear k0 k1 k2 k3 k4 k5 k6 hb hb2 hb3 hX hY2
      go_wp2
      go_roundw
      case rel => exact ⟨1, rfl, by omega, hX3, hb03⟩
      case measure => simp [intOf]
    · obtain ⟨w2, hw2⟩ : ∃ W, wr.alloc (.cells #[.int .i64 56, .int .i64 6] 43) = W := ⟨_, rfl⟩
      have hb2 : Below wr.heap.size wr w2 := by rw [← hw2]; exact b_alloc _ _
      have hY2 : Blo w2 wr.heap.size 43 #[.int .i64 56, .int .i64 6] := by rw [← hw2]; exact Blo.made _ _ _
      have HW2 := Lib.hid hw2
      have hix : ∀ W, (Instr.index 44 (.agg #[.int .i64 54, .int .i64 5, .int .i64 56, .int .i64 6, .int .i64 99, .int .i64 7, .int .i64 0, .int .i64 4]) (.int .i64 1)).run Try.prog W = .ok (.agg #[.int .i64 56, .int .i64 6]) W := fun W => by kernel_rfl
      clear hw2 k0 k1 k2 k3 k4 k5 k6
      obtain ⟨k0, k1, k2, k3, k4, k5, k6⟩ := d_box (hX.new hb2)
      have y0 : w2.cell? ⟨wr.heap.size, 0, none⟩ = some (.int .i64 56) := by simpa using hY2.cell 0
      rw [← HW2.out] at k0 k1 k2 k3 k4 k5 k6 y0
      go_wp2_with fail
      rw [HW2.out]
      refine (H1.out _).mono ?_
      rintro e w3 ⟨rfl, hb3⟩
      have hX3 := (hX.new hb2).new hb3
      have hY3 := hY2.new hb3
      clear y0
      have y0 : w3.cell? ⟨wr.heap.size, 0, none⟩ = some (.int .i64 56) := by simpa using hY3.cell 0
      have y1 : w3.cell? ⟨wr.heap.size, 1, none⟩ = some (.int .i64 6) := by simpa using hY3.cell 1
      have hb03 := below_new (below_new hb hb2) hb3
      clear k0 k1 k2 k3 k4 k5 k6 hb hb2 hb3 hX hY2
      go_wp2
      go_roundw
      case rel => exact ⟨2, rfl, by omega, hX3, hb03⟩
      case measure => simp [intOf]
    · obtain ⟨w2, hw2⟩ : ∃ W, wr.alloc (.cells #[.int .i64 99, .int .i64 7] 43) = W := ⟨_, rfl⟩
      have hb2 : Below wr.heap.size wr w2 := by rw [← hw2]; exact b_alloc _ _
      have hY2 : Blo w2 wr.heap.size 43 #[.int .i64 99, .int .i64 7] := by rw [← hw2]; exact Blo.made _ _ _
      have HW2 := Lib.hid hw2
      have hix : ∀ W, (Instr.index 44 (.agg #[.int .i64 54, .int .i64 5, .int .i64 56, .int .i64 6, .int .i64 99, .int .i64 7, .int .i64 0, .int .i64 4]) (.int .i64 2)).run Try.prog W = .ok (.agg #[.int .i64 99, .int .i64 7]) W := fun W => by kernel_rfl
      clear hw2 k0 k1 k2 k3 k4 k5 k6
      obtain ⟨k0, k1, k2, k3, k4, k5, k6⟩ := d_box (hX.new hb2)
      have y0 : w2.cell? ⟨wr.heap.size, 0, none⟩ = some (.int .i64 99) := by simpa using hY2.cell 0
      rw [← HW2.out] at k0 k1 k2 k3 k4 k5 k6 y0
      go_wp2_with fail
      rw [HW2.out]
      refine (H2.out _).mono ?_
      rintro e w3 ⟨rfl, hb3⟩
      have hX3 := (hX.new hb2).new hb3
      have hY3 := hY2.new hb3
      clear y0
      have y0 : w3.cell? ⟨wr.heap.size, 0, none⟩ = some (.int .i64 99) := by simpa using hY3.cell 0
      have y1 : w3.cell? ⟨wr.heap.size, 1, none⟩ = some (.int .i64 7) := by simpa using hY3.cell 1
      have hb03 := below_new (below_new hb hb2) hb3
      clear k0 k1 k2 k3 k4 k5 k6 hb hb2 hb3 hX hY2
      go_wp2
      go_roundw
      case rel => exact ⟨3, rfl, by omega, hX3, hb03⟩
      case measure => simp [intOf]
    · obtain ⟨w2, hw2⟩ : ∃ W, wr.alloc (.cells #[.int .i64 0, .int .i64 4] 43) = W := ⟨_, rfl⟩
      have hb2 : Below wr.heap.size wr w2 := by rw [← hw2]; exact b_alloc _ _
      have hY2 : Blo w2 wr.heap.size 43 #[.int .i64 0, .int .i64 4] := by rw [← hw2]; exact Blo.made _ _ _
      have HW2 := Lib.hid hw2
      have hix : ∀ W, (Instr.index 44 (.agg #[.int .i64 54, .int .i64 5, .int .i64 56, .int .i64 6, .int .i64 99, .int .i64 7, .int .i64 0, .int .i64 4]) (.int .i64 3)).run Try.prog W = .ok (.agg #[.int .i64 0, .int .i64 4]) W := fun W => by kernel_rfl
      clear hw2 k0 k1 k2 k3 k4 k5 k6
      obtain ⟨k0, k1, k2, k3, k4, k5, k6⟩ := d_box (hX.new hb2)
      have y0 : w2.cell? ⟨wr.heap.size, 0, none⟩ = some (.int .i64 0) := by simpa using hY2.cell 0
      rw [← HW2.out] at k0 k1 k2 k3 k4 k5 k6 y0
      go_wp2_with fail
      rw [HW2.out]
      refine (H3.out _).mono ?_
      rintro e w3 ⟨rfl, hb3⟩
      have hX3 := (hX.new hb2).new hb3
      have hY3 := hY2.new hb3
      clear y0
      have y0 : w3.cell? ⟨wr.heap.size, 0, none⟩ = some (.int .i64 0) := by simpa using hY3.cell 0
      have y1 : w3.cell? ⟨wr.heap.size, 1, none⟩ = some (.int .i64 4) := by simpa using hY3.cell 1
      have hb03 := below_new (below_new hb hb2) hb3
      clear k0 k1 k2 k3 k4 k5 k6 hb hb2 hb3 hX hY2
      go_wp2
      go_roundw
      case rel => exact ⟨4, rfl, by omega, hX3, hb03⟩
      case measure => simp [intOf]
    · go_wp2_with fail
      refine (H5.out _).mono ?_
      rintro e w2 ⟨rfl, hb2⟩
      have hX2 := hX.new hb2
      have hb02 := below_new hb hb2
      clear k0 k1 k2 k3 k4 k5 k6 hb hb2 hX
      obtain ⟨k0, k1, k2, k3, k4, k5, k6⟩ := d_box hX2
      go_wp2_with fail
      refine (H4.out _).mono ?_
      rintro e w3 ⟨rfl, hb3⟩
      have hb03 := below_new hb02 hb3
      clear k0 k1 k2 k3 k4 k5 k6 hb02 hb3 hX2
      obtain ⟨w4, hw4⟩ : ∃ W, w3.alloc (.cells #[.int .i64 4] 3) = W := ⟨_, rfl⟩
      have hb4 : Below w3.heap.size w3 w4 := by rw [← hw4]; exact b_alloc _ _
      have hB4 : Blo w4 w3.heap.size 3 #[.int .i64 4] := by rw [← hw4]; exact Blo.made _ _ _
      have hr4 : Rds w4 (fun _ => True) (some ⟨w3.heap.size, 0, none⟩) (i64s [4]) := fun j u hu => ⟨_, rfl, trivial, by
        have hj : j = 0 := by
          rcases Nat.eq_zero_or_pos j with h | h
          · exact h
          · rw [List.getElem?_eq_none (by simp [i64s]; omega)] at hu; cases hu
        subst hj
        rw [M.addMk, Nat.zero_add, hB4.cell 0]
        exact hu⟩
      have hsb := pstable_any (fun _ => True) _ 1 1 [4] 2 5 w4 rfl hr4 (by omega)
      rw [d_b] at hsb
      have HSB := Lib.hid hsb
      have HW4 := Lib.hid hw4
      clear hsb hw4 hr4 hB4
      go_wp2_with fail
      rw [HW4.out]
      refine HSB.out.mono ?_
      rintro e w5 ⟨rfl, hb5⟩
      have hb05 := below_new (below_new hb03 hb4) hb5
      go_wp2
      go_ret
      exact ⟨rfl, hb05⟩
end Go.Proofs.Ytdppabnhflaoeaa
