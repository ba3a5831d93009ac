/- Layer 11: what DecideSteps, DecideStable and DecideBounds come to. -/
import Derived.Test.YtdppabnhflaoeaaDecAlive
namespace Go.Proofs.Ytdppabnhflaoeaa
set_option linter.unusedVariables false
set_option linter.unusedSimpArgs false
open Go.ChangeShapes Go.WideShapes Go.ChangeAt Go.RowKit

set_option maxRecDepth 100000 in
set_option maxHeartbeats 4000000 in
theorem decsteps_main (F : Nat → Int) (x t : Int) (w : World) : Calls Try.prog 3 #[pv F, .int .i64 x, .int .i64 t] w fun e w' => e = .returned (.bool true) ∧ Below w.heap.size w w' := by
  obtain ⟨w1, hw1⟩ : ∃ W, w.alloc (.cells (pcs F) 23) = W := ⟨_, rfl⟩
  have hb1 : Below w.heap.size w w1 := by rw [← hw1]; exact b_alloc _ _
  have hX1 : Blo w1 w.heap.size 23 (pcs F) := by rw [← hw1]; exact Blo.made _ _ _
  have HW1 := Lib.hid hw1
  have h1 := fun W => pstep_any F x t W
  have h2 := fun W => rstep_any F x t W
  have h3 := fun W => psteps_any F x t W
  have h4 := fun W => rsteps_any F x t W
  generalize K.stp F x t = a at *
  generalize K.err F t = b at *
  obtain ⟨⟨c, d, e⟩, hs⟩ : ∃ s, s = K.sts F x t := ⟨_, rfl⟩
  rw [← hs] at h3 h4
  simp only at h3 h4
  have H1 := Lib.hid h1
  have H2 := Lib.hid h2
  have H3 := Lib.hid h3
  have H4 := Lib.hid h4
  clear h1 h2 h3 h4 hs hw1
  go_enter Try.func3, Try.ntmps3
  go_wp2_with fail
  refine (decalive_any _).mono ?_
  rintro e w2 ⟨rfl, hb2⟩
  rw [HW1.out] at hb2
  have hX2 := hX1.new hb2
  have hb02 := below_new hb1 hb2
  obtain ⟨k0, k1, k2, k3, k4, k5, k6⟩ := pol_box F hX2
  clear hb1 hb2 hX1
  go_wp2_with fail
  refine (H1.out _).mono ?_
  rintro e w3 ⟨rfl, hb3⟩
  clear k0 k1 k2 k3 k4 k5 k6
  have hX3 := hX2.new hb3
  have hb03 := below_new hb02 hb3
  obtain ⟨k0, k1, k2, k3, k4, k5, k6⟩ := pol_box F hX3
  clear hb02 hb3 hX2
  go_wp2_with fail
  refine (H2.out _).mono ?_
  rintro e w4 ⟨rfl, hb4⟩
  clear k0 k1 k2 k3 k4 k5 k6
  have hX4 := hX3.new hb4
  have hb04 := below_new hb03 hb4
  obtain ⟨k0, k1, k2, k3, k4, k5, k6⟩ := pol_box F hX4
  clear hb03 hb4 hX3
  go_wp2_with fail
  refine (H3.out _).mono ?_
  rintro e w5 ⟨rfl, hb5⟩
  clear k0 k1 k2 k3 k4 k5 k6
  have hX5 := hX4.new hb5
  have hb05 := below_new hb04 hb5
  obtain ⟨k0, k1, k2, k3, k4, k5, k6⟩ := pol_box F hX5
  clear hb04 hb5 hX4
  go_wp2_with fail
  refine (H4.out _).mono ?_
  rintro e w6 ⟨rfl, hb6⟩
  have hb06 := below_new hb05 hb6
  clear k0 k1 k2 k3 k4 k5 k6 hb05 hb6 hX5
  go_wp2
  go_ret
  exact ⟨rfl, hb06⟩

theorem K.top_ge : ∀ (l : List Int) (a : Int), a ≤ K.top a l
  | [], a => Int.le_refl _
  | x :: l, a => by
    unfold K.top
    split
    · have := K.top_ge l x; omega
    · exact K.top_ge l a
theorem K.stb_lo {l : List Int} {a t : Int} (h : ¬ t ≤ a) : a ≤ K.stb l a t ∧ K.stb l a t ≤ t := by
  have := K.top_ge l a
  unfold K.stb
  rw [if_neg h]
  split <;> omega
set_option maxRecDepth 100000 in
set_option maxHeartbeats 4000000 in
theorem decstable_main (S : Nat → Prop) (A : Option Addr) (n c : Nat) (l : List Int) (a t : Int) (w : World) (hn : l.length = n) (hr : Rds w S A (i64s l)) : Calls Try.prog 4 #[.slice A n c, .int .i64 a, .int .i64 t] w fun e w' => e = .returned (.bool true) ∧ Below w.heap.size w w' := by
  go_enter Try.func4, Try.ntmps4
  go_wp2_with fail
  refine (decalive_any _).mono ?_
  rintro e w2 ⟨rfl, hb2⟩
  have hr2 := hr.new hb2
  by_cases hl : 1000 < n
  · have hl' : (1000 : Int) < (n : Int) := by omega
    go_wp2
    go_ret
    exact ⟨rfl, hb2⟩
  · have hl' : ¬ (1000 : Int) < (n : Int) := by omega
    obtain ⟨i0, hi0, hz0, hz1, hz2⟩ := info_parts (show (Try.prog.info? 3).map (fun i => (i.zero, i.size, i.bytes)) = some (some (.int .i64 0), 1, 8) by kernel_rfl)
    have hn9 : n ≤ 900000 := by omega
    have hown : (w2.alloc (.cells #[] 3)).ownsRow w2.heap.size 3 1 (.slice (some ⟨w2.heap.size, 0, none⟩) 0 0) 0 [] := World.ownsRow_lit w2 #[] 0 (Nat.le_refl _) (by unfold maxLen; omega) rfl
    have hr3 := hr2.new (b_alloc w2 (.cells #[] 3))
    have hs3 : w2.heap.size ≤ (w2.alloc (.cells #[] 3)).heap.size := (b_alloc w2 _).size
    have hnl : (i64s l).length = n := by simp [i64s, hn]
    go_wp2_with (at_builtin; refine wpList_app _ rfl _ _ 35 rfl w2.heap.size 3 i0 (.int .i64 0) 8 Try.underlying35 hi0 hz0 hz1 hz2 rfl _ _ _ rfl hown _ A n c (i64s l) rfl hnl hr3 (one_ints _ _) (by unfold maxLen; omega) (by omega) hs3 ?_)
    intro v4 w4 hown4 hg4 _
    have hb4 : Below w2.heap.size w2 w4 := (b_alloc w2 _).grown hg4 (b_alloc w2 _).size fun k hk => by simp [Value.ownBlock] at hk; omega
    have hb04 := below_new hb2 hb4
    have hr4 := hr2.new hb4
    obtain ⟨A4, c4, rfl, _, _⟩ := own_form hown4
    have hi4 : Rds w4 (fun _ => True) A4 (i64s l) := by
      have := (own_rds hown4).mono (S' := fun _ => True) fun _ _ => trivial
      simpa using this
    have hps := pstable_any (fun _ => True) A4 n c4 l a t w4 hn hi4 (by omega)
    have hrs := fun W (h : Below w4.heap.size w4 W) => rstable_any S A n c l a t W hn (hr4.new h) hn9
    have hlo := fun h => K.stb_lo (l := l) (a := a) (t := t) h
    have hhi : t ≤ a → K.stb l a t = a := fun h => by unfold K.stb; rw [if_pos h]
    generalize K.stb l a t = z at *
    have HPS := Lib.hid hps
    have HRS := Lib.hid hrs
    have HLO := Lib.hid hlo
    have HHI := Lib.hid hhi
    clear hlo hhi hps hrs hown hown4 hg4 hb4 hr3 hr4 hi4 hr2 hnl hi0 hz0 hz1 hz2 hs3 hr
    go_wp2_with fail
    refine HPS.out.mono ?_
    rintro e w5 ⟨rfl, hb5⟩
    have hb05 := below_new hb04 hb5
    go_wp2_with fail
    refine (HRS.out _ hb5).mono ?_
    rintro e w6 ⟨rfl, rfl⟩
    by_cases h : t ≤ a
    · have hz := HHI.out (by omega)
      subst hz
      go_wp2
      go_ret
      exact ⟨rfl, hb05⟩
    · obtain ⟨h1, h2⟩ := HLO.out (by omega)
      go_wp2
      go_ret
      exact ⟨rfl, hb05⟩

/-! ### how far a step leads -/
theorem K.stp_no {F : Nat → Int} {x t : Int} (h : K.ok F t = false) : K.stp F x t = 0 ∧ K.err F t = 2 := by
  unfold K.stp K.err
  rw [h]
  exact ⟨rfl, rfl⟩
theorem K.stp_bd {F : Nat → Int} {x t : Int} (h : K.ok F t = true) :
    t - F 11 ≤ K.stp F x t ∧ K.stp F x t ≤ t + F 10 ∧ (F 6 ≤ t → t ≤ F 7 → F 6 ≤ K.stp F x t ∧ K.stp F x t ≤ F 7) ∧ (t < F 6 → t < K.stp F x t ∧ K.stp F x t ≤ F 7) ∧ (F 7 < t → K.stp F x t < t ∧ F 6 ≤ K.stp F x t) := by
  obtain ⟨hr, h0, h1⟩ := K.ok_all h
  have hp := K.rp_all hr
  have ha := ask_lo hr (K.ld x)
  have hw : F 6 ≤ K.wnt F x t ∧ K.wnt F x t ≤ F 7 := by
    unfold K.wnt
    split
    · unfold S.within
      split
      · omega
      · split <;> omega
    · omega
  unfold K.stp
  rw [if_pos h]
  unfold S.within
  split
  · omega
  · split <;> omega

set_option maxRecDepth 100000 in
set_option maxHeartbeats 4000000 in
theorem decbounds_main (F : Nat → Int) (x t : Int) (w : World) : Calls Try.prog 5 #[pv F, .int .i64 x, .int .i64 t] w fun e w' => e = .returned (.bool true) ∧ Below w.heap.size w w' := by
  obtain ⟨w1, hw1⟩ : ∃ W, w.alloc (.cells (pcs F) 23) = W := ⟨_, rfl⟩
  have hb1 : Below w.heap.size w w1 := by rw [← hw1]; exact b_alloc _ _
  have hX1 : Blo w1 w.heap.size 23 (pcs F) := by rw [← hw1]; exact Blo.made _ _ _
  have HW1 := Lib.hid hw1
  have h1 := fun W => pstep_any F x t W
  have h2 := fun W => rightpol_any F W
  cases hok : K.ok F t with
  | false =>
    rw [(K.stp_no (x := x) hok).1, (K.stp_no (x := x) hok).2] at h1
    have HNO : Hid (E.rp F = false ∨ E.rp F = true ∧ (t < 0 ∨ 0 ≤ t ∧ 1000 < t)) := Lib.hid (by
      cases hr : E.rp F with
      | false => exact .inl rfl
      | true =>
        refine .inr ⟨rfl, ?_⟩
        unfold K.ok at hok
        rw [hr] at hok
        simp at hok
        omega)
    generalize E.rp F = r at *
    have H1 := Lib.hid h1
    have H2 := Lib.hid h2
    clear h1 h2 hok hw1
    go_enter Try.func5, Try.ntmps5
    go_wp2_with fail
    refine (decalive_any _).mono ?_
    rintro e w2 ⟨rfl, hb2⟩
    rw [HW1.out] at hb2
    have hX2 := hX1.new hb2
    have hb02 := below_new hb1 hb2
    obtain ⟨k0, k1, k2, k3, k4, k5, k6⟩ := pol_box F hX2
    clear hb1 hb2 hX1
    go_wp2_with fail
    refine (H1.out _).mono ?_
    rintro e w3 ⟨rfl, hb3⟩
    clear k0 k1 k2 k3 k4 k5 k6
    have hX3 := hX2.new hb3
    have hb03 := below_new hb02 hb3
    obtain ⟨k0, k1, k2, k3, k4, k5, k6⟩ := pol_box F hX3
    clear hb02 hb3 hX2
    go_wp2_with fail
    refine (H2.out _).mono ?_
    rintro e w4 ⟨rfl, hb4⟩
    have hb04 := below_new hb03 hb4
    clear k0 k1 k2 k3 k4 k5 k6
    rcases HNO.out with hr | ⟨hr, ht | ⟨ht, ht2⟩⟩
    · subst hr
      clear HNO
      go_wp2
      go_ret
      exact ⟨rfl, hb04⟩
    · subst hr
      clear HNO
      go_wp2
      go_ret
      exact ⟨rfl, hb04⟩
    · subst hr
      have ht1 : ¬ t < 0 := by omega
      clear HNO
      go_wp2
      go_ret
      exact ⟨rfl, hb04⟩
  | true =>
    obtain ⟨hr, ht0, ht1⟩ := K.ok_all hok
    have hp := K.rp_all hr
    obtain ⟨g1, g2, g3, g4, g5⟩ := K.stp_bd (x := x) hok
    rw [K.ok_err hok] at h1
    rw [hr] at h2
    generalize K.stp F x t = a at *
    have H1 := Lib.hid h1
    have H2 := Lib.hid h2
    have q1 : IntKind.i64.wrap (t + F 10) = t + F 10 := IntWalk.i64_in _ (by omega)
    have q2 : IntKind.i64.wrap (t - F 11) = t - F 11 := IntWalk.i64_in _ (by omega)
    have n1 : ¬ t < 0 := by omega
    have n2 : ¬ 1000 < t := by omega
    have n3 : ¬ t + F 10 < a := by omega
    have n4 : ¬ a < t - F 11 := by omega
    have G3 := Lib.hid g3
    have G4 := Lib.hid g4
    have G5 := Lib.hid g5
    clear h1 h2 hok hw1 hp hr g1 g2 g3 g4 g5
    go_enter Try.func5, Try.ntmps5
    go_wp2_with fail
    refine (decalive_any _).mono ?_
    rintro e w2 ⟨rfl, hb2⟩
    rw [HW1.out] at hb2
    have hX2 := hX1.new hb2
    have hb02 := below_new hb1 hb2
    obtain ⟨k0, k1, k2, k3, k4, k5, k6⟩ := pol_box F hX2
    clear hb1 hb2 hX1
    go_wp2_with fail
    refine (H1.out _).mono ?_
    rintro e w3 ⟨rfl, hb3⟩
    clear k0 k1 k2 k3 k4 k5 k6
    have hX3 := hX2.new hb3
    have hb03 := below_new hb02 hb3
    obtain ⟨k0, k1, k2, k3, k4, k5, k6⟩ := pol_box F hX3
    clear hb02 hb3 hX2
    go_wp2_with fail
    refine (H2.out _).mono ?_
    rintro e w4 ⟨rfl, hb4⟩
    have hX4 := hX3.new hb4
    have hb04 := below_new hb03 hb4
    clear k0 k1 k2 k3 k4 k5 k6
    obtain ⟨k0, k1, k2, k3, k4, k5, k6⟩ := pol_box F hX4
    clear hb03 hb4 hX3
    by_cases hlo : t < F 6
    · obtain ⟨f1, f2⟩ := G4.out hlo
      have f3 : ¬ F 6 ≤ t := by omega
      go_wp2
      go_ret
      exact ⟨rfl, hb04⟩
    · have f3 : F 6 ≤ t := by omega
      by_cases hhi : F 7 < t
      · obtain ⟨f1, f2⟩ := G5.out hhi
        have f4 : ¬ t ≤ F 7 := by omega
        go_wp2
        go_ret
        exact ⟨rfl, hb04⟩
      · have f4 : t ≤ F 7 := by omega
        obtain ⟨f1, f2⟩ := G3.out f3 f4
        go_wp2
        go_ret
        exact ⟨rfl, hb04⟩
end Go.Proofs.Ytdppabnhflaoeaa
