/- Layer 11: what DecideRests comes to. -/
import Derived.Test.YtdppabnhflaoeaaDecLaw1
namespace Go.Proofs.Ytdppabnhflaoeaa
set_option linter.unusedVariables false
set_option linter.unusedSimpArgs false
open Go.ChangeShapes Go.WideShapes Go.ChangeAt Go.RowKit

set_option maxRecDepth 100000 in
set_option maxHeartbeats 8000000 in
theorem decrests_main (F : Nat → Int) (x t : Int) (w : World) : Calls Try.prog 7 #[pv F, .int .i64 x, .int .i64 t] w fun e w' => e = .returned (.bool true) ∧ Below w.heap.size w w' := by
  obtain ⟨w1, hw1⟩ : ∃ W, w.alloc (.cells (pcs F) 23) = W := ⟨_, rfl⟩
  have hb1 : Below w.heap.size w w1 := by rw [← hw1]; exact b_alloc _ _
  have hX1 : Blo w1 w.heap.size 23 (pcs F) := by rw [← hw1]; exact Blo.made _ _ _
  have HW1 := Lib.hid hw1
  have h1 := fun W => psteps_any F x t W
  cases hok : K.ok F t with
  | false =>
    have hs : K.sts F x t = (0, 0, 2) := by unfold K.sts; rw [hok]; rfl
    rw [hs] at h1
    have H1 := Lib.hid h1
    clear h1 hs hok hw1
    go_enter Try.func7, Try.ntmps7
    go_wp2_with fail
    refine (decalive_any _).mono ?_
    rintro e w2 ⟨rfl, hb2⟩
    rw [HW1.out] at hb2
    have hX2 := hX1.new hb2
    have hb02 := below_new hb1 hb2
    obtain ⟨k0, k1, k2, k3, k4, k5, k6⟩ := pol_box F hX2
    clear hb1 hb2 hX1
    go_wp2_with fail
    refine (H1.out _).mono ?_
    rintro e w3 ⟨rfl, hb3⟩
    have hb03 := below_new hb02 hb3
    clear k0 k1 k2 k3 k4 k5 k6
    go_wp2
    go_ret
    exact ⟨rfl, hb03⟩
  | true =>
    obtain ⟨f, hf⟩ : ∃ f, f = K.stp F x := ⟨_, rfl⟩
    obtain ⟨n, hn⟩ : ∃ n, n = (K.run f 1001 t).1 := ⟨_, rfl⟩
    have hs : K.sts F x t = ((n : Int), K.it f n t, 0) := by
      unfold K.sts
      rw [hok, if_pos rfl, ← hf, K.run_it, ← hn]
    rw [hs] at h1
    have hn1 : n ≤ 1000 := by rw [hn, hf]; exact K.run_1000 hok
    have HST : Hid (∀ (k : Nat) W, Calls Try.prog 9 #[pv F, .int .i64 x, .int .i64 (K.it f k t)] W fun e w' => e = .returned (.tuple #[.int .i64 (K.it f (k + 1) t), .int .i64 0]) ∧ Below W.heap.size W w') := Lib.hid (fun k W => by
      have h := pstep_any F x (K.it f k t) W
      have e1 : K.stp F x (K.it f k t) = K.it f (k + 1) t := by rw [K.it_succ, hf]
      have e2 : K.err F (K.it f k t) = 0 := K.ok_err (by rw [hf]; exact K.it_ok hok k)
      rw [e1, e2] at h
      exact h)
    have HBD : Hid (∀ k : Nat, 0 ≤ K.it f k t ∧ K.it f k t ≤ 1000) := Lib.hid (fun k => by rw [hf]; exact (K.ok_all (K.it_ok hok k)).2)
    have HMV : Hid (∀ k : Nat, k < n → K.it f (k + 1) t ≠ K.it f k t) := Lib.hid (fun k hk => by rw [K.it_succ]; exact K.run_moves f 1001 t k (by rw [← hn]; exact hk))
    have HND : Hid (K.it f (n + 1) t = K.it f n t) := Lib.hid (by rw [K.it_succ, hn]; exact K.run_rests f 1001 t (by rw [← hn]; omega))
    have hud : (∀ k : Nat, K.it f k t ≤ K.it f (k + 1) t) ∨ (∀ k : Nat, K.it f (k + 1) t ≤ K.it f k t) := by
      rw [hf]
      rcases Int.le_total t (askN F (K.ld x)) with g | g
      · exact .inl fun k => by rw [K.it_succ]; exact (K.stp_lo (K.it_ok hok k) (K.it_lo hok g k)).1
      · exact .inr fun k => by rw [K.it_succ]; exact (K.stp_hi (K.it_ok hok k) (K.it_hi hok g k)).2
    have H1 := Lib.hid h1
    have hnn : ¬ (1000 : Int) < (n : Int) := by omega
    have hn0 : ¬ (n : Int) < 0 := by omega
    clear h1 hs hok hw1 hn hf
    go_enter Try.func7, Try.ntmps7
    go_wp2_with fail
    refine (decalive_any _).mono ?_
    rintro e w2 ⟨rfl, hb2⟩
    rw [HW1.out] at hb2
    have hX2 := hX1.new hb2
    have hb02 := below_new hb1 hb2
    obtain ⟨k0, k1, k2, k3, k4, k5, k6⟩ := pol_box F hX2
    clear hb1 hb2 hX1
    go_wp2_with fail
    refine (H1.out _).mono ?_
    rintro e w3 ⟨rfl, hb3⟩
    have hX3 := hX2.new hb3
    have hb03 := below_new hb02 hb3
    clear k0 k1 k2 k3 k4 k5 k6 hX2 hb02 hb3 H1
    rcases hud with hud | hud
    · have HUD := Lib.hid hud
      clear hud
      go_wp2_with fail
      go_loopw [10, 11, 38] (fun av yv iv wr => ∃ (k : Nat) (wy : Int), iv = .int .i64 k ∧ k ≤ n ∧ av = .int .i64 (K.it f k t) ∧ yv = .int .i64 wy ∧ (k = 0 ∧ wy = 0 ∨ 0 < k ∧ 0 < wy) ∧ Blo wr w.heap.size 23 (pcs F) ∧ Below w.heap.size w wr) (fun _ _ iv _ => n - (intOf iv).toNat)
      case atStart => exact ⟨0, 0, rfl, by omega, rfl, rfl, .inl ⟨rfl, rfl⟩, hX3, hb03⟩
      case round =>
        clear hX3 hb03
        obtain ⟨k, wy, rfl, hk, rfl, rfl, hwy, hX, hb⟩ := hrel
        obtain ⟨k0, k1, k2, k3, k4, k5, k6⟩ := pol_box F hX
        by_cases hlt : k < n
        · have hkn : (k : Int) < (n : Int) := by omega
          have hst := HST.out k
          have hmv := HMV.out k hlt
          have hle := HUD.out k
          have ha := HBD.out k
          have hc := HBD.out (k + 1)
          obtain ⟨a, hae⟩ : ∃ a, a = K.it f k t := ⟨_, rfl⟩
          obtain ⟨c, hce⟩ : ∃ c, c = K.it f (k + 1) t := ⟨_, rfl⟩
          rw [← hae] at hst hmv hle ha ⊢
          rw [← hce] at hst hmv hle hc
          have HCE := Lib.hid hce
          clear hae hce
          have hne : (c == a) = false := by simpa using hmv
          have q1 : IntKind.i64.wrap (c - a) = c - a := IntWalk.i64_in _ (by omega)
          have q2 : ¬ c < a := by omega
          have q3 : a < c := by omega
          have HWY : Hid (0 < c - a) := Lib.hid (by omega)
          clear hmv hle ha hc
          go_wp2_with fail
          refine (hst _).mono ?_
          rintro e w4 ⟨rfl, hb4⟩
          have hX4 := hX.new hb4
          have hb04 := below_new hb hb4
          clear k0 k1 k2 k3 k4 k5 k6 hst hX hb hb4
          rcases hwy with ⟨_, rfl⟩ | ⟨_, hwp⟩
          · go_wp2
            go_roundw
            case rel => exact ⟨k + 1, c - a, by go_num, by omega, by rw [HCE.out], rfl, .inr ⟨by omega, HWY.out⟩, hX4, hb04⟩
            case measure => simp [intOf]; omega
          · have q4 : ¬ wy < 0 := by omega
            go_wp2
            go_roundw
            case rel => exact ⟨k + 1, c - a, by go_num, by omega, by rw [HCE.out], rfl, .inr ⟨by omega, HWY.out⟩, hX4, hb04⟩
            case measure => simp [intOf]; omega
        · obtain rfl : k = n := by omega
          have hst := HST.out k
          rw [HND.out] at hst
          generalize K.it f k t = a at *
          have hlt2 : ¬ (k : Int) < (k : Int) := by omega
          clear HST HBD HMV HND HUD hwy
          go_wp2_with fail
          refine (hst _).mono ?_
          rintro e w4 ⟨rfl, hb4⟩
          have hb04 := below_new hb hb4
          clear k0 k1 k2 k3 k4 k5 k6
          go_wp2
          go_ret
          exact ⟨rfl, hb04⟩
    · have HUD := Lib.hid hud
      clear hud
      go_wp2_with fail
      go_loopw [10, 11, 38] (fun av yv iv wr => ∃ (k : Nat) (wy : Int), iv = .int .i64 k ∧ k ≤ n ∧ av = .int .i64 (K.it f k t) ∧ yv = .int .i64 wy ∧ (k = 0 ∧ wy = 0 ∨ 0 < k ∧ wy < 0) ∧ Blo wr w.heap.size 23 (pcs F) ∧ Below w.heap.size w wr) (fun _ _ iv _ => n - (intOf iv).toNat)
      case atStart => exact ⟨0, 0, rfl, by omega, rfl, rfl, .inl ⟨rfl, rfl⟩, hX3, hb03⟩
      case round =>
        clear hX3 hb03
        obtain ⟨k, wy, rfl, hk, rfl, rfl, hwy, hX, hb⟩ := hrel
        obtain ⟨k0, k1, k2, k3, k4, k5, k6⟩ := pol_box F hX
        by_cases hlt : k < n
        · have hkn : (k : Int) < (n : Int) := by omega
          have hst := HST.out k
          have hmv := HMV.out k hlt
          have hle := HUD.out k
          have ha := HBD.out k
          have hc := HBD.out (k + 1)
          obtain ⟨a, hae⟩ : ∃ a, a = K.it f k t := ⟨_, rfl⟩
          obtain ⟨c, hce⟩ : ∃ c, c = K.it f (k + 1) t := ⟨_, rfl⟩
          rw [← hae] at hst hmv hle ha ⊢
          rw [← hce] at hst hmv hle hc
          have HCE := Lib.hid hce
          clear hae hce
          have hne : (c == a) = false := by simpa using hmv
          have q1 : IntKind.i64.wrap (c - a) = c - a := IntWalk.i64_in _ (by omega)
          have q2 : ¬ a < c := by omega
          have q3 : c < a := by omega
          have HWY : Hid (c - a < 0) := Lib.hid (by omega)
          clear hmv hle ha hc
          go_wp2_with fail
          refine (hst _).mono ?_
          rintro e w4 ⟨rfl, hb4⟩
          have hX4 := hX.new hb4
          have hb04 := below_new hb hb4
          clear k0 k1 k2 k3 k4 k5 k6 hst hX hb hb4
          rcases hwy with ⟨_, rfl⟩ | ⟨_, hwp⟩
          · go_wp2
            go_roundw
            case rel => exact ⟨k + 1, c - a, by go_num, by omega, by rw [HCE.out], rfl, .inr ⟨by omega, HWY.out⟩, hX4, hb04⟩
            case measure => simp [intOf]; omega
          · have q4 : ¬ 0 < wy := by omega
            go_wp2
            go_roundw
            case rel => exact ⟨k + 1, c - a, by go_num, by omega, by rw [HCE.out], rfl, .inr ⟨by omega, HWY.out⟩, hX4, hb04⟩
            case measure => simp [intOf]; omega
        · obtain rfl : k = n := by omega
          have hst := HST.out k
          rw [HND.out] at hst
          generalize K.it f k t = a at *
          have hlt2 : ¬ (k : Int) < (k : Int) := by omega
          clear HST HBD HMV HND HUD hwy
          go_wp2_with fail
          refine (hst _).mono ?_
          rintro e w4 ⟨rfl, hb4⟩
          have hb04 := below_new hb hb4
          clear k0 k1 k2 k3 k4 k5 k6
          go_wp2
          go_ret
          exact ⟨rfl, hb04⟩
end Go.Proofs.Ytdppabnhflaoeaa
