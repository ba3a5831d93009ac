/- Layer 11, the program's: Stable, Steps. -/
import Derived.Test.YtdppabnhflaoeaaDecP3
import Derived.Test.YtdppabnhflaoeaaDecRef2
namespace Go.Proofs.Ytdppabnhflaoeaa
set_option linter.unusedVariables false
set_option linter.unusedSimpArgs false
open Go.ChangeShapes Go.WideShapes Go.ChangeAt Go.RowKit

set_option maxRecDepth 100000 in
set_option maxHeartbeats 4000000 in
theorem pstable_any (S : Nat → Prop) (A : Option Addr) (n c : Nat) (l : List Int) (a t : Int) (w : World) (hn : l.length = n) (hr : Rds w S A (i64s l)) (hl : n ≤ 900000) :
    Calls Try.prog 13 #[.slice A n c, .int .i64 a, .int .i64 t] w fun e w' => e = .returned (.int .i64 (K.stb l a t)) ∧ Below w.heap.size w w' := by
  have HN := Lib.hid hn
  clear hn
  by_cases h : t ≤ a
  · have HV : Hid (K.stb l a t = a) := Lib.hid (by unfold K.stb; rw [if_pos h])
    go_enter Try.func13, Try.ntmps13
    go_wp2
    go_ret
    rw [HV.out]
    exact ⟨rfl, Below.refl _ _⟩
  · have HV : Hid (K.stb l a t = if t < K.top a l then t else K.top a l) := Lib.hid (by unfold K.stb; rw [if_neg h])
    go_enter Try.func13, Try.ntmps13
    go_wp2_with fail
    go_loopw [1, 15] (fun av iv wr => ∃ i : Nat, iv = .int .i64 i ∧ i ≤ n ∧ av = .int .i64 (K.top a (l.take i)) ∧ w = wr) (fun _ iv _ => n - (intOf iv).toNat)
    case atStart => exact ⟨0, rfl, by omega, rfl, rfl⟩
    case round =>
      obtain ⟨i, rfl, hi, rfl, rfl⟩ := hrel
      by_cases hlt : i < n
      · have hlt' : i < l.length := by rw [HN.out]; exact hlt
        have hiN : (i : Int) < (n : Int) := by omega
        obtain ⟨ad, rfl, hc⟩ := i64s_at hr hlt'
        have HT : Hid (K.top a (l.take (i + 1)) = max (K.top a (l.take i)) l[i]) := Lib.hid (by rw [K.top_take (a := a) hlt', Int.max_def]; split <;> split <;> omega)
        generalize l[i] = x at *
        generalize K.top a (l.take i) = b at *
        go_wp2
        go_roundw
        case rel => exact ⟨i + 1, by go_num, by omega, by rw [HT.out], by trivial⟩
        case measure => simp [intOf]; omega
      · have hiN : ¬ (i : Int) < (n : Int) := by omega
        have hll : l.take i = l := List.take_of_length_le (by rw [HN.out]; omega)
        rw [hll]
        clear hll
        generalize K.top a l = b at *
        have HV2 : Hid (K.stb l a t = min b t) := Lib.hid (by rw [HV.out, Int.min_def]; split <;> split <;> omega)
        go_wp2
        go_ret
        rw [HV2.out]
        exact ⟨rfl, Below.refl _ _⟩
set_option maxRecDepth 100000 in
set_option maxHeartbeats 4000000 in
theorem psteps_any (F : Nat → Int) (x t : Int) (w : World) : Calls Try.prog 11 #[pv F, .int .i64 x, .int .i64 t] w fun e w' => e = .returned (.tuple #[.int .i64 (K.sts F x t).1, .int .i64 (K.sts F x t).2.1, .int .i64 (K.sts F x t).2.2]) ∧ Below w.heap.size w w' := by
  obtain ⟨w1, hw1⟩ : ∃ W, w.alloc (.cells (pcs F) 23) = W := ⟨_, rfl⟩
  have hb1 : Below w.heap.size w w1 := by rw [← hw1]; exact b_alloc _ _
  have hX1 : Blo w1 w.heap.size 23 (pcs F) := by rw [← hw1]; exact Blo.made _ _ _
  have HW1 := Lib.hid hw1
  clear hw1
  by_cases hok : K.ok F t = true
  · have HV : Hid (K.sts F x t = (((K.run (K.stp F x) 1001 t).1 : Int), (K.run (K.stp F x) 1001 t).2, 0)) := Lib.hid (by unfold K.sts; rw [if_pos hok])
    go_enter Try.func11, Try.ntmps11
    go_wp2_with fail
    rw [HW1.out]
    go_loopw [2, 6] (fun tv nv wr => ∃ (u : Int) (n : Nat), tv = .int .i64 u ∧ nv = .int .i64 n ∧ n ≤ 1001 ∧ K.ok F u = true ∧ Hid ((K.run (K.stp F x) 1001 t).1 = n + (K.run (K.stp F x) (1001 - n) u).1 ∧ (K.run (K.stp F x) 1001 t).2 = (K.run (K.stp F x) (1001 - n) u).2) ∧ Blo wr w.heap.size 23 (pcs F) ∧ Below w.heap.size w wr) (fun _ nv _ => 1001 - (intOf nv).toNat)
    case atStart => exact ⟨t, 0, rfl, rfl, by omega, hok, Lib.hid ⟨by simp, rfl⟩, hX1, hb1⟩
    case round =>
      clear hX1 hb1 hok
      obtain ⟨u, n, rfl, rfl, hn, hok, HR, hX, hb⟩ := hrel
      by_cases hn1 : n = 1001
      · subst hn1
        have HV2 : Hid (K.sts F x t = (1001, u, 0)) := Lib.hid (by rw [HV.out, HR.out.1, HR.out.2]; rfl)
        clear HV HR hok hX
        go_wp2
        refine bodyPost_ret (v := .tuple #[.int .i64 1001, .int .i64 u, .int .i64 0]) ?_ rfl ?_
        · simp [results, Try.results11, go_sem]
        · rw [HV2.out]
          exact ⟨rfl, hb⟩
      · have hn2 : (n : Int) < 1001 := by omega
        have hn3 : ¬ (n : Int) = 1001 := by omega
        obtain ⟨k0, k1, k2, k3, k4, k5, k6⟩ := pol_box F hX
        have hst := pstep_any F x u wr
        rw [K.ok_err hok] at hst
        have HOK := Lib.hid (K.stp_ok (x := x) hok)
        obtain ⟨v, hv⟩ : ∃ v, v = K.stp F x u := ⟨_, rfl⟩
        rw [← hv] at hst HOK
        have HVV := Lib.hid hv
        clear hv hok
        go_wp2_with fail
        refine hst.mono ?_
        rintro e w2 ⟨rfl, hb2⟩
        have hX2 := hX.new hb2
        have hb02 := below_new hb hb2
        clear k0 k1 k2 k3 k4 k5 k6 hst hX hb hb2
        by_cases huv : v = u
        · subst huv
          have HV2 : Hid (K.sts F x t = ((n : Int), v, 0)) := Lib.hid (by
            rw [HV.out, HR.out.1, HR.out.2]
            cases h : 1001 - n with
            | zero => rw [K.run_zero]; simp
            | succ m => rw [K.run_end _ HVV.out.symm]; simp)
          have hvv : (v == v) = true := by simp
          clear HV HR HVV
          go_wp2
          refine bodyPost_ret (v := .tuple #[.int .i64 n, .int .i64 v, .int .i64 0]) ?_ rfl ?_
          · simp [results, Try.results11, go_sem]
          · rw [HV2.out]
            exact ⟨rfl, hb02⟩
        · have hvv : (v == u) = false := by simpa using huv
          have HR2 : Hid ((K.run (K.stp F x) 1001 t).1 = (n + 1) + (K.run (K.stp F x) (1001 - (n + 1)) v).1 ∧ (K.run (K.stp F x) 1001 t).2 = (K.run (K.stp F x) (1001 - (n + 1)) v).2) := Lib.hid (by
            rw [HR.out.1, HR.out.2, show 1001 - n = (1001 - (n + 1)) + 1 by omega, K.run_go _ (by rw [← HVV.out]; exact huv), ← HVV.out]
            exact ⟨by simp only; omega, rfl⟩)
          have HO2 := Lib.hid HOK.out
          clear HR HVV HOK huv
          go_wp2
          go_roundw
          case rel => exact ⟨v, n + 1, rfl, by go_num, by omega, HO2.out, HR2, hX2, hb02⟩
          case measure => simp [intOf]; omega
  · have HV : Hid (K.sts F x t = (0, 0, 2)) := Lib.hid (by unfold K.sts; rw [if_neg hok])
    have hst := fun W => pstep_any F x t W
    have he : K.err F t = 2 := by unfold K.err; rw [if_neg hok]
    rw [he] at hst
    clear he hok
    generalize K.stp F x t = v at hst
    go_enter Try.func11, Try.ntmps11
    go_wp2_with fail
    rw [HW1.out]
    go_loopw [2, 6] (fun tv nv wr => tv = .int .i64 t ∧ nv = .int .i64 0 ∧ wr = w1) (fun _ _ _ => 0)
    case atStart => exact ⟨rfl, rfl, rfl⟩
    case round =>
      obtain ⟨rfl, rfl, rfl⟩ := hrel
      obtain ⟨k0, k1, k2, k3, k4, k5, k6⟩ := pol_box F hX1
      go_wp2_with fail
      refine (hst _).mono ?_
      rintro e w2 ⟨rfl, hb2⟩
      have hb02 := below_new hb1 hb2
      clear k0 k1 k2 k3 k4 k5 k6
      go_wp2
      refine bodyPost_ret (v := .tuple #[.int .i64 0, .int .i64 0, .int .i64 2]) ?_ rfl ?_
      · simp [results, Try.results11, go_sem]
      · rw [HV.out]
        exact ⟨rfl, hb02⟩
end Go.Proofs.Ytdppabnhflaoeaa
