/- The walk of MixDraws. -/
import Derived.Test.YtabilkjfijljbaaMixAlive
namespace Go.Proofs.Ytabilkjfijljbaa
open Go.ChangeShapes Go.WideShapes Go.ChangeAt Go.RowKit

set_option maxHeartbeats 400000 in
theorem mixDraws_big (s : Int) (a : Option Addr) (len cap : Nat) (w : World) (hl : 1000 < len) (hm : len ≤ maxLen) :
    Calls Try.prog 4 #[.int .u64 s, .slice a len cap] w fun e w' => e = .returned (.bool true) ∧ Below w.heap.size w w' := by
  unfold maxLen at hm
  go_enter Try.func4, Try.ntmps4
  go_wp2_with fail
  refine (mix_alive w).mono ?_
  rintro e w1 ⟨rfl, hb⟩
  go_wp2
  go_ret
  exact ⟨rfl, hb⟩

set_option maxRecDepth 100000 in
set_option maxHeartbeats 1000000 in
theorem mixDraws_yes (s : Nat) (a : Option Addr) (cap : Nat) (l : List Int) (w : World) (hl : l.length ≤ 1000) (hr : Rds w (· < w.heap.size) a (i64s l)) (hk : ∀ n ∈ l, -9223372036854775808 ≤ n ∧ n < 9223372036854775808) :
    Calls Try.prog 4 #[.int .u64 (s : Int), .slice a l.length cap] w fun e w' => e = .returned (.bool true) ∧ Below w.heap.size w w' := by
  go_enter Try.func4, Try.ntmps4
  go_wp2_with fail
  refine (mix_alive w).mono ?_
  rintro e w1 ⟨rfl, hb1⟩
  have hr1 := hr.new hb1
  clear hr
  go_wp2
  go_loopw [22, 5, 6] (fun iv av bv wr => ∃ i s : Nat, iv = .int .i64 i ∧ av = .int .u64 (s : Int) ∧ bv = .int .u64 (s : Int) ∧ i ≤ l.length ∧ Drew w1 wr) (fun iv _ _ _ => l.length - (intOf iv).toNat)
  case atStart => exact ⟨0, s, rfl, rfl, rfl, by omega, Drew.refl _⟩
  case round =>
    obtain ⟨i, s, rfl, rfl, rfl, hi, hd⟩ := hrel
    have hrr := hd.rds hr1
    by_cases hlt : i < l.length
    · obtain ⟨ad, rfl, _, hc⟩ := hrr.int hlt
      obtain ⟨k0, k1⟩ := hk _ (List.getElem_mem hlt)
      generalize l[i] = n at *
      have Q : X.draw s n = 0 ∧ n ≤ 0 ∨ ((X.draw s n : Nat) : Int) < n ∧ 0 < n := by
        by_cases h : 0 < n
        · exact .inr ⟨X.draw_lt s n h, h⟩
        · exact .inl ⟨by unfold X.draw; rw [if_pos (by omega)], by omega⟩
      have D1 := fun w => draw_any s n w k1 k0
      have D2 := fun w => rdraw_any s n w k1 k0
      have D3 := fun w => draw_any s 7 w (by omega) (by omega)
      generalize X.draw s n = k at *
      generalize X.draw s 7 = k7 at *
      generalize X.next s = t at *
      go_wp2_with fail
      refine (D1 wr).mono ?_
      rintro e w2 ⟨rfl, hd2⟩
      go_wp2_with fail
      refine (D2 w2).mono ?_
      rintro e w3 ⟨rfl, hd3⟩
      clear D1 D2
      have hd' := hd.trans (hd2.trans hd3)
      rcases Q with ⟨rfl, hn⟩ | ⟨hkn, hn⟩
      all_goals
        go_wp2_with fail
        refine (D3 w3).mono ?_
        rintro e w4 ⟨rfl, hd4⟩
        go_wp2
        go_roundw
        case rel => exact ⟨i + 1, t, by go_num, rfl, rfl, by omega, hd'.trans hd4⟩
        case measure => simp [intOf]; omega
    · have hbb := hb1.trans (hd.below _)
      go_wp2
      go_ret
      exact ⟨rfl, hbb⟩

theorem mixDraws_walk (s : Int) (a : Option Addr) (len cap : Nat) (zs : List Int) (w : World) (hs : (Lit.int .u64 s).wf = true) (h : RowIn .i64 w a len cap zs) :
    Calls Try.prog 4 #[.int .u64 s, .slice a len cap] w fun e w' => e = .returned (.bool true) ∧ Below w.heap.size w w' := by
  by_cases hl : 1000 < len
  · exact mixDraws_big s a len cap w hl h.max
  · have e1 : IntKind.u64.min = 0 := by decide
    have e2 : IntKind.u64.max = 18446744073709551615 := by decide
    simp [Lit.wf, e1, e2] at hs
    obtain ⟨n, rfl⟩ := Int.eq_ofNat_of_zero_le hs.1
    have l0 := h.len.1
    have e0 : (.slice a len cap : Value) = .slice a (zs.take len).length cap := by rw [l0]
    rw [e0]
    refine mixDraws_yes n a cap _ w (by omega) h.rds fun m hm => ?_
    have hm' := List.mem_of_mem_take hm
    rcases h with ⟨_, _, _, rfl⟩ | ⟨x, _, _, _, _, _, hw⟩
    · simp at hm'
    · have := hw m hm'
      have e3 : IntKind.i64.min = -9223372036854775808 := by decide
      have e4 : IntKind.i64.max = 9223372036854775807 := by decide
      simp [Lit.wf, e3, e4] at this
      omega
end Go.Proofs.Ytabilkjfijljbaa
