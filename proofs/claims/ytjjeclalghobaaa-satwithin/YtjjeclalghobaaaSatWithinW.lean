/- The walk of the law SatWithin. -/
import Derived.Test.YtjjeclalghobaaaSatAlive
namespace Go.Proofs.Ytjjeclalghobaaa
open Go.ChangeShapes Go.WideShapes Go.ChangeAt Go.RowKit

theorem w_hi {n lo hi : Int} (h : hi < n) : S.within n lo hi = hi := by unfold S.within; rw [if_pos h]
theorem w_lo {n lo hi : Int} (h : ¬ hi < n) (k : n < lo) : S.within n lo hi = lo := by unfold S.within; rw [if_neg h, if_pos k]
theorem w_id {n lo hi : Int} (h : ¬ hi < n) (k : ¬ n < lo) : S.within n lo hi = n := by unfold S.within; rw [if_neg h, if_neg k]

set_option maxHeartbeats 400000 in
theorem sw_order (n lo hi x : Int) (w : World) (hx : Hid (S.within n lo hi = x)) (h0 : hi < lo) (h1 : x = hi ∨ x = lo) :
    Calls Try.prog 6 #[.int .i64 n, .int .i64 lo, .int .i64 hi] w fun e w' => e = .returned (.bool true) ∧ Grown w w' := by
  have hne : ((lo : Int) == hi) = false := by simp; omega
  rcases h1 with rfl | rfl
  all_goals
    go_enter Try.func6, Try.ntmps6
    go_wp2_with fail
    refine (alive01 _).mono ?_
    rintro e w1 ⟨rfl, hg⟩
    go_wp2_with fail
    refine (within_any _ _ _ _).mono ?_
    rintro e w2 ⟨rfl, rfl⟩
    rw [hx.out]
    go_wp2
    go_ret
    exact ⟨rfl, hg⟩

set_option maxHeartbeats 400000 in
theorem sw_in (n lo hi x : Int) (w : World) (hx : Hid (S.within n lo hi = x)) (h0 : ¬ hi < lo) (h1 : lo ≤ x) (h2 : x ≤ hi) (h3 : n < lo ∨ hi < n ∨ x = n) :
    Calls Try.prog 6 #[.int .i64 n, .int .i64 lo, .int .i64 hi] w fun e w' => e = .returned (.bool true) ∧ Grown w w' := by
  have hxx := Lib.hid (w_id (n := x) (lo := lo) (hi := hi) (by omega) (by omega))
  by_cases h4 : n < lo
  · clear h3
    go_enter Try.func6, Try.ntmps6
    go_wp2_with fail
    refine (alive01 _).mono ?_
    rintro e w1 ⟨rfl, hg⟩
    go_wp2_with fail
    refine (within_any _ _ _ _).mono ?_
    rintro e w2 ⟨rfl, rfl⟩
    rw [hx.out]
    go_wp2_with fail
    refine (within_any _ _ _ _).mono ?_
    rintro e w2 ⟨rfl, rfl⟩
    rw [hxx.out]
    go_wp2
    go_ret
    exact ⟨rfl, hg⟩
  · by_cases h5 : hi < n
    · clear h3
      go_enter Try.func6, Try.ntmps6
      go_wp2_with fail
      refine (alive01 _).mono ?_
      rintro e w1 ⟨rfl, hg⟩
      go_wp2_with fail
      refine (within_any _ _ _ _).mono ?_
      rintro e w2 ⟨rfl, rfl⟩
      rw [hx.out]
      go_wp2_with fail
      refine (within_any _ _ _ _).mono ?_
      rintro e w2 ⟨rfl, rfl⟩
      rw [hxx.out]
      go_wp2
      go_ret
      exact ⟨rfl, hg⟩
    · obtain rfl : n = x := by omega
      clear h3
      go_enter Try.func6, Try.ntmps6
      go_wp2_with fail
      refine (alive01 _).mono ?_
      rintro e w1 ⟨rfl, hg⟩
      go_wp2_with fail
      refine (within_any _ _ _ _).mono ?_
      rintro e w2 ⟨rfl, rfl⟩
      rw [hx.out]
      go_wp2_with fail
      refine (within_any _ _ _ _).mono ?_
      rintro e w2 ⟨rfl, rfl⟩
      rw [hxx.out]
      go_wp2
      go_ret
      exact ⟨rfl, hg⟩

theorem satWithin_walk (n lo hi : Int) (_ : (Lit.int .i64 n).wf = true) (_ : (Lit.int .i64 lo).wf = true) (_ : (Lit.int .i64 hi).wf = true) (w : World) :
    Calls Try.prog 6 #[.int .i64 n, .int .i64 lo, .int .i64 hi] w fun e w' => e = .returned (.bool true) ∧ Grown w w' := by
  by_cases h0 : hi < lo
  · by_cases h1 : hi < n
    · exact sw_order n lo hi hi w (w_hi h1) h0 (.inl rfl)
    · exact sw_order n lo hi lo w (w_lo h1 (by omega)) h0 (.inr rfl)
  · by_cases h1 : hi < n
    · exact sw_in n lo hi hi w (w_hi h1) h0 (by omega) (by omega) (.inr (.inl h1))
    · by_cases h2 : n < lo
      · exact sw_in n lo hi lo w (w_lo h1 h2) h0 (by omega) (by omega) (.inl h2)
      · exact sw_in n lo hi n w (w_id h1 h2) h0 (by omega) (by omega) (.inr (.inr rfl))
end Go.Proofs.Ytjjeclalghobaaa
