/- More of layer 6's mathematics: closing, dot by dot. -/
import Derived.Test.YtedcgfcmhaeldaaDotMath
namespace Go.Proofs.Ytedcgfcmhaeldaa.D
set_option linter.unusedVariables false
set_option linter.unusedSimpArgs false

/-! ### closing, dot by dot -/
/-- Each node's Upto when k dots have been looked at. -/
def pU (S : Dot → Bool) (k : Nat) : Nat → Int := fun j => ((min (gap S j) (k - j * 96) : Nat) : Int)
/-- The dots beyond the gaps. -/
def pM (S : Dot → Bool) (k : Nat) : List Dot := (pre S k).filter (far S)
theorem pU_zero (S : Dot → Bool) : pU S 0 = fun _ => 0 := by funext j; simp [pU]
theorem pM_zero (S : Dot → Bool) : pM S 0 = [] := rfl
theorem pM_len (S : Dot → Bool) (k : Nat) : (pM S k).length ≤ k := Nat.le_trans (List.length_filter_le _ _) (pre_len S k)
theorem pU_at (S : Dot → Bool) {n i : Nat} (hi : i < 96) : pU S (n * 96 + i) n = ((min (gap S n) i : Nat) : Int) := by
  unfold pU; rw [show n * 96 + i - n * 96 = i by omega]
theorem pU_in (S : Dot → Bool) (k j : Nat) : 0 ≤ pU S k j ∧ pU S k j ≤ 96 := by have := gap_le S j; unfold pU; omega
theorem pU_skip {S : Dot → Bool} {n i : Nat} (hi : i < 96) (h : min (gap S n) (i + 1) = min (gap S n) i) : pU S (n * 96 + i + 1) = pU S (n * 96 + i) := by
  funext j
  unfold pU
  have := gap_le S j
  rcases Nat.lt_trichotomy j n with h1 | h1 | h1
  · omega
  · subst h1
    rw [show j * 96 + i + 1 - j * 96 = i + 1 by omega, show j * 96 + i - j * 96 = i by omega, h]
  · omega
/-- A dot that isn't there changes nothing. -/
theorem cl_no {S : Dot → Bool} {n i : Nat} (hi : i < 96) (h : S ((n : Int), (i : Int) + 1) = false) : pU S (n * 96 + i + 1) = pU S (n * 96 + i) ∧ pM S (n * 96 + i + 1) = pM S (n * 96 + i) := by
  refine ⟨pU_skip hi ?_, ?_⟩
  · rcases Nat.lt_or_ge i (gap S n) with h1 | h1
    · rw [gap_all h1] at h; cases h
    · omega
  · unfold pM; rw [pre_no (by rw [dt_at n i hi]; exact h)]
/-- One that is there, right behind the others. -/
theorem cl_up {S : Dot → Bool} {n i : Nat} (hi : i < 96) (h : S ((n : Int), (i : Int) + 1) = true) (hu : (i : Int) + 1 = pU S (n * 96 + i) n + 1) :
    (pU S (n * 96 + i + 1) = fun j => if j = n then (i : Int) + 1 else pU S (n * 96 + i) j) ∧ pM S (n * 96 + i + 1) = pM S (n * 96 + i) := by
  rw [pU_at S hi] at hu
  have hg : i < gap S n := by
    rcases Nat.lt_or_ge i (gap S n) with h1 | h1
    · exact h1
    · have e : gap S n = i := by omega
      have := gap_stop (S := S) (n := n) (by omega)
      rw [e, h] at this; cases this
  constructor
  · funext j
    have := gap_le S j
    by_cases hj : j = n
    · subst hj
      rw [if_pos rfl]
      unfold pU
      rw [show j * 96 + i + 1 - j * 96 = i + 1 by omega]
      omega
    · rw [if_neg hj]
      unfold pU
      rcases Nat.lt_or_ge j n with h1 | h1
      · omega
      · omega
  · unfold pM
    rw [pre_yes (by rw [dt_at n i hi]; exact h), dt_at n i hi, List.filter_append]
    have : far S ((n : Int), (i : Int) + 1) = false := by simp [far]; omega
    simp [this]
/-- One that is there, beyond a gap. -/
theorem cl_more {S : Dot → Bool} {n i : Nat} (hi : i < 96) (h : S ((n : Int), (i : Int) + 1) = true) (hu : ¬ (i : Int) + 1 = pU S (n * 96 + i) n + 1) :
    pU S (n * 96 + i + 1) = pU S (n * 96 + i) ∧ pM S (n * 96 + i + 1) = pM S (n * 96 + i) ++ [((n : Int), (i : Int) + 1)] := by
  rw [pU_at S hi] at hu
  refine ⟨pU_skip hi (by omega), ?_⟩
  unfold pM
  rw [pre_yes (by rw [dt_at n i hi]; exact h), dt_at n i hi, List.filter_append]
  have : far S ((n : Int), (i : Int) + 1) = true := by simp [far]; omega
  simp [this]
theorem pU_end (S : Dot → Bool) {j : Nat} (hj : j < 8) : pU S 768 j = cU S j := by have := gap_le S j; unfold pU cU; omega
theorem pM_end (S : Dot → Bool) : pM S 768 = cM S := rfl
end Go.Proofs.Ytedcgfcmhaeldaa.D
