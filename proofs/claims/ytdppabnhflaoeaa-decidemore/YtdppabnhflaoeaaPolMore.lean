/- Layer 9: what is asked for: within bounds, no fewer by more, enough, none too many. -/
import Derived.Test.YtdppabnhflaoeaaPolAsk
namespace Go.Proofs.Ytdppabnhflaoeaa
set_option linter.unusedVariables false
set_option linter.unusedSimpArgs false
open Go.ChangeShapes Go.WideShapes Go.ChangeAt Go.RowKit

/-! PolicyMore's numbers -/
theorem ask_lo {F : Nat → Int} (hr : E.rp F = true) (x : Int) : F 6 ≤ askN F x ∧ askN F x ≤ F 7 ∧ askE F = 0 := by
  have h := hr
  simp [E.rp] at h
  unfold askN askE
  rw [if_pos hr, if_pos hr]
  unfold S.within
  refine ⟨?_, ?_, rfl⟩ <;> repeat' split
  all_goals omega
theorem within_mono {a b lo hi : Int} (h : a ≤ b) (k : lo ≤ hi) : S.within a lo hi ≤ S.within b lo hi := by
  unfold S.within
  repeat' split
  all_goals omega
theorem ask_mono {F : Nat → Int} (hr : E.rp F = true) {x y : Int} (hxy : x ≤ y) : askN F x ≤ askN F y := by
  have h := hr
  simp [E.rp] at h
  unfold askN
  rw [if_pos hr, if_pos hr]
  refine within_mono ?_ (by omega)
  unfold S.cdiv
  exact S.up_mono (S.clamp_pos (by omega)) (S.clamp_mono (by split <;> split <;> omega))
theorem ask_enough {F : Nat → Int} (hr : E.rp F = true) {x z : Int} (hz : z = S.clamp (if x < 0 then 0 else x)) : (F 7 ≤ askN F x ∨ z ≤ askN F x * F 8) ∧ (askN F x ≤ F 6 ∨ (askN F x - 1) * F 8 < z) := by
  have h := hr
  simp [E.rp] at h
  unfold askN
  rw [if_pos hr]
  unfold S.cdiv
  rw [← hz]
  have hg : S.clamp (F 8) = F 8 := S.clamp_id (by omega) (by omega)
  rw [hg]
  obtain ⟨h1, h2⟩ := S.up_spec (a := z) (b := F 8) (by omega)
  generalize S.up z (F 8) = q at *
  unfold S.within
  split
  · refine ⟨.inl (by omega), .inr ?_⟩
    have : (F 7 - 1) * F 8 ≤ (q - 1) * F 8 := Int.mul_le_mul_of_nonneg_right (by omega) (by omega)
    rw [Int.sub_mul q] at this
    omega
  · split
    · refine ⟨.inr ?_, .inl (by omega)⟩
      have : q * F 8 ≤ F 6 * F 8 := Int.mul_le_mul_of_nonneg_right (by omega) (by omega)
      omega
    · refine ⟨.inr h1, .inr ?_⟩
      rw [Int.sub_mul]
      omega

end Go.Proofs.Ytdppabnhflaoeaa
