/- The plain mathematics of layer 7: a right event's numbers may be put. -/
import Derived.Test.YtlckappnpdkihaaEvMem
namespace Go.Proofs.Ytlckappnpdkihaa
set_option linter.unusedVariables false
set_option linter.unusedSimpArgs false
open Go.ChangeShapes Go.WideShapes Go.ChangeAt Go.RowKit

theorem nums_in {F : Nat → Int} {M : List D.Dot} (h : E.right F M = true) : ∀ n ∈ E.nums F M, 0 ≤ n ∧ n ≤ 1099511627776 := by
  obtain ⟨hm, ⟨h2, h2', h4, h4'⟩, hl, hr, hk⟩ := E.right_parts h
  have hm' := D.may_iff.1 hm
  have hM := E.rems_may hr
  simp only at hm'
  have hMn : ∀ n ∈ E.numM M, 0 ≤ n ∧ n ≤ 1099511627776 := fun n hn => by
    unfold E.numM at hn
    obtain ⟨d, hd, hn⟩ := List.mem_flatMap.1 hn
    have := D.may_iff.1 (hM d hd)
    simp at hn
    rcases hn with rfl | rfl <;> omega
  unfold E.kindOk at hk
  intro n hn
  unfold E.nums E.numP at hn
  split at hk
  · next k1 =>
    rw [if_pos k1] at hn
    simp only [Bool.and_eq_true, decide_eq_true_eq] at hk
    simp at hn
    rcases hn with rfl | rfl | rfl | rfl | rfl | rfl <;> omega
  · next k1 =>
    rw [if_neg k1] at hn
    split at hk
    · next k2 =>
      rw [if_pos k2] at hn
      simp only [Bool.and_eq_true, decide_eq_true_eq, E.rp] at hk
      simp at hn
      rcases hn with rfl | rfl | rfl | rfl | rfl | rfl | rfl | rfl | rfl | rfl | rfl | rfl | rfl | hn
      all_goals first | omega | exact hMn n hn
    · next k2 =>
      rw [if_neg k2] at hn
      split at hk
      · simp at hn
        rcases hn with rfl | rfl | rfl | rfl | rfl | rfl | hn
        all_goals first | omega | exact hMn n hn
      · cases hk
theorem nums_len {F : Nat → Int} {M : List D.Dot} (h : M.length ≤ 96) : (E.nums F M).length ≤ 300 := by
  have : (E.numM M).length = 2 * M.length := by
    clear h
    induction M with
    | nil => rfl
    | cons d M ih => simp [E.numM] at ih ⊢; omega
  unfold E.nums E.numP
  split
  · simp
  · split <;> simp [this] <;> omega
/-- A call answers bytes of its own, and an error's number. -/
def BytesPost7 (l : List Int) (x : Int) (w : World) (e : Ending) (w' : World) : Prop :=
  ∃ A N c, e = .returned (.tuple #[.slice A N c, .int .i64 x]) ∧ N = l.length ∧ w'.ownsRow w.heap.size 5 1 (.slice A N c) N (u8s l) ∧ Below w.heap.size w w'
end Go.Proofs.Ytlckappnpdkihaa
