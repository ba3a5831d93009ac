/- Events that were read: how many, and how many dots. -/
import Derived.Test.YtlckappnpdkihaaEvR9
namespace Go.Proofs.Ytlckappnpdkihaa
set_option linter.unusedVariables false
set_option linter.unusedSimpArgs false
open Go.ChangeShapes Go.WideShapes Go.ChangeAt Go.RowKit

theorem rdA_dots : ∀ (n : Nat) (s : D.St), ∀ e ∈ (E.rdA n s).1, e.2.length ≤ 96
  | 0, s => fun e he => by simp [E.rdA] at he
  | n + 1, s => fun e he => by
    unfold E.rdA at he
    split at he
    · simp only at he
      rcases List.mem_cons.1 he with rfl | h
      · exact rdL_len s
      · exact rdA_dots n _ e h
    · simp at he
theorem allM_dots (L : List Int) : ∀ e ∈ E.allM L, e.2.length ≤ 96 := by
  unfold E.allM
  split
  · exact rdA_dots _ _
  · intro e he; simp at he
theorem allM_len (L : List Int) : (E.allM L).length ≤ 768 := by
  unfold E.allM
  split
  · exact E.allR_len L
  · simp
/-- Events whose plain form is that of events that were read. -/
theorem meek_of {m : List EvV} {L : List Int} (h : plain m = E.allM L) : ∀ e ∈ m, e.M.length ≤ 1000000 := fun e he => by
  have h1 : (e.F, e.M) ∈ plain m := List.mem_map.2 ⟨e, he, rfl⟩
  rw [h] at h1
  have := allM_dots L _ h1
  simp only at this
  omega
end Go.Proofs.Ytlckappnpdkihaa
