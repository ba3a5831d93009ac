/- Events that are put: how many bytes. -/
import Derived.Test.YtlckappnpdkihaaEvW6
namespace Go.Proofs.Ytlckappnpdkihaa
set_option linter.unusedVariables false
set_option linter.unusedSimpArgs false
open Go.ChangeShapes Go.WideShapes Go.ChangeAt Go.RowKit

theorem bulk_plain : ∀ {l m : List EvV}, plain l = plain m → bulk l = bulk m
  | [], [], _ => rfl
  | [], y :: m, h => by simp [plain] at h
  | x :: l, [], h => by simp [plain] at h
  | x :: l, y :: m, h => by
    simp only [plain, List.map_cons, List.cons.injEq, Prod.mk.injEq] at h
    have := bulk_plain (l := l) (m := m) h.2
    simp only [bulk]
    rw [this, h.1.2]
theorem putAB_len {l : List EvV} (h : bulk l ≤ 3000) : (E.putAB (plain l)).length ≤ 240006 := by
  unfold E.putAB
  by_cases h0 : E.putAE (plain l) = 0
  · rw [if_pos h0]
    have hr : E.allRight (plain l) = true := by
      unfold E.putAE at h0
      split at h0
      · omega
      · cases e : E.allRight (plain l) with
        | true => rfl
        | false => rw [e] at h0; simp at h0
    have h1 := bod_bulk (l := l) (List.all_eq_true.1 hr)
    have h2 := bulk_len l
    have h3 := V.enc_len6 (n := ((plain l).length : Int)) (by rw [plain_len]; omega)
    rw [List.length_append]
    omega
  · rw [if_neg h0]; simp
theorem putB_len (F : Nat → Int) (M : List D.Dot) : (E.putB F M).length ≤ 1800 := by
  unfold E.putB
  cases h : E.right F M with
  | true => exact (encs_of h).1
  | false => simp
end Go.Proofs.Ytlckappnpdkihaa
