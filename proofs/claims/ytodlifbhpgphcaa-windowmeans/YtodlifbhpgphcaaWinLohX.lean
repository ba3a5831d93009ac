/- WindowMeans: what stands while 'lo, hi = min(lo, e.Value), max(hi, e.Value)' goes on, in any order. -/
import Derived.Test.YtodlifbhpgphcaaEvMem
import Derived.Test.YtodlifbhpgphcaaFamZ
namespace Go.Proofs.Ytodlifbhpgphcaa
set_option linter.unusedVariables false
set_option linter.unusedSimpArgs false
open Go.ChangeShapes Go.WideShapes Go.ChangeAt Go.RowKit

def LohX (w : World) (ge : Nat) (cs : Array Value) (lo hi lo2 hi2 : Int) : Say := fun L f W =>
  Below w.heap.size w W ∧ Blo W ge 46 cs ∧ (L 0 = false → f 11 = .int .i64 lo) ∧ (L 4 = false → f 12 = .int .i64 hi) ∧ (L 8 = true → f 11 = .int .i64 lo2) ∧ (L 9 = true → f 12 = .int .i64 hi2)
section
variable {w : World} {ge : Nat} {cs : Array Value} {lo hi lo2 hi2 : Int} {L : Nat → Bool} {f : Nat → Value} {W W' : World}
theorem LohX.up : ∀ (L L' : Nat → Bool) (f f' : Nat → Value) (W W' : World), (∀ j ∈ [0, 2, 4, 6, 8, 9], L' j = L j) → (∀ s ∈ [11, 12], f' s = f s) → Grows W W' → LohX w ge cs lo hi lo2 hi2 L f W → LohX w ge cs lo hi lo2 hi2 L' f' W' := by
  intro L L' f f' W W' hL hf hg ⟨h1, h2, h3, h4, h5, h6⟩
  unfold LohX
  rw [hL 0 (by decide), hL 4 (by decide), hL 8 (by decide), hL 9 (by decide), hf 11 (by decide), hf 12 (by decide)]
  exact ⟨below_new h1 hg, h2.new hg, h3, h4, h5, h6⟩
theorem LohX.pass {k s : Nat} {v : Value} (hk : k ≠ 0 ∧ k ≠ 4 ∧ k ≠ 8 ∧ k ≠ 9) (hs : s ≠ 11 ∧ s ≠ 12) (h : LohX w ge cs lo hi lo2 hi2 L f W) : LohX w ge cs lo hi lo2 hi2 (lst1 L k) (updT f (some s) v) W := by
  unfold LohX at *
  have e : ∀ j, j ≠ k → lst1 L k j = L j := fun j hj => by unfold lst1; rw [if_neg hj]
  have ef : ∀ t, s ≠ t → updT f (some s) v t = f t := fun t ht => by unfold updT; rw [if_neg (fun e => ht (by injection e))]
  rw [e 0 hk.1.symm, e 4 hk.2.1.symm, e 8 hk.2.2.1.symm, e 9 hk.2.2.2.symm, ef 11 hs.1, ef 12 hs.2]
  exact h
theorem LohX.rd0 {v : Value} (h : LohX w ge cs lo hi lo2 hi2 L f W) : LohX w ge cs lo hi lo2 hi2 (lst1 L 0) (updT f (some 84) v) W := by
  unfold LohX at *
  simp only [lst1, updT, Option.some.injEq, if_true, show ¬ (84 : Nat) = 11 by decide, show ¬ (84 : Nat) = 12 by decide, show ¬ (4 : Nat) = 0 by decide, show ¬ (8 : Nat) = 0 by decide, show ¬ (9 : Nat) = 0 by decide, if_false]
  exact ⟨h.1, h.2.1, fun e => (by cases e), h.2.2.2⟩
theorem LohX.rd4 {v : Value} (h : LohX w ge cs lo hi lo2 hi2 L f W) : LohX w ge cs lo hi lo2 hi2 (lst1 L 4) (updT f (some 88) v) W := by
  unfold LohX at *
  simp only [lst1, updT, Option.some.injEq, if_true, show ¬ (88 : Nat) = 11 by decide, show ¬ (88 : Nat) = 12 by decide, show ¬ (0 : Nat) = 4 by decide, show ¬ (8 : Nat) = 4 by decide, show ¬ (9 : Nat) = 4 by decide, if_false]
  exact ⟨h.1, h.2.1, h.2.2.1, fun e => (by cases e), h.2.2.2.2⟩
theorem LohX.st8 (h : LohX w ge cs lo hi lo2 hi2 L f W) (h0 : L 0 = true) : LohX w ge cs lo hi lo2 hi2 (lst1 L 8) (updT f (some 11) (.int .i64 lo2)) W := by
  unfold LohX at *
  simp only [lst1, updT, Option.some.injEq, h0, if_true, show ¬ (11 : Nat) = 12 by decide, show ¬ (0 : Nat) = 8 by decide, show ¬ (4 : Nat) = 8 by decide, show ¬ (9 : Nat) = 8 by decide, if_false]
  exact ⟨h.1, h.2.1, fun e => (by cases e), h.2.2.2.1, by simp, h.2.2.2.2.2⟩
theorem LohX.st9 (h : LohX w ge cs lo hi lo2 hi2 L f W) (h4 : L 4 = true) : LohX w ge cs lo hi lo2 hi2 (lst1 L 9) (updT f (some 12) (.int .i64 hi2)) W := by
  unfold LohX at *
  simp only [lst1, updT, Option.some.injEq, h4, if_true, show ¬ (12 : Nat) = 11 by decide, show ¬ (0 : Nat) = 9 by decide, show ¬ (4 : Nat) = 9 by decide, show ¬ (8 : Nat) = 9 by decide, if_false]
  exact ⟨h.1, h.2.1, h.2.2.1, fun e => (by cases e), h.2.2.2.2.1, by simp⟩
end
end Go.Proofs.Ytodlifbhpgphcaa
