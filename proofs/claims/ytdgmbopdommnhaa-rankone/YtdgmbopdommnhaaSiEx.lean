/- Layer 10: two places of a row are exchanged, in a region that draws its order. -/
import Derived.Test.YtdgmbopdommnhaaSiMem
import Derived.Test.YtdgmbopdommnhaaPolMath2
import Derived.Test.YtdgmbopdommnhaaFam
namespace Go.Proofs.Ytdgmbopdommnhaa
set_option linter.unusedVariables false
set_option linter.unusedSimpArgs false
open Go.ChangeShapes Go.WideShapes Go.ChangeAt Go.RowKit

/-- Loading one of them. -/
theorem run_loadr {q : Nat} {w : World} {g o : Nat} {x : Fin q} (h : RvAt w ⟨g, o, none⟩ x) : (Instr.loadAt 3 (.pointer (some ⟨g, o, none⟩))).run Try.prog w = .ok (vI x) w := by
  unfold RvAt at h
  obtain ⟨i0, hi0, hz1⟩ : ∃ i, Try.prog.info? 3 = some i ∧ i.size = 1 := by
    have := Try.sizePlace
    cases h : Try.prog.info? 3 with
    | none => rw [h] at this; cases this
    | some i => rw [h] at this; exact ⟨i, rfl, by simpa using this⟩
  simp [Instr.loadAt, Instr.sureAddr, loadVar, isAgg, Try.underlying3, h, go_sem]

/-- How far the exchange has come. -/
def exL {q : Nat} (l : List (Fin q)) (i j : Nat) (x y : Fin q) (c d : Bool) : List (Fin q) := if d = true then (if c = true then l.set i y else l).set j x else if c = true then l.set i y else l
def ExX {q : Nat} (w : World) (g : Nat) (l : List (Fin q)) (i j : Nat) (x y : Fin q) (c d : Nat) : Say := fun L f W => w.grownBy W (some g) ∧ SRow W g (exL l i j x y (L c) (L d))
section
variable {w : World} {g : Nat} {q : Nat} {l : List (Fin q)} {i j : Nat} {x y : Fin q} {c d : Nat} {L : Nat → Bool} {f : Nat → Value} {W W' : World}
theorem ExX.up {sp spd : List Nat} (hc : c ∈ sp) (hd : d ∈ sp) : ∀ (L L' : Nat → Bool) (f f' : Nat → Value) (W W' : World), (∀ j ∈ sp, L' j = L j) → (∀ s ∈ spd, f' s = f s) → Grows W W' → ExX w g l i j x y c d L f W → ExX w g l i j x y c d L' f' W' := by
  intro L L' f f' W W' hL hf hg ⟨h1, h2⟩
  unfold ExX
  rw [hL c hc, hL d hd]
  exact ⟨gb_trans h1 (gb_below hg _), h2.new hg⟩
theorem ExX.pass {k : Nat} {dst : Option Nat} {v : Value} (hk : k ≠ c ∧ k ≠ d) (h : ExX w g l i j x y c d L f W) : ExX w g l i j x y c d (lst1 L k) (updT f dst v) W := by
  unfold ExX at *
  have e : ∀ q, q ≠ k → lst1 L k q = L q := fun q hq => by unfold lst1; rw [if_neg hq]
  rw [e c (Ne.symm hk.1), e d (Ne.symm hk.2)]
  exact h
theorem ExX.before (h : ExX w g l i j x y c d L f W) (hc : L c = false) (hd : L d = false) : SRow W g l := by
  have := h.2
  rw [hc, hd] at this
  simpa [exL] using this
theorem exL_len (b1 b2 : Bool) : (exL l i j x y b1 b2).length = l.length := by
  unfold exL; repeat' split
  all_goals simp
theorem ExX.one {dst : Option Nat} {v : Value} (hcd : c ≠ d) (hij : i ≠ j) (h : ExX w g l i j x y c d L f W) (hc : L c = false) (hr : SRow W' g ((exL l i j x y (L c) (L d)).set i y)) (hg : W.grownBy W' (some g)) : ExX w g l i j x y c d (lst1 L c) (updT f dst v) W' := by
  refine ⟨gb_trans h.1 hg, ?_⟩
  have e1 : lst1 L c c = true := by simp [lst1]
  have e2 : lst1 L c d = L d := by simp [lst1, Ne.symm hcd]
  rw [e1, e2]
  rw [hc] at hr
  unfold exL at hr ⊢
  cases hd : L d
  · simpa [hd] using hr
  · rw [hd] at hr
    simp only [if_true, Bool.false_eq_true, if_false] at hr ⊢
    rwa [List.set_comm _ _ (Ne.symm hij)] at hr
theorem ExX.two {dst : Option Nat} {v : Value} (hcd : c ≠ d) (h : ExX w g l i j x y c d L f W) (hd : L d = false) (hr : SRow W' g ((exL l i j x y (L c) (L d)).set j x)) (hg : W.grownBy W' (some g)) : ExX w g l i j x y c d (lst1 L d) (updT f dst v) W' := by
  refine ⟨gb_trans h.1 hg, ?_⟩
  have e1 : lst1 L d d = true := by simp [lst1]
  have e2 : lst1 L d c = L c := by simp [lst1, hcd]
  rw [e1, e2]
  rw [hd] at hr
  unfold exL at hr ⊢
  simpa using hr
theorem ExX.fin (hi : i < l.length) (hj : j < l.length) (hx : x = l[i]) (hy : y = l[j]) (h : ExX w g l i j x y c d L f W) (hc : L c = true) (hd : L d = true) : SRow W g (P.exch l i j) ∧ w.grownBy W (some g) := by
  refine ⟨?_, h.1⟩
  have := h.2
  rw [hc, hd] at this
  rw [P.exch_def hi hj, ← hx, ← hy]
  simpa [exL] using this
end
end Go.Proofs.Ytdgmbopdommnhaa
