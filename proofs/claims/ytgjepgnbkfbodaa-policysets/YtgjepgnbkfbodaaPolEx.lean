/- Layer 9: two rivals of a row are exchanged, in a region that draws its order. -/
import Derived.Test.YtgjepgnbkfbodaaPolMem
import Derived.Test.YtgjepgnbkfbodaaPolMath2
import Derived.Test.YtgjepgnbkfbodaaFam
import Derived.Deep.MidRow
namespace Go.Proofs.Ytgjepgnbkfbodaa
set_option linter.unusedVariables false
set_option linter.unusedSimpArgs false
open Go.ChangeShapes Go.WideShapes Go.ChangeAt Go.RowKit

/-- The cells of an event at a place in a row. -/
theorem RvAt.all {w : World} {g o : Nat} {F : Nat → Int} {M : List D.Dot} {A : Option Addr} {n c : Nat} (h : RvAt w ⟨g, o, none⟩ ⟨F, M, A, c⟩) (hn : M.length = n) :
    w.cell? ⟨g, o, none⟩ = some (.int .i64 (F 0)) ∧ w.cell? ⟨g, o + 1, none⟩ = some (.int .i64 (F 1)) ∧ w.cell? ⟨g, o + 2, none⟩ = some (.int .i64 (F 2)) ∧ w.cell? ⟨g, o + 3, none⟩ = some (.int .i64 (F 3)) ∧ w.cell? ⟨g, o + 4, none⟩ = some (.int .i64 (F 4)) ∧ w.cell? ⟨g, o + 5, none⟩ = some (.int .i64 (F 5)) ∧ w.cell? ⟨g, o + 6, none⟩ = some (.int .i64 (F 6)) ∧ w.cell? ⟨g, o + 7, none⟩ = some (.int .i64 (F 7)) ∧ w.cell? ⟨g, o + 8, none⟩ = some (.int .i64 (F 8)) ∧ w.cell? ⟨g, o + 9, none⟩ = some (.int .i64 (F 9)) ∧ w.cell? ⟨g, o + 10, none⟩ = some (.int .i64 (F 10)) ∧ w.cell? ⟨g, o + 11, none⟩ = some (.int .i64 (F 11)) ∧ w.cell? ⟨g, o + 12, none⟩ = some (.int .i64 (F 12)) ∧ w.cell? ⟨g, o + 13, none⟩ = some (.slice A n c) := by
  subst hn
  exact ⟨h 0 _ rfl, h 1 _ rfl, h 2 _ rfl, h 3 _ rfl, h 4 _ rfl, h 5 _ rfl, h 6 _ rfl, h 7 _ rfl, h 8 _ rfl, h 9 _ rfl, h 10 _ rfl, h 11 _ rfl, h 12 _ rfl, h 13 _ rfl⟩
/-- Loading one of them. -/
theorem run_loadr {w : World} {g o : Nat} {e : EvV} (h : RvAt w ⟨g, o, none⟩ e) : (Instr.loadAt 54 (.pointer (some ⟨g, o, none⟩))).run Try.prog w = .ok e.val w := by
  have hc : w.rangeAt g o e.cells.toList := fun j v hv => by
    have := h j v (by simpa using hv)
    rwa [M.addMk] at this
  have := run_loadAt_mid (P := Try.prog) w g o 54 e.cells.toList _ hc Try.underlying54 rfl (by rw [Try.sizeRival]; simp)
  rw [this]

/-- How far the exchange has come. -/
def exL (l : List EvV) (i j : Nat) (x y : EvV) (c d : Bool) : List EvV := if d = true then (if c = true then l.set i y else l).set j x else if c = true then l.set i y else l
def ExX (w : World) (g : Nat) (l : List EvV) (i j : Nat) (x y : EvV) (c d : Nat) : Say := fun L f W => w.grownBy W (some g) ∧ SRow W g (exL l i j x y (L c) (L d))
section
variable {w : World} {g : Nat} {l : List EvV} {i j : Nat} {x y : EvV} {c d : Nat} {L : Nat → Bool} {f : Nat → Value} {W W' : World}
theorem ExX.up {sp spd : List Nat} (hc : c ∈ sp) (hd : d ∈ sp) : ∀ (L L' : Nat → Bool) (f f' : Nat → Value) (W W' : World), (∀ j ∈ sp, L' j = L j) → (∀ s ∈ spd, f' s = f s) → Grows W W' → ExX w g l i j x y c d L f W → ExX w g l i j x y c d L' f' W' := by
  intro L L' f f' W W' hL hf hg ⟨h1, h2⟩
  unfold ExX
  rw [hL c hc, hL d hd]
  exact ⟨gb_trans h1 (gb_below hg _), h2.new hg⟩
theorem ExX.pass {k : Nat} {dst : Option Nat} {v : Value} (hk : k ≠ c ∧ k ≠ d) (h : ExX w g l i j x y c d L f W) : ExX w g l i j x y c d (lst1 L k) (updT f dst v) W := by
  unfold ExX at *
  have e : ∀ q, q ≠ k → lst1 L k q = L q := fun q hq => by unfold lst1; rw [if_neg hq]
  rw [e c (Ne.symm hk.1), e d (Ne.symm hk.2)]
  exact h
theorem ExX.before (h : ExX w g l i j x y c d L f W) (hc : L c = false) (hd : L d = false) : SRow W g l := by
  have := h.2
  rw [hc, hd] at this
  simpa [exL] using this
theorem exL_len (b1 b2 : Bool) : (exL l i j x y b1 b2).length = l.length := by
  unfold exL; repeat' split
  all_goals simp
theorem ExX.one {dst : Option Nat} {v : Value} (hcd : c ≠ d) (hij : i ≠ j) (h : ExX w g l i j x y c d L f W) (hc : L c = false) (hr : SRow W' g ((exL l i j x y (L c) (L d)).set i y)) (hg : W.grownBy W' (some g)) : ExX w g l i j x y c d (lst1 L c) (updT f dst v) W' := by
  refine ⟨gb_trans h.1 hg, ?_⟩
  have e1 : lst1 L c c = true := by simp [lst1]
  have e2 : lst1 L c d = L d := by simp [lst1, Ne.symm hcd]
  rw [e1, e2]
  rw [hc] at hr
  unfold exL at hr ⊢
  cases hd : L d
  · simpa [hd] using hr
  · rw [hd] at hr
    simp only [if_true, Bool.false_eq_true, if_false] at hr ⊢
    rwa [List.set_comm _ _ (Ne.symm hij)] at hr
theorem ExX.two {dst : Option Nat} {v : Value} (hcd : c ≠ d) (h : ExX w g l i j x y c d L f W) (hd : L d = false) (hr : SRow W' g ((exL l i j x y (L c) (L d)).set j x)) (hg : W.grownBy W' (some g)) : ExX w g l i j x y c d (lst1 L d) (updT f dst v) W' := by
  refine ⟨gb_trans h.1 hg, ?_⟩
  have e1 : lst1 L d d = true := by simp [lst1]
  have e2 : lst1 L d c = L c := by simp [lst1, hcd]
  rw [e1, e2]
  rw [hd] at hr
  unfold exL at hr ⊢
  simpa using hr
theorem ExX.fin (hi : i < l.length) (hj : j < l.length) (hx : x = l[i]) (hy : y = l[j]) (h : ExX w g l i j x y c d L f W) (hc : L c = true) (hd : L d = true) : SRow W g (P.exch l i j) ∧ w.grownBy W (some g) := by
  refine ⟨?_, h.1⟩
  have := h.2
  rw [hc, hd] at this
  rw [P.exch_def hi hj, ← hx, ← hy]
  simpa [exL] using this
end
end Go.Proofs.Ytgjepgnbkfbodaa
