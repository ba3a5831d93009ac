/- WindowAdds: what stands while the Load of 'append(append([]Event{}, l...), x, y)' is asked, in any order. -/
import Derived.Test.YtodlifbhpgphcaaEvCopies
import Derived.Test.YtodlifbhpgphcaaEvCut
import Derived.Test.YtodlifbhpgphcaaFamZ
namespace Go.Proofs.Ytodlifbhpgphcaa
set_option linter.unusedVariables false
set_option linter.unusedSimpArgs false
open Go.ChangeShapes Go.WideShapes Go.ChangeAt Go.RowKit

/-- w: the world at the region's start; B: its size; l: the events that are copied; ex: those that come behind them. -/
def AddY (w : World) (B : Nat) (l ex : List EvV) : Say := fun L f W =>
  Below B w W ∧
  (L 0 = true → L 2 = false → ∃ b0, f 90 = .slice (some ⟨b0, 0, none⟩) 0 0 ∧ EOwn W (fun b => b < B) B (.slice (some ⟨b0, 0, none⟩) 0 0) []) ∧
  (L 4 = true → L 5 = false → ∃ b, f 94 = .slice (some ⟨b, 0, none⟩) ex.length ex.length ∧ b < W.heap.size ∧ Rds W (fun b' => b' = b) (some ⟨b, 0, none⟩) (evs ex) ∧ (L 0 = true → L 2 = false → f 90 ≠ .slice (some ⟨b, 0, none⟩) 0 0)) ∧
  (L 2 = true → L 5 = false → ∃ A2 c2, f 92 = .slice A2 l.length c2 ∧ EOwn W (fun b => b < B) B (.slice A2 l.length c2) l) ∧
  (L 5 = true → L 7 = false → ∃ A3 c3, f 95 = .slice A3 (l ++ ex).length c3 ∧ EOwn W (fun b => b < B) B (.slice A3 (l ++ ex).length c3) (l ++ ex))
section
variable {w : World} {B : Nat} {l ex : List EvV} {L : Nat → Bool} {f : Nat → Value} {W W' : World}
theorem AddY.up (hB : B ≤ w.heap.size) : ∀ (L L' : Nat → Bool) (f f' : Nat → Value) (W W' : World), (∀ j ∈ [0, 2, 3, 4, 5, 7], L' j = L j) → (∀ s ∈ [90, 92, 94, 95], f' s = f s) → Grows W W' → AddY w B l ex L f W → AddY w B l ex L' f' W' := by
  intro L L' f f' W W' hL hf hg ⟨h1, h2, h3, h4, h5⟩
  unfold AddY
  rw [hL 0 (by decide), hL 2 (by decide), hL 4 (by decide), hL 5 (by decide), hL 7 (by decide), hf 90 (by decide), hf 92 (by decide), hf 94 (by decide), hf 95 (by decide)]
  refine ⟨h1.trans (Below.mono hg (by have := h1.size; omega)), fun a b => ?_, fun a b => ?_, fun a b => ?_, fun a b => ?_⟩
  · obtain ⟨b0, e1, e2⟩ := h2 a b
    exact ⟨b0, e1, e2.new hg⟩
  · obtain ⟨b, e1, e2, e3, e4⟩ := h3 a b
    exact ⟨b, e1, Nat.lt_of_lt_of_le e2 (Below.size hg), e3.new hg, e4⟩
  · obtain ⟨A2, c2, e1, e2⟩ := h4 a b
    exact ⟨A2, c2, e1, e2.new hg⟩
  · obtain ⟨A3, c3, e1, e2⟩ := h5 a b
    exact ⟨A3, c3, e1, e2.new hg⟩
theorem AddY.size (hB : B ≤ w.heap.size) (h : AddY w B l ex L f W) : B ≤ W.heap.size := by have := h.1.size; omega
/-- The empty row is made. -/
theorem AddY.lit0 (hB : B ≤ w.heap.size) (h : AddY w B l ex L f W) (h2 : L 2 = false) (h6 : L 5 = false) :
    AddY w B l ex (lst1 L 0) (updT f (some 90) (.slice (some ⟨W.heap.size, 0, none⟩) 0 0)) (W.alloc (.cells #[] 46)) := by
  have hs := h.size hB
  have hg : Below W.heap.size W (W.alloc (.cells #[] 46)) := b_alloc _ _
  obtain ⟨k1, k2, k3, k4, k5⟩ := h
  unfold AddY
  simp only [lst1, updT, Option.some.injEq, h2, h6, if_true, show ¬ (90 : Nat) = 92 by decide, show ¬ (90 : Nat) = 94 by decide, show ¬ (90 : Nat) = 95 by decide, show ¬ (2 : Nat) = 0 by decide, show ¬ (4 : Nat) = 0 by decide, show ¬ (5 : Nat) = 0 by decide, show ¬ (7 : Nat) = 0 by decide, if_false]
  refine ⟨k1.trans (hg.mono hs), fun _ _ => ⟨W.heap.size, rfl, (ERow.lit0 W).mono hs, fun e he => by cases he⟩, fun a _ => ?_, fun e => (by cases e), fun e => (by cases e)⟩
  obtain ⟨b, e1, e2, e3, e4⟩ := k3 a h6
  exact ⟨b, e1, Nat.lt_of_lt_of_le e2 hg.size, e3.new hg, fun _ _ e => by
    simp at e
    try omega⟩
/-- The events are copied behind it. -/
theorem AddY.app (hB : B ≤ w.heap.size) (h : AddY w B l ex L f W) (h0 : L 0 = true) (h2 : L 2 = false) (h6 : L 5 = false) {T : Nat → Prop} {A : Option Addr} {n c : Nat} (hn : l.length = n) (hr : ERds W T A l) (hT : ∀ b, T b → b < B) (hlen : l.length ≤ 1000000) :
    ∃ b0, f 90 = .slice (some ⟨b0, 0, none⟩) 0 0 ∧ ∃ v W', (Builtin.append_ #[22, 22] 22 #[.slice (some ⟨b0, 0, none⟩) 0 0, .slice A n c]).run Try.prog W = .ok v W' ∧ AddY w B l ex (lst1 L 2) (updT f (some 92) v) W' := by
  have hs := h.size hB
  obtain ⟨k1, k2, k3, k4, k5⟩ := h
  obtain ⟨b0, e1, hO⟩ := k2 h0 h2
  obtain ⟨v', W', hrun, hrow, hg, hv⟩ := run_eapp' W B 22 (.slice (some ⟨b0, 0, none⟩) 0 0) [] hO.row T A n c l hn hr.1 (by simp; omega) hs
  have hO2 := hO.app hrow hg hv (fun e he => (hr.2 e he).mono fun b hb => ⟨hT b hb, fun e' => by
    have h1 := (hO.row.lt b e'.symm).1
    have h2 := hT b hb
    omega⟩)
  obtain ⟨A2, c2, rfl, _⟩ := hrow.form
  rw [List.nil_append] at hO2 hrun
  refine ⟨b0, e1, _, W', hrun, ?_⟩
  unfold AddY
  simp only [lst1, updT, Option.some.injEq, h6, if_true, show ¬ (92 : Nat) = 90 by decide, show ¬ (92 : Nat) = 94 by decide, show ¬ (92 : Nat) = 95 by decide, show ¬ (0 : Nat) = 2 by decide, show ¬ (4 : Nat) = 2 by decide, show ¬ (5 : Nat) = 2 by decide, show ¬ (7 : Nat) = 2 by decide, if_false]
  refine ⟨k1.grown hg hs (fun k hk => (hO.row.lt k hk).1), fun _ e => (by cases e), fun a _ => ?_, fun _ _ => ⟨A2, c2, rfl, hO2⟩, fun e => (by cases e)⟩
  obtain ⟨b, d1, d2, d3, d4⟩ := k3 a h6
  refine ⟨b, d1, Nat.lt_of_lt_of_le d2 hg.size, d3.grown hg (fun b' hb' _ e => ?_), fun _ e => (by cases e)⟩
  subst hb'
  refine d4 h0 h2 ?_
  rw [e1]
  simp [Value.ownBlock] at e
  rw [e]
/-- One of those that come behind is read. -/
theorem AddY.pass {k s : Nat} {v : Value} (hk : k ≠ 0 ∧ k ≠ 2 ∧ k ≠ 4 ∧ k ≠ 5 ∧ k ≠ 7) (hs : s ≠ 90 ∧ s ≠ 92 ∧ s ≠ 94 ∧ s ≠ 95) (h : AddY w B l ex L f W) : AddY w B l ex (lst1 L k) (updT f (some s) v) W := by
  unfold AddY at *
  have e : ∀ j, j ≠ k → lst1 L k j = L j := fun j hj => by unfold lst1; rw [if_neg hj]
  have ef : ∀ t, s ≠ t → updT f (some s) v t = f t := fun t ht => by unfold updT; rw [if_neg (fun e => ht (by injection e))]
  rw [e 0 hk.1.symm, e 2 hk.2.1.symm, e 4 hk.2.2.1.symm, e 5 hk.2.2.2.1.symm, e 7 hk.2.2.2.2.symm, ef 90 hs.1, ef 92 hs.2.1, ef 94 hs.2.2.1, ef 95 hs.2.2.2]
  exact h
/-- The row of those that come behind is made. -/
theorem AddY.lit (hB : B ≤ w.heap.size) (h : AddY w B l ex L f W) (h6 : L 5 = false) {cs : Array Value} (hcs : evs ex = cs.toList) {k : Nat} (hk : ex.length = k) :
    AddY w B l ex (lst1 L 4) (updT f (some 94) (.slice (some ⟨W.heap.size, 0, none⟩) k k)) (W.alloc (.cells cs 46)) := by
  have hs := h.size hB
  have hg : Below W.heap.size W (W.alloc (.cells cs 46)) := b_alloc _ _
  have hbl := Blo.made W 46 cs
  obtain ⟨k1, k2, k3, k4, k5⟩ := h
  subst hk
  unfold AddY
  simp only [lst1, updT, Option.some.injEq, h6, if_true, show ¬ (94 : Nat) = 90 by decide, show ¬ (94 : Nat) = 92 by decide, show ¬ (94 : Nat) = 95 by decide, show ¬ (0 : Nat) = 4 by decide, show ¬ (2 : Nat) = 4 by decide, show ¬ (5 : Nat) = 4 by decide, show ¬ (7 : Nat) = 4 by decide, if_false]
  refine ⟨k1.trans (hg.mono hs), fun a b => ?_, fun _ _ => ⟨W.heap.size, rfl, by simp, fun j u hu => ?_, fun a b => ?_⟩, fun a _ => ?_, fun e => (by cases e)⟩
  · obtain ⟨b0, e1, e2⟩ := k2 a b
    exact ⟨b0, e1, e2.new hg⟩
  · refine ⟨_, rfl, rfl, ?_⟩
    rw [Go.Proofs.Ytodlifbhpgphcaa.M.addMk, Nat.zero_add, hbl.cell j, ← hu, hcs]
    exact (Array.getElem?_toList).symm
  · obtain ⟨b0, e1, e2⟩ := k2 a b
    rw [e1]
    intro e
    simp at e
    have := (e2.row.lt b0 rfl).2
    omega
  · obtain ⟨A2, c2, e1, e2⟩ := k4 a h6
    exact ⟨A2, c2, e1, e2.new hg⟩
/-- They come behind the copies. -/
theorem AddY.app2 (hB : B ≤ w.heap.size) (h : AddY w B l ex L f W) (h2 : L 2 = true) (h5 : L 4 = true) (h6 : L 5 = false) (h8 : L 7 = false) (hx : ∀ e ∈ ex, e.M = []) (hlen : l.length + ex.length ≤ 1000000) :
    ∃ A2 c2 b, f 92 = .slice A2 l.length c2 ∧ f 94 = .slice (some ⟨b, 0, none⟩) ex.length ex.length ∧ ∃ v W', (Builtin.append_ #[22, 22] 22 #[.slice A2 l.length c2, .slice (some ⟨b, 0, none⟩) ex.length ex.length]).run Try.prog W = .ok v W' ∧ AddY w B l ex (lst1 L 5) (updT f (some 95) v) W' := by
  have hs := h.size hB
  obtain ⟨k1, k2, k3, k4, k5⟩ := h
  obtain ⟨b, d1, d2, d3, _⟩ := k3 h5 h6
  obtain ⟨A2, c2, e1, hO⟩ := k4 h2 h6
  obtain ⟨v', W', hrun, hrow, hg, hv⟩ := run_eapp' W B 22 (.slice A2 l.length c2) l hO.row _ (some ⟨b, 0, none⟩) ex.length ex.length ex rfl d3 hlen hs
  have hO2 := hO.app hrow hg hv (fun e he => by rw [hx e he]; exact Rds.nil)
  obtain ⟨A3, c3, rfl, _⟩ := hrow.form
  refine ⟨A2, c2, b, e1, d1, _, W', hrun, ?_⟩
  unfold AddY
  simp only [lst1, updT, Option.some.injEq, h2, h8, if_true, show ¬ (95 : Nat) = 90 by decide, show ¬ (95 : Nat) = 92 by decide, show ¬ (95 : Nat) = 94 by decide, show ¬ (0 : Nat) = 5 by decide, show ¬ (2 : Nat) = 5 by decide, show ¬ (4 : Nat) = 5 by decide, show ¬ (7 : Nat) = 5 by decide, if_false]
  exact ⟨k1.grown hg hs (fun k hk => (hO.row.lt k hk).1), fun _ e => (by cases e), fun _ e => (by cases e), fun _ e => (by cases e), fun _ _ => ⟨A3, c3, rfl, hO2⟩⟩
/-- The Load is asked. -/
theorem AddY.ask {v : Value} (hB : B ≤ w.heap.size) (h : AddY w B l ex L f W) (h2 : L 2 = true) (h6 : L 5 = true) (hg : Below W.heap.size W W') : AddY w B l ex (lst1 L 7) (updT f (some 97) v) W' := by
  have hs := h.size hB
  obtain ⟨k1, k2, k3, k4, k5⟩ := h
  unfold AddY
  simp only [lst1, updT, Option.some.injEq, h2, h6, if_true, show ¬ (0 : Nat) = 7 by decide, show ¬ (2 : Nat) = 7 by decide, show ¬ (4 : Nat) = 7 by decide, show ¬ (5 : Nat) = 7 by decide, if_false]
  exact ⟨k1.trans (hg.mono hs), fun _ e => (by cases e), fun _ e => (by cases e), fun _ e => (by cases e), fun _ e => (by cases e)⟩
end
end Go.Proofs.Ytodlifbhpgphcaa
