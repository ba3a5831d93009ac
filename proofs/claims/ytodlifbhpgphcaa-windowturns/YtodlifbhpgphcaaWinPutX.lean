/- The document's Sets: what stands while 'out = append(append(next, Copy(e)), out[at:]...)' goes on, in any order. -/
import Derived.Test.YtodlifbhpgphcaaEvCut
import Derived.Test.YtodlifbhpgphcaaEvCopies
import Derived.Test.YtodlifbhpgphcaaFamZ
namespace Go.Proofs.Ytodlifbhpgphcaa
set_option linter.unusedVariables false
set_option linter.unusedSimpArgs false
open Go.ChangeShapes Go.WideShapes Go.ChangeAt Go.RowKit

/-- w: the world at the region's start; B: no block from B on was there when the round began; S: where dots lie. -/
def PutQ (w : World) (S : Nat → Prop) (B gx : Nat) (F : Nat → Int) (Ax : Option Addr) (q cx : Nat) (M : List D.Dot) (v9 v5 : Value) (lo hi : List EvV) : Say := fun L f W =>
  (Below B w W ∧ w.heap.size ≤ W.heap.size) ∧ Blo W gx 46 (ecs F Ax q cx) ∧
  (L 5 = false → f 9 = v5) ∧
  (L 2 = true → L 3 = false → ∃ A' c', f 62 = ev F A' q c' ∧ Copy W B A' c' M) ∧
  (L 3 = true → L 4 = false → ∃ b A' c', f 63 = .slice (some ⟨b, 0, none⟩) 1 1 ∧ Blo W b 46 (ecs F A' q c') ∧ Copy W B A' c' M) ∧
  (L 4 = false → EOwn W S B v9 lo) ∧
  (L 4 = true → L 8 = false → ∃ A2 c2 A' c', f 64 = .slice A2 (lo.length + 1) c2 ∧ EOwn W S B (.slice A2 (lo.length + 1) c2) (lo ++ [⟨F, M, A', c'⟩])) ∧
  (L 8 = true → ∃ A3 c3 A' c', f 68 = .slice A3 (lo.length + 1 + hi.length) c3 ∧ EOwn W S B (.slice A3 (lo.length + 1 + hi.length) c3) (lo ++ [⟨F, M, A', c'⟩] ++ hi) ∧ (L 9 = true → f 9 = .slice A3 (lo.length + 1 + hi.length) c3))
section
variable {w : World} {S : Nat → Prop} {B gx : Nat} {F : Nat → Int} {Ax : Option Addr} {q cx : Nat} {M : List D.Dot} {v9 v5 : Value} {lo hi : List EvV} {L : Nat → Bool} {f : Nat → Value} {W W' : World}
theorem PutQ.up (hB : B ≤ w.heap.size) : ∀ (L L' : Nat → Bool) (f f' : Nat → Value) (W W' : World), (∀ j ∈ [1, 2, 3, 4, 5, 8, 9], L' j = L j) → (∀ s ∈ [62, 63, 64, 68, 9], f' s = f s) → Grows W W' → PutQ w S B gx F Ax q cx M v9 v5 lo hi L f W → PutQ w S B gx F Ax q cx M v9 v5 lo hi L' f' W' := by
  intro L L' f f' W W' hL hf hg ⟨h1, h2, h3, h4, h5, h6, h7, h8⟩
  unfold PutQ
  rw [hL 2 (by decide), hL 3 (by decide), hL 4 (by decide), hL 5 (by decide), hL 8 (by decide), hL 9 (by decide), hf 62 (by decide), hf 63 (by decide), hf 64 (by decide), hf 68 (by decide), hf 9 (by decide)]
  refine ⟨⟨h1.1.trans (Below.mono hg (Nat.le_trans hB h1.2)), Nat.le_trans h1.2 (Below.size hg)⟩, h2.new hg, h3, fun a b => ?_, fun a b => ?_, fun a => (h6 a).new hg, fun a b => ?_, fun a => ?_⟩
  · obtain ⟨A', c', e1, e2⟩ := h4 a b
    exact ⟨A', c', e1, e2.new hg⟩
  · obtain ⟨b, A', c', e1, e2, e3⟩ := h5 a b
    exact ⟨b, A', c', e1, e2.new hg, e3.new hg⟩
  · obtain ⟨A2, c2, A', c', e1, e2⟩ := h7 a b
    exact ⟨A2, c2, A', c', e1, e2.new hg⟩
  · obtain ⟨A3, c3, A', c', e1, e2, e3⟩ := h8 a
    exact ⟨A3, c3, A', c', e1, e2.new hg, e3⟩
theorem PutQ.size (hB : B ≤ w.heap.size) (h : PutQ w S B gx F Ax q cx M v9 v5 lo hi L f W) : B ≤ W.heap.size := Nat.le_trans hB h.1.2
/-- The event is copied. -/
theorem PutQ.cop (hB : B ≤ w.heap.size) (h : PutQ w S B gx F Ax q cx M v9 v5 lo hi L f W) (h3 : L 3 = false) (h4 : L 4 = false) (h8 : L 8 = false) {A' : Option Addr} {c' : Nat} (hC : Copy W' W.heap.size A' c' M) (hg : Below W.heap.size W W') :
    PutQ w S B gx F Ax q cx M v9 v5 lo hi (lst1 L 2) (updT f (some 62) (ev F A' q c')) W' := by
  have hs := h.size hB
  obtain ⟨k1, k2, k3, k4, k5, k6, k7, k8⟩ := h
  unfold PutQ
  simp only [lst1, updT, Option.some.injEq, h3, h4, h8, if_true, show ¬ (62 : Nat) = 9 by decide, show ¬ (3 : Nat) = 2 by decide, show ¬ (4 : Nat) = 2 by decide, show ¬ (5 : Nat) = 2 by decide, show ¬ (8 : Nat) = 2 by decide, show ¬ (9 : Nat) = 2 by decide, if_false]
  exact ⟨⟨k1.1.trans (hg.mono hs), Nat.le_trans k1.2 hg.size⟩, k2.new hg, k3, fun _ _ => ⟨A', c', rfl, hC.mono hs⟩, fun e => (by cases e), fun _ => (k6 h4).new hg, fun e => (by cases e), fun e => (by cases e)⟩
/-- The row of one is made. -/
theorem PutQ.lit (hB : B ≤ w.heap.size) (h : PutQ w S B gx F Ax q cx M v9 v5 lo hi L f W) (h2 : L 2 = true) (h3 : L 3 = false) (h4 : L 4 = false) (h8 : L 8 = false) : ∃ A' c', f 62 = ev F A' q c' ∧
    PutQ w S B gx F Ax q cx M v9 v5 lo hi (lst1 L 3) (updT f (some 63) (.slice (some ⟨W.heap.size, 0, none⟩) 1 1)) (W.alloc (.cells (ecs F A' q c') 46)) := by
  have hs := h.size hB
  obtain ⟨k1, k2, k3, k4, k5, k6, k7, k8⟩ := h
  obtain ⟨A', c', e1, e2⟩ := k4 h2 h3
  have hg : Below W.heap.size W (W.alloc (.cells (ecs F A' q c') 46)) := b_alloc _ _
  refine ⟨A', c', e1, ?_⟩
  unfold PutQ
  simp only [lst1, updT, Option.some.injEq, h4, h8, if_true, show ¬ (63 : Nat) = 9 by decide, show ¬ (2 : Nat) = 3 by decide, show ¬ (4 : Nat) = 3 by decide, show ¬ (5 : Nat) = 3 by decide, show ¬ (8 : Nat) = 3 by decide, show ¬ (9 : Nat) = 3 by decide, if_false]
  exact ⟨⟨k1.1.trans (hg.mono hs), Nat.le_trans k1.2 hg.size⟩, k2.new hg, k3, fun _ e => (by cases e), fun _ _ => ⟨W.heap.size, A', c', rfl, Blo.made _ _ _, e2.new hg⟩, fun _ => (k6 h4).new hg, fun e => (by cases e), fun e => (by cases e)⟩
/-- The event is put behind those ahead of it. -/
theorem PutQ.app (hB : B ≤ w.heap.size) (hq : M.length = q) (hSB : ∀ b, B ≤ b → S b) (hgx : gx < B) (h : PutQ w S B gx F Ax q cx M v9 v5 lo hi L f W) (h3 : L 3 = true) (h4 : L 4 = false) (h8 : L 8 = false) (hlen : lo.length + 1 ≤ 1000000) :
    ∃ b, f 63 = .slice (some ⟨b, 0, none⟩) 1 1 ∧ ∃ v W', (Builtin.append_ #[22, 22] 22 #[v9, .slice (some ⟨b, 0, none⟩) 1 1]).run Try.prog W = .ok v W' ∧ PutQ w S B gx F Ax q cx M v9 v5 lo hi (lst1 L 4) (updT f (some 64) v) W' := by
  have hs := h.size hB
  obtain ⟨k1, k2, k3, k4, k5, k6, k7, k8⟩ := h
  obtain ⟨b, A', c', e1, e2, e3⟩ := k5 h3 h4
  have hO := k6 h4
  have e2' : Blo W b 46 (EvV.cells ⟨F, M, A', c'⟩) := by
    unfold EvV.cells
    simp only
    rw [hq]
    exact e2
  obtain ⟨v', W', hrun, hrow, hg, hv⟩ := run_eapp W B 22 v9 lo hO.row (fun _ => True) ⟨b, 0, none⟩ 1 1 [⟨F, M, A', c'⟩] rfl (blo_ers _ e2') hlen hs
  have hO2 := hO.snoc hrow hg hv (e := ⟨F, M, A', c'⟩) (Copy.apart hO e3 hSB)
  obtain ⟨A2, c2, rfl, _⟩ := hrow.form
  have hl2 : (lo ++ [(⟨F, M, A', c'⟩ : EvV)]).length = lo.length + 1 := by simp
  rw [hl2] at hO2 hrun
  refine ⟨b, e1, _, W', hrun, ?_⟩
  unfold PutQ
  simp only [lst1, updT, Option.some.injEq, h8, if_true, show ¬ (64 : Nat) = 9 by decide, show ¬ (2 : Nat) = 4 by decide, show ¬ (3 : Nat) = 4 by decide, show ¬ (5 : Nat) = 4 by decide, show ¬ (8 : Nat) = 4 by decide, show ¬ (9 : Nat) = 4 by decide, if_false]
  exact ⟨⟨k1.1.grown hg hs (fun k hk => (hO.row.lt k hk).1), Nat.le_trans k1.2 hg.size⟩, k2.grown hg (fun e => by have := (hO.row.lt gx e.symm).1; omega), k3, fun e e' => (by rw [h3] at e'; cases e'), fun _ e => (by cases e), fun e => (by cases e), fun _ _ => ⟨A2, c2, A', c', rfl, hO2⟩, fun e => (by cases e)⟩
/-- Those behind it come behind it. -/
theorem PutQ.app2 (hB : B ≤ w.heap.size) (hgx : gx < B) (h : PutQ w S B gx F Ax q cx M v9 v5 lo hi L f W) (h4 : L 4 = true) (h8 : L 8 = false) (h9 : L 9 = false) {T : Nat → Prop} {Ah : Option Addr} {mh ch : Nat} (hm : hi.length = mh) (hr : ERds W T Ah hi) (hT : ∀ b, T b → b < B) (hTS : ∀ e ∈ hi, Rds W (fun b => S b ∧ b < B) e.A (dvs e.M)) (hlen : lo.length + 1 + hi.length ≤ 1000000) :
    ∃ A2 c2, f 64 = .slice A2 (lo.length + 1) c2 ∧ ∃ v W', (Builtin.append_ #[22, 22] 22 #[.slice A2 (lo.length + 1) c2, .slice Ah mh ch]).run Try.prog W = .ok v W' ∧ PutQ w S B gx F Ax q cx M v9 v5 lo hi (lst1 L 8) (updT f (some 68) v) W' := by
  have hs := h.size hB
  obtain ⟨k1, k2, k3, k4, k5, k6, k7, k8⟩ := h
  obtain ⟨A2, c2, A', c', e1, hO⟩ := k7 h4 h8
  obtain ⟨v', W', hrun, hrow, hg, hv⟩ := run_eapp' W B 22 (.slice A2 (lo.length + 1) c2) (lo ++ [⟨F, M, A', c'⟩]) hO.row T Ah mh ch hi hm hr.1 (by simp; omega) hs
  have hO2 := hO.app hrow hg hv (fun e he => (hTS e he).mono fun b hb => ⟨hb.1, fun e => by
    have := (hO.row.lt b e.symm).1
    omega⟩)
  obtain ⟨A3, c3, rfl, _⟩ := hrow.form
  have hl3 : (lo ++ [(⟨F, M, A', c'⟩ : EvV)] ++ hi).length = lo.length + 1 + hi.length := by simp; omega
  rw [hl3] at hO2 hrun
  refine ⟨A2, c2, e1, _, W', hrun, ?_⟩
  unfold PutQ
  simp only [lst1, updT, Option.some.injEq, h4, h9, if_true, show ¬ (68 : Nat) = 9 by decide, show ¬ (2 : Nat) = 8 by decide, show ¬ (3 : Nat) = 8 by decide, show ¬ (4 : Nat) = 8 by decide, show ¬ (5 : Nat) = 8 by decide, show ¬ (9 : Nat) = 8 by decide, if_false]
  refine ⟨⟨k1.1.grown hg hs (fun k hk => (hO.row.lt k hk).1), Nat.le_trans k1.2 hg.size⟩, k2.grown hg (fun e => by have := (hO.row.lt gx e.symm).1; omega), k3, fun a b => ?_, fun _ e => (by cases e), fun e => (by cases e), fun _ e => (by cases e), fun _ => ⟨A3, c3, A', c', rfl, hO2, fun e => (by cases e)⟩⟩
  obtain ⟨A'', c'', d1, d2⟩ := k4 a b
  exact ⟨A'', c'', by simpa using d1, d2.1, d2.2.imp id fun h => h.grown hg (fun b hb => hO.row.dots h b hb)⟩
/-- The row is told by its name. -/
theorem PutQ.set (h : PutQ w S B gx F Ax q cx M v9 v5 lo hi L f W) (h3 : L 3 = true) (h4 : L 4 = true) (h5 : L 5 = true) (h8 : L 8 = true) {v : Value} (hv : f 68 = v) : PutQ w S B gx F Ax q cx M v9 v5 lo hi (lst1 L 9) (updT f (some 9) v) W := by
  obtain ⟨k1, k2, k3, k4, k5, k6, k7, k8⟩ := h
  obtain ⟨A3, c3, A', c', e1, e2, e3⟩ := k8 h8
  unfold PutQ
  simp only [lst1, updT, Option.some.injEq, h3, h4, h5, h8, if_true, show ¬ (2 : Nat) = 9 by decide, show ¬ (3 : Nat) = 9 by decide, show ¬ (4 : Nat) = 9 by decide, show ¬ (5 : Nat) = 9 by decide, show ¬ (8 : Nat) = 9 by decide, if_false]
  exact ⟨k1, k2, fun e => (by cases e), fun _ e => (by cases e), fun _ e => (by cases e), fun e => (by cases e), fun _ e => (by cases e), fun _ => ⟨A3, c3, A', c', by simpa using e1, e2, fun _ => by rw [← hv]; exact e1⟩⟩
/-- The row as it was is read. -/
theorem PutQ.mv {v : Value} (h : PutQ w S B gx F Ax q cx M v9 v5 lo hi L f W) : PutQ w S B gx F Ax q cx M v9 v5 lo hi (lst1 L 5) (updT f (some 65) v) W := by
  unfold PutQ at *
  have e : ∀ j, j ≠ 5 → lst1 L 5 j = L j := fun j hj => by unfold lst1; rw [if_neg hj]
  have ef : ∀ s, 65 ≠ s → updT f (some 65) v s = f s := fun s hs => by unfold updT; rw [if_neg (fun e => hs (by injection e))]
  rw [e 2 (by decide), e 3 (by decide), e 4 (by decide), e 8 (by decide), e 9 (by decide), ef 62 (by decide), ef 63 (by decide), ef 64 (by decide), ef 68 (by decide), ef 9 (by decide)]
  exact ⟨h.1, h.2.1, fun e => (by simp [lst1] at e), h.2.2.2⟩
/-- The event itself is read. -/
theorem PutQ.pass {v : Value} (h : PutQ w S B gx F Ax q cx M v9 v5 lo hi L f W) : PutQ w S B gx F Ax q cx M v9 v5 lo hi (lst1 L 1) (updT f (some 61) v) W := by
  unfold PutQ at *
  have e : ∀ j, j ≠ 1 → lst1 L 1 j = L j := fun j hj => by unfold lst1; rw [if_neg hj]
  have ef : ∀ s, 61 ≠ s → updT f (some 61) v s = f s := fun s hs => by unfold updT; rw [if_neg (fun e => hs (by injection e))]
  rw [e 2 (by decide), e 3 (by decide), e 4 (by decide), e 5 (by decide), e 8 (by decide), e 9 (by decide), ef 62 (by decide), ef 63 (by decide), ef 64 (by decide), ef 68 (by decide), ef 9 (by decide)]
  exact h
theorem PutQ.fin (h : PutQ w S B gx F Ax q cx M v9 v5 lo hi L f W) (h8 : L 8 = true) (h9 : L 9 = true) : Below B w W ∧ ∃ A3 c3 A' c', f 9 = .slice A3 (lo.length + 1 + hi.length) c3 ∧ EOwn W S B (.slice A3 (lo.length + 1 + hi.length) c3) (lo ++ [⟨F, M, A', c'⟩] ++ hi) := by
  obtain ⟨A3, c3, A', c', e1, e2, e3⟩ := h.2.2.2.2.2.2.2 h8
  exact ⟨h.1.1, A3, c3, A', c', e3 h9, e2⟩
end
end Go.Proofs.Ytodlifbhpgphcaa
