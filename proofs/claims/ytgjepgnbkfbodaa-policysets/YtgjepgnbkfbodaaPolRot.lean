/- PolicyWins: what stands while the Winner of a list that is turned round is asked, in any order. -/
import Derived.Test.YtgjepgnbkfbodaaPolMath4
import Derived.Test.YtgjepgnbkfbodaaEvCopies
import Derived.Test.YtgjepgnbkfbodaaEvCut
namespace Go.Proofs.Ytgjepgnbkfbodaa
set_option linter.unusedVariables false
set_option linter.unusedSimpArgs false
open Go.ChangeShapes Go.WideShapes Go.ChangeAt Go.RowKit

/-- s[p:q] as an operation, of a slice of events. -/
theorem run_at {x v : Value} {lo hi mx : Option Value} {W : World} (h : (Instr.slice 22 x lo hi mx).run Try.prog W = .ok v W) : (Instr.sliceAt 22 x lo hi mx).run Try.prog W = .ok v W := by
  unfold Instr.sliceAt
  rw [Sem.run_bind, run_underlying Try.underlying22]
  simpa using h
def RotX (w : World) (B : Nat) (hi lo : List EvV) (F : Nat → Int) : Say := fun L f W =>
  Below B w W ∧
  (L 3 = true → L 7 = false → ∃ A' N' c' m, f 127 = .slice A' N' c' ∧ N' = m.length ∧ plain m = plain hi ∧ EOwn W (fun b => B ≤ b) B (.slice A' N' c') m) ∧
  (L 7 = true → L 9 = false → ∃ A2 N2 c2 m2, f 131 = .slice A2 N2 c2 ∧ N2 = m2.length ∧ ERds W (fun _ => True) A2 m2 ∧ plain m2 = plain (hi ++ lo)) ∧
  (L 14 = true → ∃ g, f 18 = .pointer (some ⟨g, 0, none⟩) ∧ B ≤ g ∧ Blo W g 31 (pcs (if L 16 = true then F else zF))) ∧
  (L 15 = true → ∃ g, f 19 = .pointer (some ⟨g, 0, none⟩) ∧ B ≤ g ∧ Blo W g 29 (dcs (if L 17 = true then F else zF)))
section
variable {w : World} {B : Nat} {hi lo : List EvV} {F : Nat → Int} {L : Nat → Bool} {f : Nat → Value} {W W' : World}
theorem RotX.up (hB : B ≤ w.heap.size) : ∀ (L L' : Nat → Bool) (f f' : Nat → Value) (W W' : World), (∀ j ∈ [3, 7, 9, 14, 15, 16, 17], L' j = L j) → (∀ s ∈ [127, 131, 18, 19], f' s = f s) → Grows W W' → RotX w B hi lo F L f W → RotX w B hi lo F L' f' W' := by
  intro L L' f f' W W' hL hf hg ⟨h1, h2, h3, h4, h5⟩
  unfold RotX
  rw [hL 3 (by decide), hL 7 (by decide), hL 9 (by decide), hL 14 (by decide), hL 15 (by decide), hL 16 (by decide), hL 17 (by decide), hf 127 (by simp), hf 131 (by simp), hf 18 (by simp), hf 19 (by simp)]
  refine ⟨h1.trans (hg.mono (by have := h1.size; omega)), fun a b => ?_, fun a b => ?_, fun a => ?_, fun a => ?_⟩
  · obtain ⟨A', N', c', m, e1, e2, e3, e4⟩ := h2 a b
    exact ⟨A', N', c', m, e1, e2, e3, e4.new hg⟩
  · obtain ⟨A', N', c', m, e1, e2, e3, e4⟩ := h3 a b
    exact ⟨A', N', c', m, e1, e2, e3.new hg, e4⟩
  · obtain ⟨g, e1, e2, e3⟩ := h4 a
    exact ⟨g, e1, e2, e3.new hg⟩
  · obtain ⟨g, e1, e2, e3⟩ := h5 a
    exact ⟨g, e1, e2, e3.new hg⟩
theorem RotX.size (hB : B ≤ w.heap.size) (h : RotX w B hi lo F L f W) : B ≤ W.heap.size := by have := h.1.size; omega
theorem RotX.cop (hB : B ≤ w.heap.size) (h : RotX w B hi lo F L f W) (h3 : L 3 = false) (h7 : L 7 = false) {A' : Option Addr} {N' c' : Nat} {m : List EvV} (hN : N' = m.length) (hp : plain m = plain hi) (hO : EOwn W' (fun b => W.heap.size ≤ b) W.heap.size (.slice A' N' c') m) (hg : Below W.heap.size W W') :
    RotX w B hi lo F (lst1 L 3) (updT f (some 127) (.slice A' N' c')) W' := by
  have hs := h.size hB
  obtain ⟨h1, h2, h2', h4, h5⟩ := h
  unfold RotX
  simp only [lst1, updT, h7, if_true, show ¬ (7 : Nat) = 3 by decide, show ¬ (9 : Nat) = 3 by decide, show ¬ (14 : Nat) = 3 by decide, show ¬ (15 : Nat) = 3 by decide, show ¬ (16 : Nat) = 3 by decide, show ¬ (17 : Nat) = 3 by decide, if_false]
  refine ⟨h1.trans (hg.mono hs), fun _ _ => ⟨A', N', c', m, by simp, hN, hp, hO.mono hs (fun b hb => Nat.le_trans hs hb)⟩, fun a => (by cases a), fun a => ?_, fun a => ?_⟩
  · obtain ⟨g, e1, e2, e3⟩ := h4 a
    exact ⟨g, by simpa using e1, e2, e3.new hg⟩
  · obtain ⟨g, e1, e2, e3⟩ := h5 a
    exact ⟨g, by simpa using e1, e2, e3.new hg⟩
theorem RotX.app (hB : B ≤ w.heap.size) (h : RotX w B hi lo F L f W) (h3 : L 3 = true) (h7 : L 7 = false) (h9 : L 9 = false) {S : Nat → Prop} {A : Option Addr} {m0 c : Nat} (hm : lo.length = m0) (hr : ERds W S A lo) (hS : ∀ b, S b → b < B) (hlen : hi.length + lo.length ≤ 1000000) :
    ∃ A' N' c', f 127 = .slice A' N' c' ∧ ∃ A2 N2 c2 W', (Builtin.append_ #[22, 22] 22 #[.slice A' N' c', .slice A m0 c]).run Try.prog W = .ok (.slice A2 N2 c2) W' ∧ RotX w B hi lo F (lst1 L 7) (updT f (some 131) (.slice A2 N2 c2)) W' := by
  have hs := h.size hB
  obtain ⟨h1, h2, h2', h4, h5⟩ := h
  obtain ⟨A', N', c', m, e1, e2, e3, e4⟩ := h2 h3 h7
  have hml : m.length = hi.length := by rw [← plain_len m, e3, plain_len]
  obtain ⟨v', W', hrun, hrow, hg, hv⟩ := run_eapp' W B 22 (.slice A' N' c') m e4.row S A m0 c lo hm hr.1 (by omega) hs
  have hO := (e4.mono (Nat.le_refl _) (S' := fun _ => True) (fun _ _ => trivial)).app hrow hg hv (fun e he => (hr.2 e he).mono fun b hb => ⟨trivial, fun e => by
    have := (e4.row.lt b e.symm).1
    have := hS b hb
    omega⟩)
  obtain ⟨A2, c2, rfl, _⟩ := hrow.form
  refine ⟨A', N', c', e1, A2, (m ++ lo).length, c2, W', hrun, ?_⟩
  unfold RotX
  simp only [lst1, updT, h9, if_true, show ¬ (3 : Nat) = 7 by decide, show ¬ (9 : Nat) = 7 by decide, show ¬ (14 : Nat) = 7 by decide, show ¬ (15 : Nat) = 7 by decide, show ¬ (16 : Nat) = 7 by decide, show ¬ (17 : Nat) = 7 by decide, if_false]
  refine ⟨h1.grown hg (by have := h1.size; omega) (fun k hk => (e4.row.lt k hk).1), fun _ a => (by cases a), fun _ _ => ⟨A2, (m ++ lo).length, c2, m ++ lo, by simp, rfl, hO.erds, by rw [plain_app, plain_app, e3]⟩, fun a => ?_, fun a => ?_⟩
  · obtain ⟨g, d1, d2, d3⟩ := h4 a
    exact ⟨g, by simpa using d1, d2, d3.grown hg (fun e => e4.row.blo d3 (by decide) e.symm)⟩
  · obtain ⟨g, d1, d2, d3⟩ := h5 a
    exact ⟨g, by simpa using d1, d2, d3.grown hg (fun e => e4.row.blo d3 (by decide) e.symm)⟩
theorem RotX.win {v : Value} (hB : B ≤ w.heap.size) (h : RotX w B hi lo F L f W) (h7 : L 7 = true) (hg : Below W.heap.size W W') : RotX w B hi lo F (lst1 L 9) (updT f (some 133) v) W' := by
  have hs := h.size hB
  obtain ⟨h1, h2, h2', h4, h5⟩ := h
  unfold RotX
  simp only [lst1, updT, h7, if_true, show ¬ (3 : Nat) = 9 by decide, show ¬ (7 : Nat) = 9 by decide, show ¬ (14 : Nat) = 9 by decide, show ¬ (15 : Nat) = 9 by decide, show ¬ (16 : Nat) = 9 by decide, show ¬ (17 : Nat) = 9 by decide, if_false]
  refine ⟨h1.trans (hg.mono hs), fun _ a => (by cases a), fun _ a => (by cases a), fun a => ?_, fun a => ?_⟩
  · obtain ⟨g, e1, e2, e3⟩ := h4 a
    exact ⟨g, by simpa using e1, e2, e3.new hg⟩
  · obtain ⟨g, e1, e2, e3⟩ := h5 a
    exact ⟨g, by simpa using e1, e2, e3.new hg⟩
theorem RotX.alp (hB : B ≤ w.heap.size) (h : RotX w B hi lo F L f W) (h16 : L 16 = false) : RotX w B hi lo F (lst1 L 14) (updT f (some 18) (.pointer (some ⟨W.heap.size, 0, none⟩))) (W.alloc (.cells (pcs zF) 31)) := by
  have hs := h.size hB
  have hg : Below W.heap.size W (W.alloc (.cells (pcs zF) 31)) := b_alloc _ _
  obtain ⟨h1, h2, h2', h4, h5⟩ := h
  unfold RotX
  simp only [lst1, updT, h16, if_true, show ¬ (3 : Nat) = 14 by decide, show ¬ (7 : Nat) = 14 by decide, show ¬ (9 : Nat) = 14 by decide, show ¬ (15 : Nat) = 14 by decide, show ¬ (16 : Nat) = 14 by decide, show ¬ (17 : Nat) = 14 by decide, if_false]
  refine ⟨h1.trans (hg.mono hs), fun a b => ?_, fun a b => ?_, fun _ => ⟨W.heap.size, by simp, hs, Blo.made _ _ _⟩, fun a => ?_⟩
  · obtain ⟨A', N', c', m, e1, e2, e3, e4⟩ := h2 a b
    exact ⟨A', N', c', m, by simpa using e1, e2, e3, e4.new hg⟩
  · obtain ⟨A', N', c', m, e1, e2, e3, e4⟩ := h2' a b
    exact ⟨A', N', c', m, by simpa using e1, e2, e3.new hg, e4⟩
  · obtain ⟨g, e1, e2, e3⟩ := h5 a
    exact ⟨g, by simpa using e1, e2, e3.new hg⟩
theorem RotX.ald (hB : B ≤ w.heap.size) (h : RotX w B hi lo F L f W) (h17 : L 17 = false) : RotX w B hi lo F (lst1 L 15) (updT f (some 19) (.pointer (some ⟨W.heap.size, 0, none⟩))) (W.alloc (.cells (dcs zF) 29)) := by
  have hs := h.size hB
  have hg : Below W.heap.size W (W.alloc (.cells (dcs zF) 29)) := b_alloc _ _
  obtain ⟨h1, h2, h2', h4, h5⟩ := h
  unfold RotX
  simp only [lst1, updT, h17, if_true, show ¬ (3 : Nat) = 15 by decide, show ¬ (7 : Nat) = 15 by decide, show ¬ (9 : Nat) = 15 by decide, show ¬ (14 : Nat) = 15 by decide, show ¬ (16 : Nat) = 15 by decide, show ¬ (17 : Nat) = 15 by decide, if_false]
  refine ⟨h1.trans (hg.mono hs), fun a b => ?_, fun a b => ?_, fun a => ?_, fun _ => ⟨W.heap.size, by simp, hs, Blo.made _ _ _⟩⟩
  · obtain ⟨A', N', c', m, e1, e2, e3, e4⟩ := h2 a b
    exact ⟨A', N', c', m, by simpa using e1, e2, e3, e4.new hg⟩
  · obtain ⟨A', N', c', m, e1, e2, e3, e4⟩ := h2' a b
    exact ⟨A', N', c', m, by simpa using e1, e2, e3.new hg, e4⟩
  · obtain ⟨g, e1, e2, e3⟩ := h4 a
    exact ⟨g, by simpa using e1, e2, e3.new hg⟩
theorem RotX.stp (hB : B ≤ w.heap.size) (h : RotX w B hi lo F L f W) (h7 : L 7 = true) (h9 : L 9 = true) (h14 : L 14 = true) : ∃ g, f 18 = .pointer (some ⟨g, 0, none⟩) ∧ ∃ W', (Instr.storeAt 31 (.pointer (some ⟨g, 0, none⟩)) (pv F)).run Try.prog W = .ok () W' ∧ RotX w B hi lo F (lst1 L 16) (updT f none undef) W' := by
  have hs := h.size hB
  obtain ⟨h1, h2, h2', h4, h5⟩ := h
  obtain ⟨g, e1, e2, e3⟩ := h4 h14
  obtain ⟨W2, hrun, hr, hg⟩ := run_setb W g 31 _ (pcs F) e3 (by rw [Try.sizePol]; rfl) rfl (pcs_one F)
  refine ⟨g, e1, W2, hrun, ?_⟩
  unfold RotX
  simp only [lst1, updT, h7, h9, if_true, show ¬ (3 : Nat) = 16 by decide, show ¬ (7 : Nat) = 16 by decide, show ¬ (9 : Nat) = 16 by decide, show ¬ (14 : Nat) = 16 by decide, show ¬ (15 : Nat) = 16 by decide, show ¬ (17 : Nat) = 16 by decide, if_false]
  refine ⟨h1.grown hg (by have := h1.size; omega) (fun k hk => by injection hk with hk; omega), fun _ a => (by cases a), fun _ a => (by cases a), fun _ => ⟨g, by simpa using e1, e2, hr⟩, fun a => ?_⟩
  obtain ⟨g2, d1, d2, d3⟩ := h5 a
  exact ⟨g2, by simpa using d1, d2, d3.grown hg (fun e => Blo.typeNe d3 e3 (by decide) (by injection e))⟩
theorem RotX.std (hB : B ≤ w.heap.size) (h : RotX w B hi lo F L f W) (h7 : L 7 = true) (h9 : L 9 = true) (h15 : L 15 = true) : ∃ g, f 19 = .pointer (some ⟨g, 0, none⟩) ∧ ∃ W', (Instr.storeAt 29 (.pointer (some ⟨g, 0, none⟩)) (.agg (dcs F))).run Try.prog W = .ok () W' ∧ RotX w B hi lo F (lst1 L 17) (updT f none undef) W' := by
  have hs := h.size hB
  obtain ⟨h1, h2, h2', h4, h5⟩ := h
  obtain ⟨g, e1, e2, e3⟩ := h5 h15
  obtain ⟨W2, hrun, hr, hg⟩ := run_setb W g 29 _ (dcs F) e3 (by rw [Try.sizeDot9]; rfl) rfl (dcs_one F)
  refine ⟨g, e1, W2, hrun, ?_⟩
  unfold RotX
  simp only [lst1, updT, h7, h9, if_true, show ¬ (3 : Nat) = 17 by decide, show ¬ (7 : Nat) = 17 by decide, show ¬ (9 : Nat) = 17 by decide, show ¬ (14 : Nat) = 17 by decide, show ¬ (15 : Nat) = 17 by decide, show ¬ (16 : Nat) = 17 by decide, if_false]
  refine ⟨h1.grown hg (by have := h1.size; omega) (fun k hk => by injection hk with hk; omega), fun _ a => (by cases a), fun _ a => (by cases a), fun a => ?_, fun _ => ⟨g, by simpa using e1, e2, hr⟩⟩
  obtain ⟨g2, d1, d2, d3⟩ := h4 a
  exact ⟨g2, by simpa using d1, d2, d3.grown hg (fun e => Blo.typeNe d3 e3 (by decide) (by injection e))⟩
end
end Go.Proofs.Ytgjepgnbkfbodaa
