/- WindowTurns: what stands while the Load of a list that is turned round is asked, in any order. -/
import Derived.Test.YtodlifbhpgphcaaEvCopies
import Derived.Test.YtodlifbhpgphcaaEvCut
import Derived.Test.YtodlifbhpgphcaaFamZ
namespace Go.Proofs.Ytodlifbhpgphcaa
set_option linter.unusedVariables false
set_option linter.unusedSimpArgs false
open Go.ChangeShapes Go.WideShapes Go.ChangeAt Go.RowKit

def TurX (w : World) (B : Nat) (hi lo : List EvV) : Say := fun L f W =>
  Below B w W ∧
  (L 3 = true → L 7 = false → ∃ A' N' c' m, f 85 = .slice A' N' c' ∧ N' = m.length ∧ plain m = plain hi ∧ EOwn W (fun b => B ≤ b) B (.slice A' N' c') m) ∧
  (L 7 = true → L 10 = false → ∃ A2 N2 c2 m2, f 89 = .slice A2 N2 c2 ∧ N2 = m2.length ∧ ERds W (fun _ => True) A2 m2 ∧ plain m2 = plain (hi ++ lo))
section
variable {w : World} {B : Nat} {hi lo : List EvV} {L : Nat → Bool} {f : Nat → Value} {W W' : World}
theorem TurX.up (hB : B ≤ w.heap.size) : ∀ (L L' : Nat → Bool) (f f' : Nat → Value) (W W' : World), (∀ j ∈ [3, 7, 10], L' j = L j) → (∀ s ∈ [85, 89], f' s = f s) → Grows W W' → TurX w B hi lo L f W → TurX w B hi lo L' f' W' := by
  intro L L' f f' W W' hL hf hg ⟨h1, h2, h3⟩
  unfold TurX
  rw [hL 3 (by decide), hL 7 (by decide), hL 10 (by decide), hf 85 (by simp), hf 89 (by simp)]
  refine ⟨h1.trans (hg.mono (by have := h1.size; omega)), fun a b => ?_, fun a b => ?_⟩
  · obtain ⟨A', N', c', m, e1, e2, e3, e4⟩ := h2 a b
    exact ⟨A', N', c', m, e1, e2, e3, e4.new hg⟩
  · obtain ⟨A', N', c', m, e1, e2, e3, e4⟩ := h3 a b
    exact ⟨A', N', c', m, e1, e2, e3.new hg, e4⟩
theorem TurX.size (hB : B ≤ w.heap.size) (h : TurX w B hi lo L f W) : B ≤ W.heap.size := by have := h.1.size; omega
theorem TurX.cop (hB : B ≤ w.heap.size) (h : TurX w B hi lo L f W) (h3 : L 3 = false) (h7 : L 7 = false) {A' : Option Addr} {N' c' : Nat} {m : List EvV} (hN : N' = m.length) (hp : plain m = plain hi) (hO : EOwn W' (fun b => W.heap.size ≤ b) W.heap.size (.slice A' N' c') m) (hg : Below W.heap.size W W') :
    TurX w B hi lo (lst1 L 3) (updT f (some 85) (.slice A' N' c')) W' := by
  have hs := h.size hB
  obtain ⟨h1, h2, h2'⟩ := h
  unfold TurX
  simp only [lst1, updT, h7, if_true, show ¬ (7 : Nat) = 3 by decide, show ¬ (10 : Nat) = 3 by decide, if_false]
  exact ⟨h1.trans (hg.mono hs), fun _ _ => ⟨A', N', c', m, by simp, hN, hp, hO.mono hs (fun b hb => Nat.le_trans hs hb)⟩, fun a => (by cases a)⟩
theorem TurX.app (hB : B ≤ w.heap.size) (h : TurX w B hi lo L f W) (h3 : L 3 = true) (h7 : L 7 = false) (h9 : L 10 = false) {S : Nat → Prop} {A : Option Addr} {m0 c : Nat} (hm : lo.length = m0) (hr : ERds W S A lo) (hS : ∀ b, S b → b < B) (hlen : hi.length + lo.length ≤ 1000000) :
    ∃ A' N' c', f 85 = .slice A' N' c' ∧ ∃ A2 N2 c2 W', (Builtin.append_ #[22, 22] 22 #[.slice A' N' c', .slice A m0 c]).run Try.prog W = .ok (.slice A2 N2 c2) W' ∧ TurX w B hi lo (lst1 L 7) (updT f (some 89) (.slice A2 N2 c2)) W' := by
  have hs := h.size hB
  obtain ⟨h1, h2, h2'⟩ := h
  obtain ⟨A', N', c', m, e1, e2, e3, e4⟩ := h2 h3 h7
  have hml : m.length = hi.length := by rw [← plain_len m, e3, plain_len]
  obtain ⟨v', W', hrun, hrow, hg, hv⟩ := run_eapp' W B 22 (.slice A' N' c') m e4.row S A m0 c lo hm hr.1 (by omega) hs
  have hO := (e4.mono (Nat.le_refl _) (S' := fun _ => True) (fun _ _ => trivial)).app hrow hg hv (fun e he => (hr.2 e he).mono fun b hb => ⟨trivial, fun e => by
    have := (e4.row.lt b e.symm).1
    have := hS b hb
    omega⟩)
  obtain ⟨A2, c2, rfl, _⟩ := hrow.form
  refine ⟨A', N', c', e1, A2, (m ++ lo).length, c2, W', hrun, ?_⟩
  unfold TurX
  simp only [lst1, updT, h9, if_true, show ¬ (3 : Nat) = 7 by decide, show ¬ (10 : Nat) = 7 by decide, if_false]
  exact ⟨h1.grown hg (by have := h1.size; omega) (fun k hk => (e4.row.lt k hk).1), fun _ a => (by cases a), fun _ _ => ⟨A2, (m ++ lo).length, c2, m ++ lo, by simp, rfl, hO.erds, by rw [plain_app, plain_app, e3]⟩⟩
theorem TurX.win {v : Value} (hB : B ≤ w.heap.size) (h : TurX w B hi lo L f W) (h7 : L 7 = true) (hg : Below W.heap.size W W') : TurX w B hi lo (lst1 L 10) (updT f (some 92) v) W' := by
  have hs := h.size hB
  obtain ⟨h1, h2, h2'⟩ := h
  unfold TurX
  simp only [lst1, updT, h7, if_true, show ¬ (3 : Nat) = 10 by decide, show ¬ (7 : Nat) = 10 by decide, if_false]
  exact ⟨h1.trans (hg.mono hs), fun _ a => (by cases a), fun _ a => (by cases a)⟩
end
end Go.Proofs.Ytodlifbhpgphcaa
