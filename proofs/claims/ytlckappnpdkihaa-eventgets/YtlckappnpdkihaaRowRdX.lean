/- What stands while 'x.f = append(x.f, api.Dot{Node: node, Seq: r.Int()})' goes on, in any order, whatever struct x is: cs tells its cells by its row of dots, which lies at off. (DotRdX is the same for a set.) -/
import Derived.Test.YtlckappnpdkihaaFam
import Derived.Test.YtlckappnpdkihaaDotMem
namespace Go.Proofs.Ytlckappnpdkihaa
set_option linter.unusedVariables false
set_option linter.unusedSimpArgs false
open Go.ChangeShapes Go.WideShapes Go.ChangeAt Go.RowKit

/-- A reader, as it stands: kept while memory grows, and while blocks from B on are written. -/
structure RgP (RP : World → (List Int × Int) → Prop) (B : Nat) : Prop where
  new : ∀ {W W' s}, RP W s → Grows W W' → RP W' s
  far : ∀ {W W' s b}, RP W s → B ≤ b → W.grownBy W' (some b) → RP W' s
/-- Cells that hold a row at off. -/
structure RowAt (cs : Option Addr → Nat → Nat → Array Value) (off : Nat) : Prop where
  get : ∀ A n c, (cs A n c)[off]? = some (.slice A n c)
  put : ∀ A n c A' n' c', (cs A n c).setIfInBounds off (.slice A' n' c') = cs A' n' c'

section
variable {RP : World → (List Int × Int) → Prop} {w : World} {g gr gs : Nat} {tS : TypeId} {zr : Array Value} {cs : Option Addr → Nat → Nat → Array Value} {off : Nat} {A : Option Addr} {m c : Nat} {M : List D.Dot} {x1 x2 : Int} {s1 s2 : List Int × Int} {p q : Nat} {L : Nat → Bool} {f : Nat → Value} {W W' : World}
def RgX (RP : World → (List Int × Int) → Prop) (w : World) (g gr gs : Nat) (tS : TypeId) (zr : Array Value) (cs : Option Addr → Nat → Nat → Array Value) (A : Option Addr) (m c : Nat) (M : List D.Dot) (x1 x2 : Int) (s1 s2 : List Int × Int) (p q : Nat) : Say := fun L f W =>
  w.grownBy W (some g) ∧ Blo W gr tS zr ∧ (if L 4 = true then RP W s2 else RP W s1) ∧
  (L 6 = true → L 7 = false → ∃ b, f p = .slice (some ⟨b, 0, none⟩) 1 1 ∧ Blo W b 23 #[.int .i64 x1, .int .i64 x2]) ∧
  (if L 7 = true then ∃ A' c', f q = .slice A' (m + 1) c' ∧ DRow W w.heap.size (.slice A' (m + 1) c') (M ++ [(x1, x2)]) ∧ (L 9 = true → Blo W gs tS (cs A' (m + 1) c')) else DRow W w.heap.size (.slice A m c) M) ∧
  (L 9 = false → Blo W gs tS (cs A m c))
theorem RgX.up (hP : RgP RP w.heap.size) : ∀ (L L' : Nat → Bool) (f f' : Nat → Value) (W W' : World), (∀ j ∈ [1, 4, 6, 7, 9], L' j = L j) → (∀ s ∈ [p, q], f' s = f s) → Grows W W' → RgX RP w g gr gs tS zr cs A m c M x1 x2 s1 s2 p q L f W → RgX RP w g gr gs tS zr cs A m c M x1 x2 s1 s2 p q L' f' W' := by
  intro L L' f f' W W' hL hf hg ⟨h1, h2, h3, h4, h5, h6⟩
  unfold RgX
  rw [hL 4 (by decide), hL 6 (by decide), hL 7 (by decide), hL 9 (by decide), hf p (by simp), hf q (by simp)]
  refine ⟨gb_trans h1 (gb_below hg _), h2.new hg, ?_, fun e e' => ?_, ?_, fun e => (h6 e).new hg⟩
  · split at h3
    · rw [if_pos (by assumption)]; exact hP.new h3 hg
    · rw [if_neg (by assumption)]; exact hP.new h3 hg
  · obtain ⟨b, e1, e2⟩ := h4 e e'
    exact ⟨b, e1, e2.new hg⟩
  · split at h5
    · rw [if_pos (by assumption)]
      obtain ⟨A', c', e1, e2, e3⟩ := h5
      exact ⟨A', c', e1, e2.new hg, fun e => (e3 e).new hg⟩
    · rw [if_neg (by assumption)]; exact DRow.new h5 hg
/-- Behind an operation that touches no world, with a temporary that X does not speak of. -/
theorem RgX.pass {i d : Nat} {v : Value} (hi : i ≠ 4 ∧ i ≠ 6 ∧ i ≠ 7 ∧ i ≠ 9) (hd : d ≠ p ∧ d ≠ q) (h : RgX RP w g gr gs tS zr cs A m c M x1 x2 s1 s2 p q L f W) : RgX RP w g gr gs tS zr cs A m c M x1 x2 s1 s2 p q (lst1 L i) (updT f (some d) v) W := by
  unfold RgX at *
  have e : ∀ j, j ≠ i → lst1 L i j = L j := fun j hj => by unfold lst1; rw [if_neg hj]
  have ef : ∀ s, d ≠ s → updT f (some d) v s = f s := fun s hs => by unfold updT; rw [if_neg (fun e => hs (by injection e))]
  rw [e 4 (Ne.symm hi.1), e 6 (Ne.symm hi.2.1), e 7 (Ne.symm hi.2.2.1), e 9 (Ne.symm hi.2.2.2), ef p hd.1, ef q hd.2]
  exact h
theorem RgX.row (hR : RowAt cs off) (h : RgX RP w g gr gs tS zr cs A m c M x1 x2 s1 s2 p q L f W) (h9 : L 9 = false) : W.cell? ⟨gs, off, none⟩ = some (.slice A m c) := by
  exact ((h.2.2.2.2.2 h9).cell off).trans (hR.get _ _ _)
theorem RgX.before (h : RgX RP w g gr gs tS zr cs A m c M x1 x2 s1 s2 p q L f W) (h4 : L 4 = false) : RP W s1 := by
  have := h.2.2.1
  rw [h4] at this
  simpa using this
/-- The number is read. -/
theorem RgX.int {d : Nat} {v : Value} (hg : g < w.heap.size) (hgr : w.heap.size ≤ gr) (hgs : w.heap.size ≤ gs) (hd : d ≠ p ∧ d ≠ q) (h : RgX RP w g gr gs tS zr cs A m c M x1 x2 s1 s2 p q L f W) (h6 : L 6 = false) (h7 : L 7 = false) (h9 : L 9 = false) (hr : RP W' s2) (hw : W.grownBy W' (some g)) :
    RgX RP w g gr gs tS zr cs A m c M x1 x2 s1 s2 p q (lst1 L 4) (updT f (some d) v) W' := by
  obtain ⟨k1, k2, k3, k4, k5, k6⟩ := h
  have ef : ∀ s, d ≠ s → updT f (some d) v s = f s := fun s hs => by unfold updT; rw [if_neg (fun e => hs (by injection e))]
  unfold RgX
  simp only [lst1, h6, h7, h9, ef p hd.1, ef q hd.2, if_true, show ¬ (6 : Nat) = 4 by decide, show ¬ (7 : Nat) = 4 by decide, show ¬ (9 : Nat) = 4 by decide, if_false]
  rw [h7] at k5
  refine ⟨gb_trans k1 hw, k2.grown hw (fun e => by injection e with e; omega), hr, fun e _ => (by cases e), ?_, fun _ => (k6 h9).grown hw (fun e => by injection e with e; omega)⟩
  have k5' : DRow W w.heap.size (.slice A m c) M := by simpa using k5
  exact k5'.keep fun b hb hl => hw.block b hl (fun e => by have := (k5'.lt b hb).1; injection e with e; omega)
/-- The one dot's row is made. -/
theorem RgX.lit (hP : RgP RP w.heap.size) (hpq : p ≠ q) (h : RgX RP w g gr gs tS zr cs A m c M x1 x2 s1 s2 p q L f W) (h7 : L 7 = false) (h9 : L 9 = false) :
    RgX RP w g gr gs tS zr cs A m c M x1 x2 s1 s2 p q (lst1 L 6) (updT f (some p) (.slice (some ⟨W.heap.size, 0, none⟩) 1 1)) (W.alloc (.cells #[.int .i64 x1, .int .i64 x2] 23)) := by
  have hg : Grows W (W.alloc (.cells #[.int .i64 x1, .int .i64 x2] 23)) := Grows.alloc _ _
  obtain ⟨k1, k2, k3, k4, k5, k6⟩ := h
  have ef : updT f (some p) (.slice (some ⟨W.heap.size, 0, none⟩) 1 1) p = .slice (some ⟨W.heap.size, 0, none⟩) 1 1 := by simp [updT]
  unfold RgX
  simp only [lst1, h7, h9, ef, if_true, show ¬ (4 : Nat) = 6 by decide, show ¬ (7 : Nat) = 6 by decide, show ¬ (9 : Nat) = 6 by decide, if_false]
  rw [h7] at k5
  refine ⟨gb_trans k1 (gb_below hg _), k2.new hg, ?_, fun _ _ => ⟨_, rfl, Blo.made _ _ _⟩, ?_, fun _ => (k6 h9).new hg⟩
  · split at k3
    · rw [if_pos (by assumption)]; exact hP.new k3 hg
    · rw [if_neg (by assumption)]; exact hP.new k3 hg
  · have k5' : DRow W w.heap.size (.slice A m c) M := by simpa using k5
    exact k5'.new hg
/-- The dot is appended. -/
theorem RgX.app (hP : RgP RP w.heap.size) (hl : M.length = m) {v : Value} (hpq : p ≠ q) (htD : 23 ≠ tS) (h : RgX RP w g gr gs tS zr cs A m c M x1 x2 s1 s2 p q L f W) (h4 : L 4 = true) (h6 : L 6 = true) (h7 : L 7 = false) (h9 : L 9 = false)
    (hR : DRow W' w.heap.size v (M ++ [(x1, x2)])) (hw : W.grownBy W' (Value.slice A m c).ownBlock) :
    RgX RP w g gr gs tS zr cs A m c M x1 x2 s1 s2 p q (lst1 L 7) (updT f (some q) v) W' := by
  obtain ⟨k1, k2, k3, k4, k5, k6⟩ := h
  have ep : updT f (some q) v p = f p := by unfold updT; rw [if_neg (fun e => hpq (by injection e with e; exact e.symm))]
  have eq : updT f (some q) v q = v := by simp [updT]
  obtain ⟨A', c', rfl, _⟩ := hR.form
  rw [h7] at k5
  have k5' : DRow W w.heap.size (.slice A m c) M := by simpa using k5
  have hne : ∀ {r cs}, Blo W r tS cs → some r ≠ (Value.slice A m c).ownBlock := fun hb e => k5'.blo hb htD e.symm
  have hlen : (M ++ [(x1, x2)]).length = m + 1 := by simp [hl]
  rw [hlen] at hR eq ep
  unfold RgX
  simp only [lst1, h4, h6, h9, hlen, if_true, show ¬ (4 : Nat) = 7 by decide, show ¬ (6 : Nat) = 7 by decide, show ¬ (9 : Nat) = 7 by decide, if_false]
  rw [h4] at k3
  refine ⟨gb_new k1 hw (fun b hb => (k5'.lt b hb).1), k2.grown hw (hne k2), ?_, fun _ e => (by cases e), ⟨A', c', eq, hR, fun e => by cases e⟩, fun _ => (k6 h9).grown hw (hne (k6 h9))⟩
  · have k3' : RP W s2 := by simpa using k3
    cases hob : (Value.slice A m c).ownBlock with
    | none => rw [hob] at hw; exact hP.new k3' (below_gb hw)
    | some b => rw [hob] at hw; exact hP.far k3' (k5'.lt b hob).1 hw
/-- The row is stored. -/
theorem RgX.sto (hR : RowAt cs off) (hP : RgP RP w.heap.size) (hgr : w.heap.size ≤ gr) (hgs : w.heap.size ≤ gs) (hrs : gr ≠ gs) (htD : 23 ≠ tS) (h : RgX RP w g gr gs tS zr cs A m c M x1 x2 s1 s2 p q L f W) (h4 : L 4 = true) (h7 : L 7 = true) (h9 : L 9 = false) :
    ∃ A' c', f q = .slice A' (m + 1) c' ∧ W.cell? ⟨gs, off, none⟩ = some (.slice A m c) ∧ W.frozen? ⟨gs, off, none⟩ = false ∧ RgX RP w g gr gs tS zr cs A m c M x1 x2 s1 s2 p q (lst1 L 9) (updT f none undef) (W.setCell ⟨gs, off, none⟩ (.slice A' (m + 1) c')) := by
  obtain ⟨k1, k2, k3, k4, k5, k6⟩ := h
  rw [h7] at k5
  obtain ⟨A', c', e1, e2, _⟩ : ∃ A' c', f q = .slice A' (m + 1) c' ∧ DRow W w.heap.size (.slice A' (m + 1) c') (M ++ [(x1, x2)]) ∧ (L 9 = true → Blo W gs tS (cs A' (m + 1) c')) := by simpa using k5
  have hB := k6 h9
  have hne := e2.blo hB htD
  have hgb : W.grownBy (W.setCell ⟨gs, off, none⟩ (.slice A' (m + 1) c')) (some gs) := gb_set (World.grownBy.refl _ _) (.inl rfl) _
  refine ⟨A', c', e1, (hB.cell off).trans (hR.get _ _ _), hB.frozen off, ?_⟩
  unfold RgX
  simp only [lst1, updT, h4, h7, if_true, show ¬ (4 : Nat) = 9 by decide, show ¬ (6 : Nat) = 9 by decide, show ¬ (7 : Nat) = 9 by decide, if_false]
  rw [h4] at k3
  refine ⟨gb_new k1 hgb (fun b hb => by injection hb with hb; omega), k2.other (fun e => hrs e) _, hP.far (by simpa using k3) hgs hgb, fun _ e => (by cases e), ⟨A', c', by simpa using e1, ?_, fun _ => ?_⟩, fun e => (by cases e)⟩
  · exact e2.keep fun b hb _ => Below.heap_setCell _ _ _ _ (fun e => hne (by rw [hb, e]))
  · have := hB.put off (.slice A' (m + 1) c')
    rwa [hR.put] at this
/-- All is done. -/
theorem RgX.fin (h : RgX RP w g gr gs tS zr cs A m c M x1 x2 s1 s2 p q L f W) (h4 : L 4 = true) (h7 : L 7 = true) (h9 : L 9 = true) :
    w.grownBy W (some g) ∧ Blo W gr tS zr ∧ RP W s2 ∧ ∃ A' c', f q = .slice A' (m + 1) c' ∧ DRow W w.heap.size (.slice A' (m + 1) c') (M ++ [(x1, x2)]) ∧ Blo W gs tS (cs A' (m + 1) c') := by
  obtain ⟨k1, k2, k3, k4, k5, k6⟩ := h
  rw [h4] at k3
  rw [h7] at k5
  obtain ⟨A', c', e1, e2, e3⟩ : ∃ A' c', f q = .slice A' (m + 1) c' ∧ DRow W w.heap.size (.slice A' (m + 1) c') (M ++ [(x1, x2)]) ∧ (L 9 = true → Blo W gs tS (cs A' (m + 1) c')) := by simpa using k5
  exact ⟨k1, k2, by simpa using k3, A', c', e1, e2, e3 h9⟩
end
end Go.Proofs.Ytlckappnpdkihaa
