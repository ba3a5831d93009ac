/- Layer 13: the program's disk and the document's, apart; the say of the region that plays a step on both, in whichever order. -/
import Derived.Test.YtfllebfegngdhaaDkP
import Derived.Test.YtfllebfegngdhaaSameY
import Derived.Test.YtfllebfegngdhaaFam
namespace Go.Proofs.Ytfllebfegngdhaa
set_option linter.unusedVariables false
set_option linter.unusedSimpArgs false
open Go.ChangeShapes Go.WideShapes Go.ChangeAt Go.RowKit Go.Deep

/-- The program's disk and the document's, apart from one another and from the blocks from Bo up to Vs. -/
def DPM (w0 W : World) (Bo Vs g gm : Nat) (Z : Int) (L : List Int) (us : List Dk.U) (Lm : List Int) (um : List Dk.U) : Prop :=
  ∃ fp fq : Nat → Prop, PD W fp g Z L us ∧ MD W fq gm Z Lm um ∧ (∀ b, fp b → w0.heap.size ≤ b ∧ b < W.heap.size ∧ (b < Bo ∨ Vs ≤ b)) ∧ (∀ b, fq b → w0.heap.size ≤ b ∧ b < W.heap.size ∧ (b < Bo ∨ Vs ≤ b)) ∧ (∀ b, fp b → ¬ fq b)
section
variable {w0 V W W' : World} {Bo Vs g gm : Nat} {Z : Int} {L Lm : List Int} {us um : List Dk.U}
theorem DPM.new (h : DPM w0 W Bo Vs g gm Z L us Lm um) (hb : Below W.heap.size W W') : DPM w0 W' Bo Vs g gm Z L us Lm um := by
  obtain ⟨fp, fq, h1, h2, h3, h4, h5⟩ := h
  have hs := hb.size
  exact ⟨fp, fq, h1.keep fun b _ hl => hb.block b hl, h2.new hb, fun b hf => ⟨(h3 b hf).1, by have := (h3 b hf).2.1; omega, (h3 b hf).2.2⟩, fun b hf => ⟨(h4 b hf).1, by have := (h4 b hf).2.1; omega, (h4 b hf).2.2⟩, h5⟩
/-- What was made since Bo stays apart. -/
theorem DPM.part (h : DPM w0 W W.heap.size W.heap.size g gm Z L us Lm um) (hb : Below W.heap.size W W') : DPM w0 W' W.heap.size W'.heap.size g gm Z L us Lm um := by
  obtain ⟨fp, fq, h1, h2, h3, h4, h5⟩ := h
  have hs := hb.size
  exact ⟨fp, fq, h1.keep fun b _ hl => hb.block b hl, h2.new hb, fun b hf => ⟨(h3 b hf).1, by have := (h3 b hf).2.1; omega, .inl (h3 b hf).2.1⟩, fun b hf => ⟨(h4 b hf).1, by have := (h4 b hf).2.1; omega, .inl (h4 b hf).2.1⟩, h5⟩
theorem DPM.join (h : DPM w0 W Bo Vs g gm Z L us Lm um) : DPM w0 W W.heap.size W.heap.size g gm Z L us Lm um := by
  obtain ⟨fp, fq, h1, h2, h3, h4, h5⟩ := h
  exact ⟨fp, fq, h1, h2, fun b hf => ⟨(h3 b hf).1, (h3 b hf).2.1, .inl (h3 b hf).2.1⟩, fun b hf => ⟨(h4 b hf).1, (h4 b hf).2.1, .inl (h4 b hf).2.1⟩, h5⟩
/-- Behind a step of the program's. -/
theorem DPM.prog (hb0 : Below w0.heap.size w0 W) (hV : Vs ≤ W.heap.size) {r : Value} {L' : List Int} {us' : List Dk.U} {f : FuncId} {args : Array Value} (h : DPM w0 W Bo Vs g gm Z L us Lm um)
    (H : ∀ fp : Nat → Prop, PD W fp g Z L us → (∀ b, fp b → w0.heap.size ≤ b ∧ b < W.heap.size ∧ (b < Bo ∨ Vs ≤ b)) → Calls Try.prog f args W (PskPost r Z L' us' fp g W)) :
    Calls Try.prog f args W fun e w' => e = .returned r ∧ DPM w0 w' Bo Vs g gm Z L' us' Lm um ∧ Below w0.heap.size w0 w' ∧ W.heap.size ≤ w'.heap.size ∧ ∀ b, Bo ≤ b → b < Vs → w'.heap[b]? = W.heap[b]? := by
  obtain ⟨fp, fq, h1, h2, h3, h4, h5⟩ := h
  have hs0 := hb0.size
  refine (H fp h1 h3).mono fun e w' ⟨he, k1, k2⟩ => ?_
  have hs := k2.size
  refine ⟨he, ⟨fun b => (fp b ∨ W.heap.size ≤ b) ∧ b < w'.heap.size, fq, k1.mono fun b hb hl => ⟨hb, hl⟩, h2.kp k2 fun b hq _ hp => h5 b hp hq, fun b hp => ?_, fun b hq => ⟨(h4 b hq).1, by have := (h4 b hq).2.1; omega, (h4 b hq).2.2⟩, fun b hp hq => ?_⟩, hb0.trans (k2.below hs0 fun b hp _ => (h3 b hp).1), hs, fun b h1 h2 => k2.block b (by omega) fun hp => by have := (h3 b hp).2.2; omega⟩
  · rcases hp.1 with h | h
    · exact ⟨(h3 b h).1, hp.2, (h3 b h).2.2⟩
    · exact ⟨by omega, hp.2, .inr (by omega)⟩
  · rcases hp.1 with h | h
    · exact h5 b h hq
    · have := (h4 b hq).2.1; omega
/-- Behind a step of the document's. -/
theorem DPM.doc (hb0 : Below w0.heap.size w0 W) (hV : Vs ≤ W.heap.size) {r : Value} {L' : List Int} {um' : List Dk.U} {f : FuncId} {args : Array Value} (h : DPM w0 W Bo Vs g gm Z L us Lm um)
    (H : ∀ fq : Nat → Prop, MD W fq gm Z Lm um → (∀ b, fq b → w0.heap.size ≤ b ∧ b < W.heap.size ∧ (b < Bo ∨ Vs ≤ b)) → Calls Try.prog f args W (DskPost r Z L' um' fq gm W)) :
    Calls Try.prog f args W fun e w' => e = .returned r ∧ DPM w0 w' Bo Vs g gm Z L us L' um' ∧ Below w0.heap.size w0 w' ∧ W.heap.size ≤ w'.heap.size ∧ ∀ b, Bo ≤ b → b < Vs → w'.heap[b]? = W.heap[b]? := by
  obtain ⟨fp, fq, h1, h2, h3, h4, h5⟩ := h
  have hs0 := hb0.size
  refine (H fq h2 h4).mono fun e w' ⟨he, k1, k2⟩ => ?_
  have hs := k2.size
  refine ⟨he, ⟨fp, fun b => (fq b ∨ W.heap.size ≤ b) ∧ b < w'.heap.size, h1.keep fun b hp hl => k2.block b hl (h5 b hp), k1.mono fun b hb hl => ⟨hb, hl⟩, fun b hp => ⟨(h3 b hp).1, by have := (h3 b hp).2.1; omega, (h3 b hp).2.2⟩, fun b hq => ?_, fun b hp hq => ?_⟩, hb0.trans (k2.below hs0 fun b hp _ => (h4 b hp).1), hs, fun b h1 h2 => k2.block b (by omega) fun hq => by have := (h4 b hq).2.2; omega⟩
  · rcases hq.1 with h | h
    · exact ⟨(h4 b h).1, hq.2, (h4 b h).2.2⟩
    · exact ⟨by omega, hq.2, .inr (by omega)⟩
  · rcases hq.1 with h | h
    · exact h5 b hp h
    · have := (h3 b hp).2.1; omega
end

theorem Soft.newK {w wr V : World} {A : Option Addr} {n : Nat} (h : Soft w wr A n) (hb : Below wr.heap.size wr V) : Soft w V A n :=
  ⟨gb_trans h.1 (gb_below hb _), fun hn => by
    obtain ⟨g, cur, e, hB, hz⟩ := h.2 hn
    exact ⟨g, cur, e, hB.new hb, hz⟩⟩
section
variable {w0 W W' : World} {Bo Vs g gm : Nat} {Z : Int} {L : List Int} {us : List Dk.U}
theorem DPM.gb {o : Option Nat} (h : DPM w0 W Bo Vs g gm Z L us L us) (hg : W.grownBy W' o) (ho : ∀ b, o = some b → Bo ≤ b ∧ b < Vs) : DPM w0 W' Bo Vs g gm Z L us L us := by
  obtain ⟨fp, fq, h1, h2, h3, h4, h5⟩ := h
  have hs := hg.size
  refine ⟨fp, fq, h1.keep fun b hp hl => hg.block b hl fun e => ?_, h2.keep fun b hq hl => hg.block b hl fun e => ?_, fun b hp => ⟨(h3 b hp).1, by have := (h3 b hp).2.1; omega, (h3 b hp).2.2⟩, fun b hq => ⟨(h4 b hq).1, by have := (h4 b hq).2.1; omega, (h4 b hq).2.2⟩, h5⟩
  · have := ho b e.symm; have := (h3 b hp).2.2; omega
  · have := ho b e.symm; have := (h4 b hq).2.2; omega
theorem DPM.read (h : DPM w0 W Bo Vs g gm Z L us L us) (hO : Dk.Ok Z L us) (hl : us.length ≤ 900000000) : Calls Try.prog 27 #[.pointer (some ⟨g, 0, none⟩)] W (NewB (Dk.aft L us) W) := by
  obtain ⟨fp, fq, h1, h2, h3, h4, h5⟩ := h
  exact pread_any h1 hO hl
theorem DPM.wait (h : DPM w0 W Bo Vs g gm Z L us L us) (hO : Dk.Ok Z L us) (hl : us.length ≤ 900000000) : Calls Try.prog 30 #[.pointer (some ⟨g, 0, none⟩)] W fun e w' => e = .returned (.int .i64 (us.length : Int)) ∧ Below W.heap.size W w' := by
  obtain ⟨fp, fq, h1, h2, h3, h4, h5⟩ := h
  exact pwait_any h1 hO hl
theorem DPM.rread (h : DPM w0 W Bo Vs g gm Z L us L us) (hO : Dk.Ok Z L us) (hl : us.length ≤ 900000000) : Calls Try.prog 28 #[.pointer (some ⟨gm, 0, none⟩)] W (NewB (Dk.aft L us) W) := by
  obtain ⟨fp, fq, h1, h2, h3, h4, h5⟩ := h
  exact rread_any h2 hO (by omega)
theorem DPM.waits (h : DPM w0 W Bo Vs g gm Z L us L us) : ∃ A c, ∀ V, Grows W V → V.cell? ⟨gm, 2, none⟩ = some (.slice A us.length c) := by
  obtain ⟨fp, fq, h1, h2, h3, h4, h5⟩ := h
  obtain ⟨lv, A, c, l, _, _, _, hM, _⟩ := h2.cells
  exact ⟨A, c, fun V hV => (mdk_cells (hM.blo.new hV)).2.2.1⟩
end

/-- While a step is played on both: V the world ahead of them, Bo what was there when the round began. -/
def PXd (w0 V : World) (Bo g gm : Nat) (Z : Int) (L : List Int) (us : List Dk.U) (L' : List Int) (us' : List Dk.U) : Say := fun Lf f W =>
  (Below w0.heap.size w0 W ∧ V.heap.size ≤ W.heap.size) ∧ (∀ b, Bo ≤ b → b < V.heap.size → W.heap[b]? = V.heap[b]?) ∧
  DPM w0 W Bo V.heap.size g gm Z (if Lf 2 = true then L' else L) (if Lf 2 = true then us' else us) (if Lf 5 = true then L' else L) (if Lf 5 = true then us' else us)
section
variable {w0 V W W' : World} {Bo g gm : Nat} {Z : Int} {L L' : List Int} {us us' : List Dk.U} {Lf : Nat → Bool} {f : Nat → Value}
theorem PXd.up (hV : w0.heap.size ≤ V.heap.size) : ∀ (Lf Lf' : Nat → Bool) (f f' : Nat → Value) (W W' : World), (∀ j ∈ [1, 2, 4, 5], Lf' j = Lf j) → (∀ s ∈ ([] : List Nat), f' s = f s) → Grows W W' → PXd w0 V Bo g gm Z L us L' us' Lf f W → PXd w0 V Bo g gm Z L us L' us' Lf' f' W' := by
  intro Lf Lf' f f' W W' hL hf hg ⟨k1, k2, k3⟩
  unfold PXd
  rw [hL 2 (by decide), hL 5 (by decide)]
  exact ⟨⟨k1.1.trans (Below.mono hg (Nat.le_trans hV k1.2)), Nat.le_trans k1.2 (Below.size hg)⟩, fun b h1 h2 => (Below.block hg b (by have := k1.2; omega)).trans (k2 b h1 h2), k3.new hg⟩
theorem PXd.pass {i d : Nat} {v : Value} (hi : i ≠ 2 ∧ i ≠ 5) (h : PXd w0 V Bo g gm Z L us L' us' Lf f W) : PXd w0 V Bo g gm Z L us L' us' (lst1 Lf i) (updT f (some d) v) W := by
  unfold PXd at *
  have e : ∀ j, j ≠ i → lst1 Lf i j = Lf j := fun j hj => by unfold lst1; rw [if_neg hj]
  rw [e 2 (Ne.symm hi.1), e 5 (Ne.symm hi.2)]
  exact h
theorem PXd.prog {r : Value} {fn : FuncId} {args : Array Value} (h : PXd w0 V Bo g gm Z L us L' us' Lf f W) (h2 : Lf 2 = false)
    (H : ∀ fp : Nat → Prop, PD W fp g Z L us → (∀ b, fp b → w0.heap.size ≤ b ∧ b < W.heap.size ∧ (b < Bo ∨ V.heap.size ≤ b)) → Calls Try.prog fn args W (PskPost r Z L' us' fp g W)) {d : Nat} {v : Value} :
    Calls Try.prog fn args W fun e w' => e = .returned r ∧ PXd w0 V Bo g gm Z L us L' us' (lst1 Lf 2) (updT f (some d) v) w' := by
  obtain ⟨k1, k2, k3⟩ := h
  rw [h2] at k3
  simp only [Bool.false_eq_true, if_false] at k3
  refine (k3.prog k1.1 k1.2 H).mono fun e w' ⟨he, q1, q2, q3, q4⟩ => ⟨he, ⟨q2, Nat.le_trans k1.2 q3⟩, fun b h1 h2 => (q4 b h1 h2).trans (k2 b h1 h2), ?_⟩
  simpa [lst1] using q1
theorem PXd.doc {r : Value} {fn : FuncId} {args : Array Value} (h : PXd w0 V Bo g gm Z L us L' us' Lf f W) (h5 : Lf 5 = false)
    (H : ∀ fq : Nat → Prop, MD W fq gm Z L us → (∀ b, fq b → w0.heap.size ≤ b ∧ b < W.heap.size ∧ (b < Bo ∨ V.heap.size ≤ b)) → Calls Try.prog fn args W (DskPost r Z L' us' fq gm W)) {d : Nat} {v : Value} :
    Calls Try.prog fn args W fun e w' => e = .returned r ∧ PXd w0 V Bo g gm Z L us L' us' (lst1 Lf 5) (updT f (some d) v) w' := by
  obtain ⟨k1, k2, k3⟩ := h
  rw [h5] at k3
  simp only [Bool.false_eq_true, if_false] at k3
  refine (k3.doc k1.1 k1.2 H).mono fun e w' ⟨he, q1, q2, q3, q4⟩ => ⟨he, ⟨q2, Nat.le_trans k1.2 q3⟩, fun b h1 h2 => (q4 b h1 h2).trans (k2 b h1 h2), ?_⟩
  simpa [lst1] using q1
end
end Go.Proofs.Ytfllebfegngdhaa
