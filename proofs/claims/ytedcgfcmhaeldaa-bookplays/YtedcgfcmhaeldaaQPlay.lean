/- Layer 8, the program's: handful's take, with rows that may be written. | Layer 8, the program's: Events, with rows that may be written. | Layer 8, the program's: Last. | Layer 8: the program's book and the document's, side by side. -/
import Derived.Test.YtedcgfcmhaeldaaBkP6
import Derived.Test.YtedcgfcmhaeldaaBkP8
import Derived.Test.YtedcgfcmhaeldaaBkRefN
import Derived.Test.YtedcgfcmhaeldaaBkP9
import Derived.Test.YtedcgfcmhaeldaaQDot
import Derived.Test.YtedcgfcmhaeldaaDotRow

section
namespace Go.Proofs.Ytedcgfcmhaeldaa
set_option linter.unusedVariables false
set_option linter.unusedSimpArgs false
open Go.ChangeShapes Go.WideShapes Go.ChangeAt Go.RowKit

/-- A block of dots that may be written. -/
def DU (w : World) (b : Nat) : Prop := ∃ cs, Blo w b 39 cs
theorem DU.db {w : World} {b : Nat} (h : DU w b) : DB w b := by obtain ⟨cs, e⟩ := h; exact ⟨cs, _, e⟩
theorem DU.keep {w w' : World} {b : Nat} (h : DU w b) (hk : w'.heap[b]? = w.heap[b]?) : DU w' b := by obtain ⟨cs, e⟩ := h; exact ⟨cs, e.keep hk⟩
def DRu (w : World) (S : Nat → Prop) (A : Option Addr) (M : List D.Dot) : Prop := Rds w (fun b => S b ∧ DU w b) A (dvs M)
section
variable {w w' : World} {S S' : Nat → Prop} {A : Option Addr} {M : List D.Dot} {B n c : Nat}
theorem DRu.keep (h : DRu w S A M) (hk : ∀ b, S b → DU w b → w'.heap[b]? = w.heap[b]?) : DRu w' S A M :=
  Rds.mono (Rds.keep h fun b hb _ => hk b hb.1 hb.2) fun b hb => ⟨hb.1, hb.2.keep (hk b hb.1 hb.2)⟩
theorem DRu.new (h : DRu w S A M) (hb : Below w.heap.size w w') : DRu w' S A M := h.keep fun b _ hd => hb.block b hd.db.lt
theorem DRu.mono (h : DRu w S A M) (hS : ∀ b, S b → S' b) : DRu w S' A M := Rds.mono h fun b hb => ⟨hS b hb.1, hb.2⟩
theorem drow_dru (h : DRow w B (.slice A n c) M) : DRu w (fun b => B ≤ b) A M := by
  have h1 := h.rds
  refine Rds.mono h1 fun b hb => ⟨hb.1, ?_⟩
  rcases h.2 with ⟨q, _⟩ | ⟨k, cap, cur, q, _, hh, _⟩
  · rw [q] at hb; cases hb.2
  · rw [q] at hb
    have : b = k := by simpa [Value.ownBlock] using hb.2.symm
    subst this
    exact ⟨_, hh⟩
theorem Copy.dru (h : Copy w B A c M) : DRu w (fun b => B ≤ b) A M := by
  rcases h.2 with rfl | h
  · exact Rds.nil
  · exact drow_dru h
end
/-- What stands while 'h.events = append(h.events, copied(e))' goes on, in any order. -/
def HXu (w : World) (B p gx : Nat) (most : Int) (F : Nat → Int) (A : Option Addr) (n c : Nat) (M : List D.Dot) (Ah : Option Addr) (m ch : Nat) (l : List EvV) : Say := fun L f W =>
  Below B w W ∧ w.heap.size ≤ W.heap.size ∧ (∀ x, DB w x → W.heap[x]? = w.heap[x]?) ∧ Blo W gx 43 (ecs F A n c) ∧
  (L 6 = true → L 8 = false → ∃ A' c', f 20 = ev F A' n c' ∧ Copy W w.heap.size A' c' M) ∧
  (L 7 = true → L 8 = false → ∃ b A' c', f 21 = .slice (some ⟨b, 0, none⟩) 1 1 ∧ Blo W b 43 (ecs F A' n c') ∧ Copy W w.heap.size A' c' M) ∧
  (L 8 = false → EOwn W (fun b => B ≤ b ∧ b ≠ p) B (.slice Ah m ch) l) ∧
  (L 8 = true → ∃ A2 c2 A' c', f 22 = .slice A2 (m + 1) c2 ∧ EOwn W (fun b => B ≤ b ∧ b ≠ p) B (.slice A2 (m + 1) c2) (l ++ [⟨F, M, A', c'⟩]) ∧ (L 11 = true → Blo W p 99 (hcs most A2 (m + 1) c2)) ∧ DRu W (fun b => B ≤ b) A' M) ∧
  (L 11 = false → Blo W p 99 (hcs most Ah m ch))
section
variable {w : World} {B p gx : Nat} {most : Int} {F : Nat → Int} {A : Option Addr} {n c : Nat} {M : List D.Dot} {Ah : Option Addr} {m ch : Nat} {l : List EvV} {L : Nat → Bool} {f : Nat → Value} {W W' : World}
theorem HXu.up (hB : B ≤ w.heap.size) : ∀ (L L' : Nat → Bool) (f f' : Nat → Value) (W W' : World), (∀ j ∈ [4, 5, 6, 7, 8, 11], L' j = L j) → (∀ s ∈ [20, 21, 22], f' s = f s) → Grows W W' → HXu w B p gx most F A n c M Ah m ch l L f W → HXu w B p gx most F A n c M Ah m ch l L' f' W' := by
  intro L L' f f' W W' hL hf hg ⟨k1, k2, k3, k4, k5, k6, k7, k8, k9⟩
  unfold HXu
  rw [hL 6 (by decide), hL 7 (by decide), hL 8 (by decide), hL 11 (by decide), hf 20 (by decide), hf 21 (by decide), hf 22 (by decide)]
  refine ⟨k1.trans (hg.mono (Nat.le_trans hB k2)), Nat.le_trans k2 hg.size, fun x hx => (hg.block x (Nat.lt_of_lt_of_le hx.lt k2)).trans (k3 x hx), k4.new hg, fun e e' => ?_, fun e e' => ?_, fun e => (k7 e).new hg, fun e => ?_, fun e => (k9 e).new hg⟩
  · obtain ⟨A', c', e1, e2⟩ := k5 e e'
    exact ⟨A', c', e1, e2.new hg⟩
  · obtain ⟨b, A', c', e1, e2, e3⟩ := k6 e e'
    exact ⟨b, A', c', e1, e2.new hg, e3.new hg⟩
  · obtain ⟨A2, c2, A', c', e1, e2, e3, e4⟩ := k8 e
    exact ⟨A2, c2, A', c', e1, e2.new hg, fun e => (e3 e).new hg, e4.new hg⟩
theorem HXu.pass {i d : Nat} {v : Value} (hi : i ≠ 6 ∧ i ≠ 7 ∧ i ≠ 8 ∧ i ≠ 11) (hd : d ≠ 20 ∧ d ≠ 21 ∧ d ≠ 22) (h : HXu w B p gx most F A n c M Ah m ch l L f W) : HXu w B p gx most F A n c M Ah m ch l (lst1 L i) (updT f (some d) v) W := by
  unfold HXu at *
  have e : ∀ j, j ≠ i → lst1 L i j = L j := fun j hj => by unfold lst1; rw [if_neg hj]
  have ef : ∀ s, d ≠ s → updT f (some d) v s = f s := fun s hs => by unfold updT; rw [if_neg (fun e => hs (by injection e))]
  rw [e 6 (Ne.symm hi.1), e 7 (Ne.symm hi.2.1), e 8 (Ne.symm hi.2.2.1), e 11 (Ne.symm hi.2.2.2), ef 20 hd.1, ef 21 hd.2.1, ef 22 hd.2.2]
  exact h
theorem HXu.cal {A' : Option Addr} {c' : Nat} (hB : B ≤ w.heap.size) (h : HXu w B p gx most F A n c M Ah m ch l L f W) (h7 : L 7 = false) (h8 : L 8 = false) (h11 : L 11 = false) (hc : Copy W' W.heap.size A' c' M) (hg : Below W.heap.size W W') :
    HXu w B p gx most F A n c M Ah m ch l (lst1 L 6) (updT f (some 20) (ev F A' n c')) W' := by
  obtain ⟨k1, k2, k3, k4, k5, k6, k7, k8, k9⟩ := h
  unfold HXu
  simp only [lst1, updT, h7, h8, h11, if_true, show ¬ (7 : Nat) = 6 by decide, show ¬ (8 : Nat) = 6 by decide, show ¬ (11 : Nat) = 6 by decide, if_false]
  refine ⟨k1.trans (hg.mono (Nat.le_trans hB k2)), Nat.le_trans k2 hg.size, fun x hx => (hg.block x (Nat.lt_of_lt_of_le hx.lt k2)).trans (k3 x hx), k4.new hg, fun _ _ => ⟨A', c', rfl, hc.mono k2⟩, fun e => (by cases e), fun _ => (k7 h8).new hg, fun e => (by cases e), fun _ => (k9 h11).new hg⟩
theorem HXu.lit {A' : Option Addr} {c' : Nat} (hB : B ≤ w.heap.size) (h : HXu w B p gx most F A n c M Ah m ch l L f W) (h8 : L 8 = false) (h11 : L 11 = false) (hc : Copy W w.heap.size A' c' M) :
    HXu w B p gx most F A n c M Ah m ch l (lst1 L 7) (updT f (some 21) (.slice (some ⟨W.heap.size, 0, none⟩) 1 1)) (W.alloc (.cells (ecs F A' n c') 43)) := by
  have hg : Grows W (W.alloc (.cells (ecs F A' n c') 43)) := Grows.alloc _ _
  obtain ⟨k1, k2, k3, k4, k5, k6, k7, k8, k9⟩ := h
  unfold HXu
  simp only [lst1, updT, h8, h11, if_true, show ¬ (6 : Nat) = 7 by decide, show ¬ (8 : Nat) = 7 by decide, show ¬ (11 : Nat) = 7 by decide, if_false]
  refine ⟨k1.trans (Below.mono hg (Nat.le_trans hB k2)), Nat.le_trans k2 (Below.size hg), fun x hx => (Below.block hg x (Nat.lt_of_lt_of_le hx.lt k2)).trans (k3 x hx), k4.new hg, fun e e' => ?_, fun _ _ => ⟨_, A', c', rfl, Blo.made _ _ _, hc.new hg⟩, fun _ => (k7 h8).new hg, fun e => (by cases e), fun _ => (k9 h11).new hg⟩
  obtain ⟨A1, c1, e1, e2⟩ := k5 e h8
  exact ⟨A1, c1, by simpa using e1, e2.new hg⟩
theorem HXu.app {A' A2 : Option Addr} {c' c2 b : Nat} (hB : B ≤ w.heap.size) (hgx : B ≤ gx) (h : HXu w B p gx most F A n c M Ah m ch l L f W) (h8 : L 8 = false) (h11 : L 11 = false) (hc : Copy W w.heap.size A' c' M) (hX2 : (Value.slice Ah m ch).ownBlock ≠ some gx)
    (hR : ERow W' B (.slice A2 (m + 1) c2) (l ++ [⟨F, M, A', c'⟩])) (hg : W.grownBy W' (Value.slice Ah m ch).ownBlock) (hv : (Value.slice A2 (m + 1) c2).ownBlock = (Value.slice Ah m ch).ownBlock ∨ (Value.slice A2 (m + 1) c2).ownBlock = some W.heap.size) :
    HXu w B p gx most F A n c M Ah m ch l (lst1 L 8) (updT f (some 22) (.slice A2 (m + 1) c2)) W' := by
  obtain ⟨k1, k2, k3, k4, k5, k6, k7, k8, k9⟩ := h
  have hO := k7 h8
  unfold HXu
  simp only [lst1, updT, h8, h11, if_true, show ¬ (6 : Nat) = 8 by decide, show ¬ (7 : Nat) = 8 by decide, show ¬ (11 : Nat) = 8 by decide, if_false]
  have hdots : ∀ x, DB W x → some x ≠ (Value.slice Ah m ch).ownBlock := fun x hx e => by
    rcases hO.row.2 with ⟨q, _⟩ | ⟨k, cap, cur, q, _, hh, _⟩
    · rw [q] at e; cases e
    · rw [q] at e
      have : x = k := by simpa [Value.ownBlock] using e
      subst this
      exact hx.blo hh (by decide) rfl
  have hrow : Rds W (fun b => (B ≤ b ∧ b ≠ p) ∧ some b ≠ (Value.slice Ah m ch).ownBlock) A' (dvs M) := Rds.mono hc.drd fun x hx => ⟨⟨Nat.le_trans hB hx.1, hx.2.blo (k9 h11) (by decide)⟩, hdots x hx.2⟩
  refine ⟨⟨hg.os.trans k1.os, hg.tape.trans k1.tape, hg.output.trans k1.output, Nat.le_trans k1.size hg.size, fun i hi => ?_⟩, Nat.le_trans k2 hg.size, fun x hx => ?_, k4.grown hg (fun e => hX2 e.symm), fun _ e => (by cases e), fun _ e => (by cases e), fun e => (by cases e), fun _ => ⟨A2, c2, A', c', rfl, hO.snoc hR hg hv hrow, fun e => (by cases e), (hc.dru.keep fun x _ hx => hg.block x hx.db.lt (hdots x hx.db)).mono fun x hx => Nat.le_trans hB hx⟩, fun _ => ?_⟩
  · rw [hg.block i (by omega) (fun e => ?_), k1.block i hi]
    have := (hO.row.lt i e.symm).1
    omega
  · have hxW : DB W x := hx.keep (k3 x hx)
    exact (hg.block x hxW.lt (hdots x hxW)).trans (k3 x hx)
  · exact (k9 h11).grown hg (fun e => hO.row.blo (k9 h11) (by decide) e.symm)
theorem HXu.sto (hB : B ≤ w.heap.size) (hp : B ≤ p) (h : HXu w B p gx most F A n c M Ah m ch l L f W) (h8 : L 8 = true) (h11 : L 11 = false) :
    ∃ A2 c2, f 22 = .slice A2 (m + 1) c2 ∧ W.cell? ⟨p, 1, none⟩ = some (.slice Ah m ch) ∧ W.frozen? ⟨p, 1, none⟩ = false ∧ HXu w B p gx most F A n c M Ah m ch l (lst1 L 11) (updT f none undef) (W.setCell ⟨p, 1, none⟩ (.slice A2 (m + 1) c2)) := by
  obtain ⟨k1, k2, k3, k4, k5, k6, k7, k8, k9⟩ := h
  obtain ⟨A2, c2, A', c', e1, e2, _, e4⟩ := k8 h8
  have hBp := k9 h11
  have hg : W.grownBy (W.setCell ⟨p, 1, none⟩ (.slice A2 (m + 1) c2)) (some p) := gb_set (World.grownBy.refl _ _) (.inl rfl) _
  refine ⟨A2, c2, e1, by simpa using hBp.cell 1, hBp.frozen 1, ?_⟩
  unfold HXu
  simp only [lst1, updT, h8, if_true, show ¬ (6 : Nat) = 11 by decide, show ¬ (7 : Nat) = 11 by decide, show ¬ (8 : Nat) = 11 by decide, if_false]
  refine ⟨⟨hg.os.trans k1.os, hg.tape.trans k1.tape, hg.output.trans k1.output, Nat.le_trans k1.size hg.size, fun i hi => ?_⟩, Nat.le_trans k2 hg.size, fun x hx => ?_, k4.grown hg (fun e => ?_), fun _ e => (by cases e), fun _ e => (by cases e), fun e => (by cases e), fun _ => ⟨A2, c2, A', c', by simpa using e1, ?_, fun _ => by simpa using hBp.put 1 (.slice A2 (m + 1) c2), e4.keep fun x _ hx => hg.block x hx.db.lt (fun e => hx.db.blo hBp (by decide) (by injection e))⟩, fun e => (by cases e)⟩
  · rw [hg.block i (by omega) (fun e => by injection e with e; omega), k1.block i hi]
  · have hxW : DB W x := hx.keep (k3 x hx)
    exact (hg.block x hxW.lt (fun e => hxW.blo hBp (by decide) (by injection e))).trans (k3 x hx)
  · injection e with e
    exact Blo.typeNe k4 hBp (by decide) e
  · refine ⟨e2.row.keep fun g hg' hl => hg.block g hl (fun e => e2.row.blo hBp (by decide) (hg'.trans e)), fun x hx => (e2.dots x hx).keep fun b hb hl => hg.block b hl (fun e => hb.1.2 (by injection e))⟩
theorem HXu.fin (h : HXu w B p gx most F A n c M Ah m ch l L f W) (h8 : L 8 = true) (h11 : L 11 = true) : Below B w W ∧ w.heap.size ≤ W.heap.size ∧ (∀ x, DB w x → W.heap[x]? = w.heap[x]?) ∧ ∃ A2 c2 A' c', EOwn W (fun b => B ≤ b ∧ b ≠ p) B (.slice A2 (m + 1) c2) (l ++ [⟨F, M, A', c'⟩]) ∧ Blo W p 99 (hcs most A2 (m + 1) c2) ∧ DRu W (fun b => B ≤ b) A' M := by
  obtain ⟨k1, k2, k3, k4, k5, k6, k7, k8, k9⟩ := h
  obtain ⟨A2, c2, A', c', e1, e2, e3, e4⟩ := k8 h8
  exact ⟨k1, k2, k3, A2, c2, A', c', e2, e3 h11, e4⟩
end
/-- A handful that has these. -/
def HndU (W : World) (B p : Nat) (most : Int) (l : List EvV) : Prop := B ≤ p ∧ ∃ A m c, Hid (m = l.length) ∧ Blo W p 99 (hcs most A m c) ∧ EOwn W (fun b => B ≤ b ∧ b ≠ p) B (.slice A m c) l ∧ ∀ e ∈ l, DRu W (fun b => B ≤ b) e.A e.M
theorem HndU.new {W W' : World} {B p : Nat} {most : Int} {l : List EvV} (h : HndU W B p most l) (hb : Below W.heap.size W W') : HndU W' B p most l := by
  obtain ⟨h0, A, m, c, h1, h2, h3, h4⟩ := h
  exact ⟨h0, A, m, c, h1, h2.new hb, h3.new hb, fun e he => (h4 e he).new hb⟩
/-- What take leaves. -/
def TakeU (B p : Nat) (most : Int) (l : List EvV) (F : Nat → Int) (M : List D.Dot) (w : World) (e : Ending) (w' : World) : Prop :=
  e = .returned (.tuple #[]) ∧ (∃ l', HndU w' B p most l' ∧ plain l' = if (l.length : Int) < most then plain l ++ [(F, M)] else plain l) ∧ Below B w w' ∧ ∀ x, DB w x → w'.heap[x]? = w.heap[x]?
set_option maxRecDepth 100000 in
set_option maxHeartbeats 8000000 in
theorem htake_u {B p : Nat} {most : Int} {l : List EvV} (S : Nat → Prop) (F : Nat → Int) (A : Option Addr) (n c : Nat) (M : List D.Dot) (w : World) (hH : HndU w B p most l) (hn : M.length = n) (hr : Rds w S A (dvs M)) (hS : ∀ b, S b → b < B) (hl : n ≤ 1000000) (hll : l.length ≤ 900000) :
    Calls Try.prog 52 #[.pointer (some ⟨p, 0, none⟩), ev F A n c] w (TakeU B p most l F M w) := by
  obtain ⟨hp, Ah, m, ch, Hm, hB, hO, hU⟩ := hH
  have HU := Lib.hid hU
  clear hU
  obtain ⟨w1, hw1⟩ : ∃ W, w.alloc (.cells (ecs F A n c) 43) = W := ⟨_, rfl⟩
  obtain ⟨gx, hgx⟩ : ∃ q, q = w.heap.size := ⟨_, rfl⟩
  have hb1 : Below w.heap.size w w1 := by rw [← hw1]; exact b_alloc _ _
  have hs1 := hb1.size
  have hX1 : Blo w1 gx 43 (ecs F A n c) := by rw [← hw1, hgx]; exact Blo.made _ _ _
  have hB1 := hB.new hb1
  have hO1 := hO.new hb1
  have hr1 := hr.new hb1
  have hlt := hB.lt
  have hml : m ≤ 900000 := by rw [Hm.out]; exact hll
  have hBs : B ≤ w1.heap.size := by omega
  have hgxB : B ≤ gx := by omega
  have HW := Lib.hid hw1
  have HGX := Lib.hid hgx
  have HN := Lib.hid hn
  have h0 : w1.cell? ⟨p, 0, none⟩ = some (.int .i64 most) := by simpa using hB1.cell 0
  have h1 : w1.cell? ⟨p, 1, none⟩ = some (.slice Ah m ch) := by simpa using hB1.cell 1
  rw [← hw1] at h0 h1
  have hd1 : ∀ x, DB w x → w1.heap[x]? = w.heap[x]? := fun x hx => hb1.block x hx.lt
  have HSn : Hid ((Value.slice Ah m ch).ownBlock ≠ some gx) := Lib.hid fun e => by
    have := (hO.row.lt gx e).2
    omega
  clear hw1 hgx hn hr hB hO
  go_enter Try.func52, Try.ntmps52
  go_wp2_with fail
  rw [HW.out, ← HGX.out]
  rw [HW.out] at h0 h1
  go_quiet (fail)
  obtain ⟨w2, hd, hw2⟩ : ∃ W, Drew w1 W ∧ w1.drewN nq = W := ⟨_, ⟨nq, rfl⟩, rfl⟩
  rw [hw2]
  have hb2 : Below w1.heap.size w1 w2 := hd.below _
  have hs2 : w1.heap.size = w2.heap.size := by rw [hd.heap]
  have hX2 := hd.blo hX1
  have hB2 := hd.blo hB1
  have hO2 := hO1.new hb2
  have hr2 := hr1.new hb2
  have hd2 : ∀ x, DB w x → w2.heap[x]? = w.heap[x]? := fun x hx => by rw [hd.heap]; exact hd1 x hx
  have hb02 : Below B w w2 := (below_new hb1 hb2).mono (by omega)
  have hBs2 : B ≤ w2.heap.size := by omega
  clear hw2 hd h0 h1 hX1 hB1 hO1 hr1 hd1 hb1 hb2 nq
  by_cases hlt2 : (m : Int) < most
  · have hlt2' : decide ((m : Int) < most) = true := by simpa using hlt2
    have HLT : Hid ((l.length : Int) < most) := Lib.hid (by rw [← Hm.out]; exact hlt2)
    have HX0 : Hid (∀ f, HXu w2 B p gx most F A n c M Ah m ch l (fun _ => false) f w2) := Lib.hid (fun f => ⟨Below.refl _ _, Nat.le_refl _, fun _ _ => rfl, hX2, fun e => (by cases e), fun e => (by cases e), fun _ => hO2, fun e => (by cases e), fun _ => hB2⟩)
    have HC : Hid (∀ W, Below B w2 W → w2.heap.size ≤ W.heap.size → Calls Try.prog 67 #[ev F A n c] W (EvPost F M W)) := Lib.hid (fun W hW _ => copied_any S F A n c M W HN.out (hr2.below hW (fun b hb _ => hS b hb)) hl)
    clear hX2 hO2 hB2 hr2
    go_wp2_with fail
    refine wp_famY (size := 25) (D := [14, 15, 16, 17, 18, 19, 20, 21, 22, 23, 24]) [4, 5, 6, 7, 8, 11] [20, 21, 22] [(14, isV (.pointer (some ⟨p, 0, none⟩))), (15, isV (.pointer (some ⟨p, 0, none⟩))), (16, isV (.pointer (some ⟨p, 0, none⟩))), (17, isV (.pointer (some ⟨p, 1, none⟩))), (18, isV (.slice Ah m ch)), (19, isV (ev F A n c)), (23, isV (.pointer (some ⟨p, 0, none⟩))), (24, isV (.pointer (some ⟨p, 1, none⟩)))] (HXu w2 B p gx most F A n c M Ah m ch l) (HXu.up hBs2) (by kernel_rfl) (by rfl) (by kernel_rfl) (HX0.out _) ?_ ?_
    · simp only [famAllY]
      repeat' apply And.intro
      · rw [if_neg (by decide)]
        intro f W hl
        simp [Oper.looksAt, Op.operands, Call.operands, famAt, famOf, isV] at hl
        simp [famWants, execOp, rho, go_sem, hl, famUpon, famOf, isV, Grows.refl]
      · rw [if_neg (by decide)]
        intro f W hl
        simp [Oper.looksAt, Op.operands, Call.operands, famAt, famOf, isV] at hl
        simp [famWants, execOp, rho, go_sem, hl, famUpon, famOf, isV, Grows.refl]
      · rw [if_neg (by decide)]
        intro f W hl
        simp [Oper.looksAt, Op.operands, Call.operands, famAt, famOf, isV] at hl
        simp [famWants, execOp, rho, go_sem, hl, famUpon, famOf, isV, Grows.refl]
      · rw [if_neg (by decide)]
        intro f W hl
        simp [Oper.looksAt, Op.operands, Call.operands, famAt, famOf, isV] at hl
        simp [famWants, execOp, rho, go_sem, hl, famUpon, famOf, isV, Grows.refl]
      · rw [if_pos (by decide)]
        intro L f W hi hcl hwt hX hl
        simp [Oper.looksAt, Op.operands, Call.operands, famAt, famOf, isV] at hl
        have h8 : L 8 = false := by
          cases e : L 8 with
          | false => rfl
          | true => rw [hcl 8 4 (by kernel_rfl) e] at hi; cases hi
        have h11 : L 11 = false := by
          cases e : L 11 with
          | false => rfl
          | true => rw [hcl 11 8 (by kernel_rfl) e] at h8; cases h8
        have k1 : W.cell? ⟨p, 1, none⟩ = some (.slice Ah m ch) := by simpa using (hX.2.2.2.2.2.2.2.2 h11).cell 1
        simp [famWants, execOp, rho, go_sem, hl, k1, famUpon, famOf, isV]
        exact hX.pass (by decide) (by decide)
      · rw [if_pos (by decide)]
        intro L f W hi hcl hwt hX hl
        simp [Oper.looksAt, Op.operands, Call.operands, famAt, famOf, isV] at hl
        obtain ⟨c0, c1, c2, c3, c4, c5, c6, c7, c8, c9, c10, c11, c12, c13⟩ := set14 hX.2.2.2.1
        simp [famWants, execOp, rho, go_sem, hl, c0, c1, c2, c3, c4, c5, c6, c7, c8, c9, c10, c11, c12, c13, famUpon, famOf, isV]
        exact hX.pass (by decide) (by decide)
      · rw [if_pos (by decide)]
        intro L f W hi hcl hwt hX hl
        simp [Oper.looksAt, Op.operands, Call.operands, famAt, famOf, isV] at hl
        have h7 : L 7 = false := by
          cases e : L 7 with
          | false => rfl
          | true => rw [hcl 7 6 (by kernel_rfl) e] at hi; cases hi
        have h8 : L 8 = false := by
          cases e : L 8 with
          | false => rfl
          | true => rw [hcl 8 7 (by kernel_rfl) e] at h7; cases h7
        have h11 : L 11 = false := by
          cases e : L 11 with
          | false => rfl
          | true => rw [hcl 11 8 (by kernel_rfl) e] at h8; cases h8
        have hc := HC.out W hX.1 hX.2.1
        simp [famWants, execOp, rho, go_sem, hl, famUpon, famOf, isV]
        refine hc.mono ?_
        rintro e w'' ⟨A', c', rfl, hcp, hg'⟩
        have hfin := hX.cal hBs2 h7 h8 h11 hcp hg'
        rw [HN.out]
        exact ⟨_, rfl, hfin⟩
      · rw [if_pos (by decide)]
        intro L f W hi hcl hwt hX hl
        simp [Oper.looksAt, Op.operands, Call.operands, famAt, famOf, isV] at hl
        have h8 : L 8 = false := by
          cases e : L 8 with
          | false => rfl
          | true => rw [hcl 8 7 (by kernel_rfl) e] at hi; cases hi
        have h11 : L 11 = false := by
          cases e : L 11 with
          | false => rfl
          | true => rw [hcl 11 8 (by kernel_rfl) e] at h8; cases h8
        have h6 : L 6 = true := hwt 6 (by kernel_rfl)
        obtain ⟨A', c', e20, hcp⟩ := hX.2.2.2.2.1 h6 h8
        simp [famWants, execOp, rho, go_sem, hl, e20, famUpon, famOf, isV]
        exact hX.lit hBs2 h8 h11 hcp
      · rw [if_pos (by decide)]
        intro L f W hi hcl hwt hX hl
        simp [Oper.looksAt, Op.operands, Call.operands, famAt, famOf, isV] at hl
        have h11 : L 11 = false := by
          cases e : L 11 with
          | false => rfl
          | true => rw [hcl 11 8 (by kernel_rfl) e] at hi; cases hi
        have h7 : L 7 = true := hwt 7 (by kernel_rfl)
        obtain ⟨b, A', c', e21, hBb, hcp⟩ := hX.2.2.2.2.2.1 h7 hi
        have hrw := hX.2.2.2.2.2.2.1 hi
        have hBb' : Blo W b 43 (EvV.cells ⟨F, M, A', c'⟩) := by
          unfold EvV.cells
          simp only
          rw [HN.out]
          exact hBb
        obtain ⟨v', W', hrun, hR', hg', hv'⟩ := run_eapp W B 22 (.slice Ah m ch) l hrw.row (fun _ => True) ⟨b, 0, none⟩ 1 1 [⟨F, M, A', c'⟩] rfl (blo_ers _ hBb') (by rw [← Hm.out]; omega) (Nat.le_trans hBs2 hX.2.1)
        obtain ⟨A2, c2, rfl, _⟩ := hR'.form
        have hlen : (l ++ [(⟨F, M, A', c'⟩ : EvV)]).length = m + 1 := by rw [List.length_append, Hm.out]; rfl
        rw [hlen] at hrun hR' hv'
        have hne : (Value.slice Ah m ch).ownBlock ≠ some gx := fun e => HSn.out e
        refine ⟨fun _ => ?_, fun hh => ?_⟩
        · simp only [execOp, resolve, invoke, builtin, rho, Sem.run_bind, Sem.run_pure, Result.andThen_ok, List.map_toArray, List.map_cons, List.map_nil, hl, e21, hrun, famUpon]
          exact ⟨fun d hd => by cases hd; exact trivial, hX.app (b := b) hBs2 hgxB hi h11 hcp hne hR' hg' hv'⟩
        · simp [famWants] at hh
      · rw [if_neg (by decide)]
        intro f W hl
        simp [Oper.looksAt, Op.operands, Call.operands, famAt, famOf, isV] at hl
        simp [famWants, execOp, rho, go_sem, hl, famUpon, famOf, isV, Grows.refl]
      · rw [if_neg (by decide)]
        intro f W hl
        simp [Oper.looksAt, Op.operands, Call.operands, famAt, famOf, isV] at hl
        simp [famWants, execOp, rho, go_sem, hl, famUpon, famOf, isV, Grows.refl]
      · rw [if_pos (by decide)]
        intro L f W hi hcl hwt hX hl
        simp [Oper.looksAt, Op.operands, Call.operands, famAt, famOf, isV] at hl
        have h8 : L 8 = true := hwt 8 (by kernel_rfl)
        obtain ⟨A2, c2, e22, k1, f1, hX'⟩ := hX.sto hBs2 hp h8 hi
        simp [famWants, execOp, rho, go_sem, hl, e22, k1, f1, famUpon, famOf, isV]
        exact hX'
      · trivial
    · intro L' u W hL hX hu
      obtain ⟨q1, q2, q3, A2, c2, A', c', q4, q5, q6⟩ := hX.fin (hL 8 (by decide)) (hL 11 (by decide))
      simp only [fill, Act.put, List.setIfInBounds_toArray, List.set_cons_zero, List.set_cons_succ]
      refine wpList_nil ?_
      clear hu hL hX HX0 HC
      go_wp2
      go_end0
      refine ⟨rfl, ⟨_, ⟨hp, A2, m + 1, c2, Lib.hid (by rw [List.length_append, Hm.out]; rfl), q5, q4, ?_⟩, ?_⟩, hb02.trans q1, fun x hx => (q3 x (hx.keep (hd2 x hx))).trans (hd2 x hx)⟩
      · intro e he
        rcases List.mem_append.1 he with he | he
        · exact (HU.out e he).keep fun x _ hx => (q3 x (hx.db.keep (hd2 x hx.db))).trans (hd2 x hx.db)
        · simp only [List.mem_singleton] at he
          subst he
          exact q6
      · rw [if_pos HLT.out, plain_app]
        rfl
  · have hlt2' : decide ((m : Int) < most) = false := by simpa using hlt2
    have HLT : Hid (¬ (l.length : Int) < most) := Lib.hid (by rw [← Hm.out]; exact hlt2)
    go_wp2
    go_end0
    exact ⟨rfl, ⟨l, ⟨hp, Ah, m, ch, Hm, hB2, hO2, fun e he => (HU.out e he).keep fun x _ hx => hd2 x hx.db⟩, by rw [if_neg (by have := HLT.out; omega)]⟩, hb02, hd2⟩
end Go.Proofs.Ytedcgfcmhaeldaa
end

section
namespace Go.Proofs.Ytedcgfcmhaeldaa
set_option linter.unusedVariables false
set_option linter.unusedSimpArgs false
open Go.ChangeShapes Go.WideShapes Go.ChangeAt Go.RowKit

/-- A handful is handed events. -/
def HandU (B p : Nat) (most : Int) (l : List E.Ev) (W : World) : Prop := ∃ k, HndU W B p most k ∧ plain k = l.take most.toNat
theorem hand_u (B p : Nat) (most : Int) : Hand 52 B p (HandU B p most) where
  new := fun ⟨k, h1, h2⟩ hb => ⟨k, h1.new hb, h2⟩
  call := fun l e W ⟨k, h1, h2⟩ hr hm hl => by
    have hk : k.length ≤ 800 := by rw [← plain_len, h2, List.length_take]; omega
    refine (htake_u (fun b => b < B) e.F e.A e.M.length e.c e.M W h1 rfl hr (fun b hb => hb) (by omega) (by omega)).mono ?_
    rintro r W' ⟨rfl, ⟨k', h3, h4⟩, h5, h6⟩
    exact ⟨rfl, ⟨k', h3, by rw [h4]; exact take_len h2 _⟩, h5, h6⟩
/-- What Newer answers. -/
def NewU (X : List E.Ev) (w : World) (e : Ending) (w' : World) : Prop := ∃ A N c l, e = .returned (.slice A N c) ∧ Hid (N = l.length) ∧ plain l = X ∧ EOwn w' (fun b => w.heap.size ≤ b) w.heap.size (.slice A N c) l ∧ Below w.heap.size w w' ∧ ∀ e ∈ l, DRu w' (fun b => w.heap.size ≤ b) e.A e.M

set_option maxRecDepth 100000 in
set_option maxHeartbeats 8000000 in
theorem bnewer_u {S S2 : Nat → Prop} {g : Nat} {m : Option Nat} {b : B.Bk} (U : Nat → Int) (A : Option Addr) (n c : Nat) (M : List D.Dot) (most : Int) (w : World) (hP : PB w S g m b) (hn : M.length = n) (hr : Rds w S2 A (dvs M)) (hl : n ≤ 1000000) :
    Calls Try.prog 26 #[.pointer (some ⟨g, 0, none⟩), sv U A n c, .int .i64 most] w (NewU (B.newer b (D.has U M) most) w) := by
  obtain ⟨hok, T, hT, hPi⟩ := hP
  have HPL := Lib.hid (pick_less hok hT U M)
  obtain ⟨w1, hw1⟩ : ∃ W, (w.alloc (.cells (scs U A n c) 53)).alloc (.cells (hcs most none 0 0) 99) = W := ⟨_, rfl⟩
  obtain ⟨gx, hgx⟩ : ∃ q, q = w.heap.size := ⟨_, rfl⟩
  obtain ⟨p, hp⟩ : ∃ q, q = w.heap.size + 1 := ⟨_, rfl⟩
  have hb1 : Below w.heap.size w w1 := by rw [← hw1]; exact b_alloc2 _ _ _
  have hs1 := hb1.size
  have hX1 : Blo w1 gx 53 (scs U A n c) := by rw [← hw1, hgx]; exact (Blo.made _ _ _).alloc _
  have hp1 : Blo w1 p 99 (hcs most none 0 0) := by
    rw [← hw1, hp]
    have := Blo.made (w.alloc (.cells (scs U A n c) 53)) 99 (hcs most none 0 0)
    simpa using this
  have hlt := hPi.lt
  have hltm : ∀ x, m = some x → x < w.heap.size := fun x hx => hPi.ltm hx
  have hPo : PBi w (fun b => S b ∧ b < w.heap.size) g m T b.hold b.time := by
    obtain ⟨A1, c1, h1, h2⟩ := hPi.blk
    obtain ⟨f, h3, h4, h5⟩ := hPi.map
    exact ⟨⟨A1, c1, h1, h2.old⟩, ⟨f, h3, h4, fun d e he => (h5 d e he).old⟩, hPi.srt, hPi.rt⟩
  have hP1 := hPo.new hb1
  obtain ⟨A1, c1, hB, hR⟩ := hP1.blk
  obtain ⟨n1, hn1⟩ : ∃ k, (D.cM T).length = k := ⟨_, rfl⟩
  rw [hn1] at hB
  obtain ⟨N, hN⟩ : ∃ k, k = (D.lst (D.less (D.cU T) (D.cM T) U M)).length := ⟨_, rfl⟩
  have hN768 : N ≤ 768 := by rw [hN]; exact D.lst_len _
  have HC : Hid (∀ V, Grows w1 V → Calls Try.prog 34 #[sv (D.cU T) A1 n1 c1, sv U A n c] V (DotsPost (D.lst (D.less (D.cU T) (D.cM T) U M)) V)) := Lib.hid (fun V hV => dless_any _ S2 (D.cU T) A1 n1 c1 (D.cM T) U A n c M V hn1 (hR.new hV).rds (by have := D.cM_len T; omega) hn ((hr.new hb1).new hV) hl)
  obtain ⟨LL, hLL⟩ : ∃ L, L = D.lst (D.less (D.cU T) (D.cM T) U M) := ⟨_, rfl⟩
  rw [← hLL] at HC hN HPL
  obtain ⟨UT, hUT⟩ : ∃ U, U = D.cU T := ⟨_, rfl⟩
  rw [← hUT] at HC hB
  have HB : Hid (∀ V, Grows w1 V → _) := Lib.hid (fun V hV => set11 (hB.new hV))
  have HZ : Hid (∀ V, Grows w1 V → _) := Lib.hid (fun V hV => set9 (hX1.new hV))
  have hJ1 : HandU w.heap.size p most [] w1 := ⟨[], ⟨by omega, none, 0, 0, Lib.hid rfl, hp1, EOwn.nil _ _ _, fun e he => (by cases he)⟩, by simp [plain]⟩
  have hHand := hand_u w.heap.size p most
  have HW := Lib.hid hw1
  have HGX := Lib.hid hgx
  have HP := Lib.hid hp
  have HNN := Lib.hid hN
  clear hw1 hgx hp hN hLL hUT hn1 hn hr hR hB hX1 hPi hPo hT hok
  go_enter Try.func26, Try.ntmps26
  go_wp2_with fail
  rw [HW.out, ← HP.out, ← HGX.out]
  refine wp_fam (n := 9) (size := 27) (D := [13, 14, 15, 16, 17, 18, 19, 20, 21]) [(13, isV (.pointer (some ⟨g, 0, none⟩))), (14, isV (.pointer (some ⟨g, 0, none⟩))), (15, isV (.pointer (some ⟨g, 0, none⟩))), (16, isV (.pointer (some ⟨g, 0, none⟩))), (17, isV (sv UT A1 n1 c1)), (18, isV (sv U A n c)), (19, drowV w.heap.size N LL), (20, isV (.pointer (some ⟨p, 0, none⟩))), (21, isV (.func (.func 52) #[.pointer (some ⟨p, 0, none⟩)] #[]))] (by kernel_rfl) (by rfl) (by kernel_rfl) ?_ ?_
  · simp only [List.take_succ_cons, List.take_zero, famAll]
    repeat' apply And.intro
    · intro f V hg hl
      simp [Oper.looksAt, Op.operands, Call.operands, famAt, famOf, isV] at hl
      simp [famWants, boolIs_bool, boolIs_undef, execOp, rho, go_sem, hl, famUpon, famOf, isV, Grows.refl]
    · intro f V hg hl
      simp [Oper.looksAt, Op.operands, Call.operands, famAt, famOf, isV] at hl
      simp [famWants, boolIs_bool, boolIs_undef, execOp, rho, go_sem, hl, famUpon, famOf, isV, Grows.refl]
    · intro f V hg hl
      simp [Oper.looksAt, Op.operands, Call.operands, famAt, famOf, isV] at hl
      simp [famWants, boolIs_bool, boolIs_undef, execOp, rho, go_sem, hl, famUpon, famOf, isV, Grows.refl]
    · intro f V hg hl
      simp [Oper.looksAt, Op.operands, Call.operands, famAt, famOf, isV] at hl
      simp [famWants, boolIs_bool, boolIs_undef, execOp, rho, go_sem, hl, famUpon, famOf, isV, Grows.refl]
    · intro f V hg hl
      obtain ⟨b0, b1, b2, b3, b4, b5, b6, b7, b8, b9, b10⟩ := HB.out V hg
      simp [Oper.looksAt, Op.operands, Call.operands, famAt, famOf, isV] at hl
      simp [famWants, boolIs_bool, boolIs_undef, execOp, rho, go_sem, hl, b0, b1, b2, b3, b4, b5, b6, b7, b8, b9, b10, famUpon, famOf, isV, Grows.refl]
    · intro f V hg hl
      obtain ⟨z0, z1, z2, z3, z4, z5, z6, z7, z8⟩ := HZ.out V hg
      simp [Oper.looksAt, Op.operands, Call.operands, famAt, famOf, isV] at hl
      simp [famWants, boolIs_bool, boolIs_undef, execOp, rho, go_sem, hl, z0, z1, z2, z3, z4, z5, z6, z7, z8, famUpon, famOf, isV, Grows.refl]
    · intro f V hg hl
      simp [Oper.looksAt, Op.operands, Call.operands, famAt, famOf, isV] at hl
      simp [famWants, boolIs_bool, boolIs_undef, execOp, rho, go_sem, hl, famUpon, famOf, isV, Grows.refl]
      refine (HC.out V hg).mono ?_
      rintro e w'' ⟨A', c', rfl, hR', hb'⟩
      rw [← HNN.out] at hR' ⊢
      exact ⟨_, rfl, hb', A', c', rfl, hR'.mono (Nat.le_trans hs1 (Below.size hg))⟩
    · intro f V hg hl
      simp [Oper.looksAt, Op.operands, Call.operands, famAt, famOf, isV] at hl
      simp [famWants, boolIs_bool, boolIs_undef, execOp, rho, go_sem, hl, famUpon, famOf, isV, Grows.refl]
    · intro f V hg hl
      simp [Oper.looksAt, Op.operands, Call.operands, famAt, famOf, isV] at hl
      simp [famWants, boolIs_bool, boolIs_undef, execOp, rho, go_sem, hl, famUpon, famOf, isV, Grows.refl]
    · trivial
  · intro u V hg hu
    obtain ⟨A9, c9, e19, hD9⟩ : ∃ A9 c9, u 19 = .slice A9 N c9 ∧ DRow V w.heap.size (.slice A9 N c9) LL := hu 19 (by decide)
    have e13 : u 13 = .pointer (some ⟨g, 0, none⟩) := hu 13 (by decide)
    have e21 : u 21 = .func (.func 52) #[.pointer (some ⟨p, 0, none⟩)] #[] := hu 21 (by decide)
    simp only [List.drop_succ_cons, List.drop_zero, fill, Act.put, List.setIfInBounds_toArray, List.set_cons_zero, List.set_cons_succ, e13, e19, e21]
    have hPV := hP1.new hg
    have hJV := hHand.new hJ1 hg
    have hbV := below_new hb1 hg
    have hov := pover_any (.inl rfl) hHand A9 N c9 LL V hPV hlt hltm hbV.size HNN.out.symm hD9.drd hN768 hJV
    clear hu e13 e19 e21 HB HZ HC hD9
    go_wp2_with fail
    refine hov.mono ?_
    rintro e w3 ⟨rfl, ⟨k, ⟨_, A3, N3, c3, HN3, hB3, hO3, hU3⟩, hk3⟩, hb3⟩
    have y1 : w3.cell? ⟨p, 1, none⟩ = some (.slice A3 N3 c3) := by simpa using hB3.cell 1
    clear hov
    go_wp2
    go_ret
    exact ⟨A3, N3, c3, k, rfl, HN3, by rw [hk3, HPL.out]; rfl, hO3.mono (Nat.le_refl _) (fun b hb => hb.1), hbV.trans hb3, hU3⟩
set_option maxRecDepth 100000 in
set_option maxHeartbeats 8000000 in
theorem bevents_u {S : Nat → Prop} {g : Nat} {m : Option Nat} {b : B.Bk} (w : World) (hP : PB w S g m b) :
    Calls Try.prog 15 #[.pointer (some ⟨g, 0, none⟩)] w (NewU b.hold w) := by
  have hnew := bnewer_u (fun _ => 0) none 0 0 [] (b.hold.length : Int) w hP rfl (Rds.nil (S := fun _ => True)) (by omega)
  have e0 : B.newer b (D.has (fun _ => 0) []) (b.hold.length : Int) = b.hold := by
    unfold B.newer
    rw [news_zero]
    simp
  rw [e0] at hnew
  obtain ⟨hok, T, hT, hPi⟩ := hP
  obtain ⟨A1, c1, hB, hR⟩ := hPi.blk
  obtain ⟨f, hmp, _⟩ := hPi.map
  have b9 := (set11 hB).2.2.2.2.2.2.2.2.2.1
  have hlen : ∀ ty, (Builtin.len_ #[82] ty #[.map m]).run Try.prog w = .ok (.int .i64 (b.hold.length : Int)) w := fun ty => hmp.len Try.mapEv ty
  obtain ⟨N, hN⟩ : ∃ k, k = b.hold.length := ⟨_, rfl⟩
  rw [← hN] at hlen hnew
  clear e0 hN hT hPi hB hR hmp hok
  go_enter Try.func15, Try.ntmps15
  go_wp2_with fail
  refine hnew.mono ?_
  rintro e w2 ⟨A, N', c, l, rfl, h1, h2, h3, h4, h5⟩
  clear hnew hlen b9
  go_wp2
  go_ret
  exact ⟨A, N', c, l, rfl, h1, h2, h3, h4, h5⟩
end Go.Proofs.Ytedcgfcmhaeldaa
end

section
namespace Go.Proofs.Ytedcgfcmhaeldaa
set_option linter.unusedVariables false
set_option linter.unusedSimpArgs false
open Go.ChangeShapes Go.WideShapes Go.ChangeAt Go.RowKit

def lastIn (node : Int) (a : Int) (l : List D.Dot) : Int := l.foldl (fun a d => if d.1 = node then d.2 else a) a
theorem lastIn_snoc (node a : Int) (l : List D.Dot) (d : D.Dot) : lastIn node a (l ++ [d]) = if d.1 = node then d.2 else lastIn node a l := by unfold lastIn; rw [List.foldl_append]; rfl
theorem lastIn_spec {node : Int} : ∀ {l : List D.Dot} (a : Int), l.Pairwise (fun x y => x.1 = y.1 → x.2 < y.2) → (lastIn node a l = a ∧ ∀ d ∈ l, d.1 ≠ node) ∨ ((node, lastIn node a l) ∈ l ∧ ∀ d ∈ l, d.1 = node → d.2 ≤ lastIn node a l)
  | [], a, _ => .inl ⟨rfl, fun d hd => by cases hd⟩
  | d :: l, a, h => by
    obtain ⟨h1, h2⟩ := List.pairwise_cons.1 h
    have e : lastIn node a (d :: l) = lastIn node (if d.1 = node then d.2 else a) l := rfl
    rw [e]
    rcases lastIn_spec (node := node) (if d.1 = node then d.2 else a) h2 with ⟨k1, k2⟩ | ⟨k1, k2⟩
    · by_cases q : d.1 = node
      · right
        rw [if_pos q] at k1
        rw [if_pos q, k1]
        refine ⟨by rw [← q]; exact List.mem_cons_self, fun x hx hxn => ?_⟩
        rcases List.mem_cons.1 hx with rfl | hx
        · exact Int.le_refl _
        · exact absurd hxn (k2 x hx)
      · left
        rw [if_neg q] at k1
        rw [if_neg q]
        refine ⟨k1, fun x hx => ?_⟩
        rcases List.mem_cons.1 hx with rfl | hx
        · exact q
        · exact k2 x hx
    · right
      refine ⟨List.mem_cons_of_mem _ k1, fun x hx hxn => ?_⟩
      rcases List.mem_cons.1 hx with rfl | hx
      · have := h1 _ k1 hxn
        exact Int.le_of_lt this
      · exact k2 x hx hxn
theorem lst_pair (S : D.Dot → Bool) : (D.lst S).Pairwise (fun x y => x.1 = y.1 → x.2 < y.2) := by
  refine List.Pairwise.imp ?_ (List.Pairwise.and_mem.1 (D.pre_ord S 768))
  rintro a b ⟨_, _, hk⟩ he
  unfold D.key at hk
  omega
theorem lastIn_lst {b : B.Bk} {T : D.Dot → Bool} (hT : ∀ x, D.may x = true → T x = b.saw x) (node : Int) : lastIn node 0 (D.lst (D.has (D.cU T) (D.cM T))) = B.last b node := by
  have hm : ∀ d, d ∈ D.lst (D.has (D.cU T) (D.cM T)) ↔ D.may d = true ∧ b.saw d = true := fun d => by
    rw [D.mem_lst, D.cl_has]
    constructor
    · rintro ⟨h1, h2⟩
      rw [h1, Bool.true_and, hT d h1] at h2
      exact ⟨h1, h2⟩
    · rintro ⟨h1, h2⟩
      exact ⟨h1, by rw [h1, Bool.true_and, hT d h1]; exact h2⟩
  have hsp := lastIn_spec (node := node) 0 (lst_pair (D.has (D.cU T) (D.cM T)))
  generalize lastIn node 0 (D.lst (D.has (D.cU T) (D.cM T))) = r at hsp
  unfold B.last
  by_cases hn : 0 ≤ node ∧ node < 8
  · rw [if_pos hn]
    symm
    rcases hsp with ⟨rfl, k2⟩ | ⟨k1, k2⟩
    · refine B.lastTo_is (by omega) (by omega) (.inl rfl) fun j h1 h2 => ?_
      cases hs : b.saw (node, j) with
      | false => rfl
      | true => exact absurd rfl (k2 (node, j) ((hm _).2 ⟨D.may_iff.2 (by simp only; omega), hs⟩))
    · obtain ⟨h1, h2⟩ := (hm _).1 k1
      have h3 := D.may_iff.1 h1
      simp only at h3
      refine B.lastTo_is (by omega) (by omega) (.inr h2) fun j h4 h5 => ?_
      cases hs : b.saw (node, j) with
      | false => rfl
      | true =>
        have := k2 (node, j) ((hm _).2 ⟨D.may_iff.2 (by simp only; omega), hs⟩) rfl
        simp only at this
        omega
  · rw [if_neg hn]
    rcases hsp with ⟨rfl, _⟩ | ⟨k1, _⟩
    · rfl
    · have h3 := D.may_iff.1 ((hm _).1 k1).1
      simp only at h3
      omega

set_option maxRecDepth 100000 in
set_option maxHeartbeats 4000000 in
theorem blast_any {S : Nat → Prop} {g : Nat} {m : Option Nat} {b : B.Bk} (node : Int) (w : World) (hP : PB w S g m b) :
    Calls Try.prog 22 #[.pointer (some ⟨g, 0, none⟩), .int .i64 node] w fun e w' => e = .returned (.int .i64 (B.last b node)) ∧ Below w.heap.size w w' := by
  obtain ⟨hok, T, hT, hPi⟩ := hP
  have HLL := Lib.hid (lastIn_lst hT node)
  obtain ⟨A, c, hB, hR⟩ := hPi.blk
  obtain ⟨n, hn⟩ : ∃ k, (D.cM T).length = k := ⟨_, rfl⟩
  have hl : n ≤ 1000000 := by rw [← hn]; exact Nat.le_trans (D.cM_len _) (by omega)
  rw [hn] at hB
  have hli := dlist_any _ (D.cU T) A n c (D.cM T) w hn hR.rds hl
  obtain ⟨L, hL⟩ : ∃ L, L = D.lst (D.has (D.cU T) (D.cM T)) := ⟨_, rfl⟩
  rw [← hL] at hli HLL
  obtain ⟨N, hN⟩ : ∃ k, L.length = k := ⟨_, rfl⟩
  have hNb : N ≤ 1000000 := by rw [← hN, hL]; exact Nat.le_trans (D.lst_len _) (by omega)
  have HN := Lib.hid hN
  obtain ⟨U, hU⟩ : ∃ U, U = D.cU T := ⟨_, rfl⟩
  rw [← hU] at hli hB
  obtain ⟨b0, b1, b2, b3, b4, b5, b6, b7, b8, b9, b10⟩ := set11 hB
  clear hok hT hPi hR hB hn hL hN hU b9 b10
  go_enter Try.func22, Try.ntmps22
  go_wp2_with fail
  refine hli.mono ?_
  rintro e w2 ⟨A2, c2, rfl, hD2, hb2⟩
  rw [HN.out]
  have hr2 : Rds w2 (fun _ => True) A2 (dvs L) := hD2.rdsT
  clear hli hD2 b0 b1 b2 b3 b4 b5 b6 b7 b8
  go_wp2_with fail
  go_loopw [5, 16] (fun av iv wr => ∃ i : Nat, iv = .int .i64 i ∧ i ≤ N ∧ av = .int .i64 (lastIn node 0 (L.take i)) ∧ Below w.heap.size w wr ∧ Rds wr (fun _ => True) A2 (dvs L)) (fun _ iv _ => N - (intOf iv).toNat)
  case atStart => exact ⟨0, rfl, by omega, rfl, hb2, hr2⟩
  case round =>
    obtain ⟨i, rfl, hi, rfl, hbr, hrr⟩ := hrel
    clear hr2 hb2
    by_cases hlt : i < N
    · have hlt' : i < L.length := by rw [HN.out]; exact hlt
      obtain ⟨xd, rfl, _, y0, y1⟩ := hrr.dot hlt'
      obtain ⟨dd, hdd⟩ : ∃ d, d = L[i] := ⟨_, rfl⟩
      have HTK : Hid (lastIn node 0 (L.take (i + 1)) = if dd.1 = node then dd.2 else lastIn node 0 (L.take i)) := Lib.hid (by rw [List.take_succ_eq_append_getElem hlt', ← hdd, lastIn_snoc])
      rw [← hdd] at y0 y1
      obtain ⟨d1, d2⟩ := dd
      simp only at y0 y1
      obtain ⟨la, hla⟩ : ∃ z, z = lastIn node 0 (L.take i) := ⟨_, rfl⟩
      rw [← hla] at HTK ⊢
      obtain ⟨w5, hw5⟩ : ∃ W, wr.alloc (.cells #[.int .i64 d1, .int .i64 d2] 39) = W := ⟨_, rfl⟩
      have hb5 : Below wr.heap.size wr w5 := by rw [← hw5]; exact b_alloc _ _
      have hbr5 := below_new hbr hb5
      have hrr5 := hrr.new hb5
      have HW5 := Lib.hid hw5
      clear hw5 hdd hla
      by_cases hq : d1 = node
      · have HE : Hid (lastIn node 0 (L.take (i + 1)) = d2) := Lib.hid (by rw [HTK.out, if_pos hq])
        have hq' : (d1 == node) = true := by simpa using hq
        clear hq HTK
        go_wp2
        go_roundw
        case rel => exact ⟨i + 1, by go_num, by omega, by rw [HE.out], by rw [HW5.out]; exact hbr5, by rw [HW5.out]; exact hrr5⟩
        case measure => simp [intOf]; omega
      · have HE : Hid (lastIn node 0 (L.take (i + 1)) = la) := Lib.hid (by rw [HTK.out, if_neg hq])
        have hq' : (d1 == node) = false := by simpa using hq
        clear hq HTK
        go_wp2
        go_roundw
        case rel => exact ⟨i + 1, by go_num, by omega, by rw [HE.out], by rw [HW5.out]; exact hbr5, by rw [HW5.out]; exact hrr5⟩
        case measure => simp [intOf]; omega
    · have HE : Hid (lastIn node 0 (L.take i) = B.last b node) := Lib.hid (by rw [List.take_of_length_le (by rw [HN.out]; omega)]; exact HLL.out)
      rw [HE.out]
      go_wp2
      go_ret
      exact ⟨rfl, hbr⟩
end Go.Proofs.Ytedcgfcmhaeldaa
end

section
namespace Go.Proofs.Ytedcgfcmhaeldaa
set_option linter.unusedVariables false
set_option linter.unusedSimpArgs false
open Go.ChangeShapes Go.WideShapes Go.ChangeAt Go.RowKit

abbrev TB : TypeId := 37
section
variable {w0 W W' : World} {g gm x : Nat} {mo : Option Nat} {b b' : B.Bk} {S Z Z' : Nat → Prop} {cs : Array Value}
theorem MBook.new (h : MBook W gm TB Z b) (hb : Below W.heap.size W W') : MBook W' gm TB Z b := by obtain ⟨m, h1, h2⟩ := h; exact ⟨m, h1.new hb, h2⟩
theorem MBook.mono (h : MBook W gm TB Z b) (hZ : ∀ b, Z b → Z' b) : MBook W gm TB Z' b := by obtain ⟨m, h1, h2⟩ := h; exact ⟨m, h1.mono hZ, h2⟩
theorem MBook.old (h : MBook W gm TB Z b) : MBook W gm TB (fun y => y < W.heap.size) b := by
  obtain ⟨m, h1, h2⟩ := h
  exact ⟨m, h1.old.mono fun _ h => h.2, h2⟩
theorem MBook.blo (h : MBook W gm TB Z b) : ∃ cs, Blo W gm TB cs := by
  obtain ⟨m, ⟨cs, A, N, c, h1⟩, h2⟩ := h
  exact ⟨cs, h1.blo⟩
theorem MBook.lt (h : MBook W gm TB Z b) : gm < W.heap.size := by obtain ⟨cs, h⟩ := h.blo; exact h.lt
theorem erow_map {B : Nat} {v : Value} {l : List EvV} {f : D.Dot → Option Value} {n y : Nat} (h : ERow W B v l) (k : MapM W mo f n) (e : v.ownBlock = some y) : some y ≠ mo := by
  rcases h.2 with ⟨q, _⟩ | ⟨k', cap, cur, q, _, hh, _⟩
  · rw [q] at e; cases e
  · rw [q] at e
    have : y = k' := by simpa [Value.ownBlock] using e.symm
    subst this
    exact k.blo hh
/-- The program's book changes. -/
theorem MBook.kpt (h : MBook W gm TB Z b') (k : PB W S g mo b) (hK : Kpt W W' g mo) (hne : g < gm) : MBook W' gm TB Z b' := by
  obtain ⟨m, ⟨cs, A, N, c, h1⟩, h2⟩ := h
  have hb := k.blo hK h1.blo (by omega)
  have hd : ∀ e ∈ m, Rds W' (fun b => (gm < b ∧ Z b) ∧ some b ≠ (Value.slice A N c).ownBlock) e.A (dvs e.M) := fun e he => k.rds (h1.own.dots e he) hK (fun b hb => by have := hb.1.1; omega)
  obtain ⟨_, T, _, h3⟩ := k
  obtain ⟨f, hM, _⟩ := h3.map
  exact ⟨m, ⟨cs, A, N, c, hb, h1.saw, h1.hold, h1.time, h1.len, ⟨h1.own.row.keep fun y hy hl => hK.block y hl (by have := (h1.own.row.lt y hy).1; omega) (erow_map h1.own.row hM hy), hd⟩⟩, h2⟩
/-- The document's book changes. -/
theorem PB.doc (k : PB W S g mo b) (hB : Blo W gm TB cs) (hne : gm ≠ g) (hg : W.grownBy W' (some gm)) : PB W' S g mo b := by
  obtain ⟨h1, T, h2, h3⟩ := k
  obtain ⟨f, hM, _⟩ := h3.map
  refine ⟨h1, T, h2, h3.keep fun y hy hc => hg.block y hy ?_⟩
  intro e
  injection e with e
  rcases hc with rfl | hc | hc
  · exact hne e.symm
  · subst e; exact hM.blo hB hc
  · exact hc.2.blo hB (by decide) e
/-- A block of dots that neither holds is written. -/
theorem PB.cell (k : PB W S g mo b) (hx : DU W x) (hS : ¬ S x) (hg : W.grownBy W' (some x)) : PB W' S g mo b := by
  obtain ⟨h1, T, h2, h3⟩ := k
  obtain ⟨f, hM, _⟩ := h3.map
  obtain ⟨A, c, hB, _⟩ := h3.blk
  refine ⟨h1, T, h2, h3.keep fun y hy hc => hg.block y hy ?_⟩
  intro e
  injection e with e
  subst e
  rcases hc with rfl | hc | hc
  · exact hx.db.blo hB (by decide) rfl
  · exact hM.db hx.db hc
  · exact hS hc.1
theorem MBook.cell (h : MBook W gm TB Z b) (hx : DU W x) (hZ : ¬ Z x) (hg : W.grownBy W' (some x)) : MBook W' gm TB Z b := by
  obtain ⟨m, ⟨cs, A, N, c, h1⟩, h2⟩ := h
  refine ⟨m, ⟨cs, A, N, c, h1.blo.grown hg (fun e => ?_), h1.saw, h1.hold, h1.time, h1.len, ⟨h1.own.row.keep fun y hy hl => hg.block y hl (fun e => ?_), fun e he => (h1.own.dots e he).grown hg fun y hy _ e' => ?_⟩⟩, h2⟩
  · injection e with e
    exact hx.db.blo h1.blo (by decide) e.symm
  · injection e with e
    subst e
    exact erow_db h1.own.row hx.db hy.symm
  · injection e' with e'
    subst e'
    exact hZ hy.1.2
theorem PB.old (k : PB W S g mo b) : PB W (fun y => y < W.heap.size) g mo b := by
  obtain ⟨h1, T, h2, h3⟩ := k
  obtain ⟨A, c, hB, hR⟩ := h3.blk
  obtain ⟨f, hM, hT, hr⟩ := h3.map
  exact ⟨h1, T, h2, ⟨A, c, hB, hR.old.mono fun _ h => h.2⟩, ⟨f, hM, hT, fun d e he => (hr d e he).old.mono fun _ h => h.2⟩, h3.srt, h3.rt⟩
theorem PB.mapl (k : PB W S g mo b) (e : mo = some x) : x < W.heap.size := by
  obtain ⟨h1, T, h2, h3⟩ := k
  exact h3.ltm e
theorem PB.far {y : Nat} (k : PB W S g mo b) (hd : DB W y) : y ≠ g ∧ some y ≠ mo := by
  obtain ⟨h1, T, h2, h3⟩ := k
  obtain ⟨f, hM, _⟩ := h3.map
  obtain ⟨A, c, hB, _⟩ := h3.blk
  exact ⟨hd.blo hB (by decide), hM.db hd⟩
end
/-- Rows of dots that may be written, whatever they hold. -/
def Cel (W : World) (S : Nat → Prop) (A : Option Addr) (n : Nat) : Prop := ∀ k, k < n → ∃ ad v, A = some ad ∧ S ad.block ∧ DU W ad.block ∧ W.cell? ⟨(ad.add (k * 2)).block, (ad.add (k * 2)).off + 1, none⟩ = some v
section
variable {W W' : World} {S : Nat → Prop} {A : Option Addr} {n : Nat} {M : List D.Dot}
theorem DRu.cel (h : DRu W S A M) : Cel W S A M.length := fun k hk => by
  obtain ⟨ad, e, hs, _, y1⟩ := Rds.dot h hk
  exact ⟨ad, _, e, hs.1, hs.2, y1⟩
theorem Cel.keep (h : Cel W S A n) (hk : ∀ b, S b → DU W b → W'.heap[b]? = W.heap[b]?) : Cel W' S A n := fun k hkn => by
  obtain ⟨ad, v, e, hs, hd, hc⟩ := h k hkn
  have hh := hk _ hs hd
  refine ⟨ad, v, e, hs, hd.keep hh, ?_⟩
  rw [← hc]
  have e2 : (ad.add (k * 2)).block = ad.block := by rw [Go.Proofs.Ytedcgfcmhaeldaa.M.addBlock]
  unfold World.cell?
  simp only [e2, hh]
theorem Cel.new (h : Cel W S A n) (hb : Below W.heap.size W W') : Cel W' S A n := h.keep fun b _ hd => hb.block b hd.db.lt
theorem Cel.set (h : Cel W S A n) (x o : Nat) (v : Value) : Cel (W.setCell ⟨x, o, none⟩ v) S A n := fun k hkn => by
  obtain ⟨ad, u, e, hs, ⟨cs, hd⟩, hc⟩ := h k hkn
  have e2 : (ad.add (k * 2)).block = ad.block := by rw [Go.Proofs.Ytedcgfcmhaeldaa.M.addBlock]
  rw [e2] at hc
  by_cases q : ad.block = x
  · subst q
    have hp := hd.put o v
    have h1 : cs[(ad.add (k * 2)).off + 1]? = some u := by rw [← hc]; exact (hd.cell _).symm
    obtain ⟨hlt, _⟩ := Array.getElem?_eq_some_iff.1 h1
    refine ⟨ad, (cs.setIfInBounds o v)[(ad.add (k * 2)).off + 1]'(by simpa using hlt), e, hs, ⟨_, hp⟩, ?_⟩
    rw [e2, hp.cell]
    simp
  · have hh : (W.setCell ⟨x, o, none⟩ v).heap[ad.block]? = W.heap[ad.block]? := Below.heap_setCell _ _ _ _ q
    refine ⟨ad, u, e, hs, ⟨cs, hd.keep hh⟩, ?_⟩
    rw [e2, ← hc]
    unfold World.cell?
    simp only [hh]
end
/-- The cell of a row of events that holds an event's row of dots. -/
theorem evs_rem {W : World} {S : Nat → Prop} {A : Option Addr} {l : List EvV} (h : Rds W S A (evs l)) {i : Nat} (hi : i < l.length) : ∃ ad, A = some ad ∧ W.cell? ⟨(ad.add (i * 14)).block, (ad.add (i * 14)).off + 13, none⟩ = some (.slice l[i].A l[i].M.length l[i].c) := by
  obtain ⟨ad, e, hs, hc⟩ := h _ _ ((evs_at l i hi 13 (by omega)).trans (by simp [EvV.cells] : l[i].cells[13]? = some (.slice l[i].A l[i].M.length l[i].c)))
  refine ⟨ad, e, ?_⟩
  rw [← hc]
  rw [← Go.Proofs.Ytedcgfcmhaeldaa.M.addAdd]
  rfl
/-- An event's row, beside a block of dots that is written. -/
theorem evs_far {W W' : World} {B x : Nat} {v : Value} {l : List EvV} (h : ERow W B v l) (hx : DU W x) (hg : W.grownBy W' (some x)) : ERow W' B v l := h.keep fun y hy hl => hg.block y hl (fun e => by
  injection e with e
  subst e
  exact erow_db h hx.db hy.symm)

/-- While both Adds go on: V the world ahead of them, Bo what was there when the round began. -/
def PX (w V : World) (Bo g gm gs gi ge : Nat) (mo : Option Nat) (b : B.Bk) (F : Nat → Int) (Ac : Option Addr) (cc : Nat) (Ax : Option Addr) (cx q : Nat) (M : List D.Dot) (sc : Array Value) : Say := fun L f W =>
  (Below w.heap.size w W ∧ V.heap.size ≤ W.heap.size) ∧ Blo W gi 43 (ecs F Ac q cc) ∧ Blo W ge 43 (ecs F Ax q cx) ∧ Blo W gs 26 sc ∧ DRu W (fun x => Bo ≤ x ∧ x < V.heap.size) Ac M ∧
  (L 2 = false → PB W (fun x => x < Bo) g mo b) ∧ (L 2 = true → ∃ mo', PB W (fun x => x < Bo ∨ V.heap.size ≤ x) g mo' (B.add b (F, M)) ∧ ∀ x, mo' = some x → w.heap.size ≤ x) ∧
  (L 5 = false → MBook W gm TB (fun x => x < Bo) b) ∧ (L 5 = true → MBook W gm TB (fun x => x < Bo ∨ V.heap.size ≤ x) (B.add b (F, M)))
section
variable {w V : World} {Bo g gm gs gi ge : Nat} {mo : Option Nat} {b : B.Bk} {F : Nat → Int} {Ac : Option Addr} {cc : Nat} {Ax : Option Addr} {cx q : Nat} {M : List D.Dot} {sc : Array Value} {L : Nat → Bool} {f : Nat → Value} {W W' : World}
theorem PX.up (hw : w.heap.size ≤ V.heap.size) : ∀ (L L' : Nat → Bool) (f f' : Nat → Value) (W W' : World), (∀ j ∈ [1, 2, 4, 5], L' j = L j) → (∀ s ∈ ([] : List Nat), f' s = f s) → Grows W W' → PX w V Bo g gm gs gi ge mo b F Ac cc Ax cx q M sc L f W → PX w V Bo g gm gs gi ge mo b F Ac cc Ax cx q M sc L' f' W' := by
  intro L L' f f' W W' hL hf hg ⟨k1, k2, k3, k4, k5, k6, k7, k8, k9⟩
  unfold PX
  rw [hL 2 (by decide), hL 5 (by decide)]
  refine ⟨⟨k1.1.trans (Below.mono hg (Nat.le_trans hw k1.2)), Nat.le_trans k1.2 (Below.size hg)⟩, k2.new hg, k3.new hg, k4.new hg, k5.new hg, fun e => (k6 e).new hg, fun e => ?_, fun e => (k8 e).new hg, fun e => (k9 e).new hg⟩
  obtain ⟨mo', h1, h2⟩ := k7 e
  exact ⟨mo', h1.new hg, h2⟩
theorem PX.pass {i d : Nat} {v : Value} (hi : i ≠ 2 ∧ i ≠ 5) (h : PX w V Bo g gm gs gi ge mo b F Ac cc Ax cx q M sc L f W) : PX w V Bo g gm gs gi ge mo b F Ac cc Ax cx q M sc (lst1 L i) (updT f (some d) v) W := by
  unfold PX at *
  have e : ∀ j, j ≠ i → lst1 L i j = L j := fun j hj => by unfold lst1; rw [if_neg hj]
  rw [e 2 (Ne.symm hi.1), e 5 (Ne.symm hi.2)]
  exact h
theorem PX.add {v : Value} {mo' : Option Nat} (hgm : g < gm) (hgi : gi ≠ g) (hge : ge ≠ g) (hgs : gs ≠ g) (hgl : w.heap.size ≤ g) (hml : ∀ x, mo = some x → w.heap.size ≤ x) (hw : w.heap.size ≤ V.heap.size) (h : PX w V Bo g gm gs gi ge mo b F Ac cc Ax cx q M sc L f W) (h2 : L 2 = false) (h5 : L 5 = false)
    (hP : PB W' (fun x => x < Bo ∨ W.heap.size ≤ x) g mo' (B.add b (F, M))) (hm : mo' = mo ∨ mo = none ∧ ∃ x, mo' = some x ∧ W.heap.size ≤ x) (hK : Kpt W W' g mo) : PX w V Bo g gm gs gi ge mo b F Ac cc Ax cx q M sc (lst1 L 2) (updT f (some 52) v) W' := by
  obtain ⟨k1, k2, k3, k4, k5, k6, k7, k8, k9⟩ := h
  have hB := k6 h2
  unfold PX
  simp only [lst1, h5, if_true, show ¬ (5 : Nat) = 2 by decide, if_false]
  refine ⟨⟨k1.1.trans (hK.below k1.1.size hgl hml), Nat.le_trans k1.2 hK.size⟩, hB.blo hK k2 hgi, hB.blo hK k3 hge, hB.blo hK k4 hgs, k5.keep fun x _ hd => hK.block x hd.db.lt (hB.far hd.db).1 (hB.far hd.db).2, fun e => (by cases e), fun _ => ⟨mo', hP.mono fun x hx => hx.imp id fun h => Nat.le_trans k1.2 h, fun x hx => ?_⟩, fun _ => (k8 h5).kpt hB hK hgm, fun e => (by cases e)⟩
  rcases hm with rfl | ⟨_, y, hy, hl⟩
  · exact hml x hx
  · rw [hy] at hx
    injection hx with hx
    have := k1.2
    omega
theorem PX.doc {v : Value} (hgm : g < gm) (hgi : gi ≠ gm) (hge : ge ≠ gm) (hgs : gs ≠ gm) (hgl : w.heap.size ≤ gm) (h : PX w V Bo g gm gs gi ge mo b F Ac cc Ax cx q M sc L f W) (h2 : L 2 = true) (h5 : L 5 = false)
    (hM : MBook W' gm TB (fun x => x < Bo ∨ W.heap.size ≤ x) (B.add b (F, M))) (hg : W.grownBy W' (some gm)) : PX w V Bo g gm gs gi ge mo b F Ac cc Ax cx q M sc (lst1 L 5) (updT f (some 55) v) W' := by
  obtain ⟨k1, k2, k3, k4, k5, k6, k7, k8, k9⟩ := h
  obtain ⟨cs, hBm⟩ := (k8 h5).blo
  unfold PX
  simp only [lst1, h2, if_true, show ¬ (2 : Nat) = 5 by decide, if_false]
  refine ⟨⟨k1.1.grown hg k1.1.size (fun k hk => by injection hk with hk; omega), Nat.le_trans k1.2 hg.size⟩, k2.grown hg (fun e => by injection e with e; exact hgi e), k3.grown hg (fun e => by injection e with e; exact hge e), k4.grown hg (fun e => by injection e with e; exact hgs e), k5.keep fun x _ hd => hg.block x hd.db.lt (fun e => by injection e with e; exact hd.db.blo hBm (by decide) e), fun e => (by cases e), fun _ => ?_, fun e => (by cases e), fun _ => hM.mono fun x hx => hx.imp id fun h => Nat.le_trans k1.2 h⟩
  obtain ⟨mo', h1, h3⟩ := k7 h2
  exact ⟨mo', h1.doc hBm (by omega) hg, h3⟩
end
/-- Behind Events: both books, the row that was handed out, and its events' rows. -/
structure Got (w W : World) (Bo g gm gs : Nat) (mo : Option Nat) (b : B.Bk) (sc : Array Value) (v : Value) (lg : List EvV) : Prop where
  pb : PB W (fun x => x < Bo) g mo b
  doc : MBook W gm TB (fun x => x < Bo) b
  box : Blo W gs 26 sc
  row : ERow W Bo v lg
  cel : ∀ e ∈ lg, Cel W (fun x => Bo ≤ x) e.A e.M.length
  bl : Below w.heap.size w W
section
variable {w W W' : World} {Bo g gm gs : Nat} {mo : Option Nat} {b : B.Bk} {sc : Array Value} {v : Value} {lg : List EvV}
theorem Got.new (h : Got w W Bo g gm gs mo b sc v lg) (hb : Below W.heap.size W W') : Got w W' Bo g gm gs mo b sc v lg :=
  ⟨h.pb.new hb, h.doc.new hb, h.box.new hb, h.row.keep fun y _ hl => hb.block y hl, fun e he => (h.cel e he).new hb, below_new h.bl hb⟩
theorem Got.set (h : Got w W Bo g gm gs mo b sc v lg) {x : Nat} (o : Nat) (u : Value) (hx : DU W x) (hB : Bo ≤ x) (hw : w.heap.size ≤ Bo) : Got w (W.setCell ⟨x, o, none⟩ u) Bo g gm gs mo b sc v lg := by
  have hg : W.grownBy (W.setCell ⟨x, o, none⟩ u) (some x) := gb_set (World.grownBy.refl _ _) (.inl rfl) _
  exact ⟨h.pb.cell hx (by omega) hg, h.doc.cell hx (by omega) hg, h.box.grown hg (fun e => by injection e with e; exact hx.db.blo h.box (by decide) e.symm), evs_far h.row hx hg, fun e he => (h.cel e he).set _ _ _, h.bl.grown hg h.bl.size (fun k hk => by injection hk with hk; omega)⟩
end
def setV (B n : Nat) (U : Nat → Int) (M : List D.Dot) : StG := ⟨fun u w => ∃ A c, u = sv U A n c ∧ DRow w B (.slice A n c) M, fun _ _ _ h ⟨A, c, e, k⟩ => ⟨A, c, e, k.new h⟩⟩
def newV (N : Nat) (X : List E.Ev) : StG := ⟨fun u w => ∃ A c l, u = .slice A N c ∧ plain l = X ∧ ERds w (fun _ => True) A l, fun _ _ _ h ⟨A, c, l, e, k, r⟩ => ⟨A, c, l, e, k, r.new h⟩⟩
end Go.Proofs.Ytedcgfcmhaeldaa
end

