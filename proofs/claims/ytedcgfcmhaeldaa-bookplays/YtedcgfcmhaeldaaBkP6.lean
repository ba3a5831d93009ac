/- Layer 8, the program's: handful's take. -/
import Derived.Test.YtedcgfcmhaeldaaBkP4
namespace Go.Proofs.Ytedcgfcmhaeldaa
set_option linter.unusedVariables false
set_option linter.unusedSimpArgs false
open Go.ChangeShapes Go.WideShapes Go.ChangeAt Go.RowKit

abbrev hcs (most : Int) (A : Option Addr) (n c : Nat) : Array Value := #[.int .i64 most, .slice A n c]
/-- What stands while 'h.events = append(h.events, copied(e))' goes on, in any order. -/
def HX (w : World) (B p gx : Nat) (most : Int) (F : Nat → Int) (A : Option Addr) (n c : Nat) (M : List D.Dot) (Ah : Option Addr) (m ch : Nat) (l : List EvV) : Say := fun L f W =>
  Below B w W ∧ w.heap.size ≤ W.heap.size ∧ (∀ x, DB w x → W.heap[x]? = w.heap[x]?) ∧ Blo W gx 43 (ecs F A n c) ∧
  (L 6 = true → L 8 = false → ∃ A' c', f 20 = ev F A' n c' ∧ Copy W w.heap.size A' c' M) ∧
  (L 7 = true → L 8 = false → ∃ b A' c', f 21 = .slice (some ⟨b, 0, none⟩) 1 1 ∧ Blo W b 43 (ecs F A' n c') ∧ Copy W w.heap.size A' c' M) ∧
  (L 8 = false → EOwn W (fun b => B ≤ b ∧ b ≠ p) B (.slice Ah m ch) l) ∧
  (L 8 = true → ∃ A2 c2 A' c', f 22 = .slice A2 (m + 1) c2 ∧ EOwn W (fun b => B ≤ b ∧ b ≠ p) B (.slice A2 (m + 1) c2) (l ++ [⟨F, M, A', c'⟩]) ∧ (L 11 = true → Blo W p 99 (hcs most A2 (m + 1) c2))) ∧
  (L 11 = false → Blo W p 99 (hcs most Ah m ch))
section
variable {w : World} {B p gx : Nat} {most : Int} {F : Nat → Int} {A : Option Addr} {n c : Nat} {M : List D.Dot} {Ah : Option Addr} {m ch : Nat} {l : List EvV} {L : Nat → Bool} {f : Nat → Value} {W W' : World}
theorem HX.up (hB : B ≤ w.heap.size) : ∀ (L L' : Nat → Bool) (f f' : Nat → Value) (W W' : World), (∀ j ∈ [4, 5, 6, 7, 8, 11], L' j = L j) → (∀ s ∈ [20, 21, 22], f' s = f s) → Grows W W' → HX w B p gx most F A n c M Ah m ch l L f W → HX w B p gx most F A n c M Ah m ch l L' f' W' := by
  intro L L' f f' W W' hL hf hg ⟨k1, k2, k3, k4, k5, k6, k7, k8, k9⟩
  unfold HX
  rw [hL 6 (by decide), hL 7 (by decide), hL 8 (by decide), hL 11 (by decide), hf 20 (by decide), hf 21 (by decide), hf 22 (by decide)]
  refine ⟨k1.trans (hg.mono (Nat.le_trans hB k2)), Nat.le_trans k2 hg.size, fun x hx => (hg.block x (Nat.lt_of_lt_of_le hx.lt k2)).trans (k3 x hx), k4.new hg, fun e e' => ?_, fun e e' => ?_, fun e => (k7 e).new hg, fun e => ?_, fun e => (k9 e).new hg⟩
  · obtain ⟨A', c', e1, e2⟩ := k5 e e'
    exact ⟨A', c', e1, e2.new hg⟩
  · obtain ⟨b, A', c', e1, e2, e3⟩ := k6 e e'
    exact ⟨b, A', c', e1, e2.new hg, e3.new hg⟩
  · obtain ⟨A2, c2, A', c', e1, e2, e3⟩ := k8 e
    exact ⟨A2, c2, A', c', e1, e2.new hg, fun e => (e3 e).new hg⟩
theorem HX.pass {i d : Nat} {v : Value} (hi : i ≠ 6 ∧ i ≠ 7 ∧ i ≠ 8 ∧ i ≠ 11) (hd : d ≠ 20 ∧ d ≠ 21 ∧ d ≠ 22) (h : HX w B p gx most F A n c M Ah m ch l L f W) : HX w B p gx most F A n c M Ah m ch l (lst1 L i) (updT f (some d) v) W := by
  unfold HX at *
  have e : ∀ j, j ≠ i → lst1 L i j = L j := fun j hj => by unfold lst1; rw [if_neg hj]
  have ef : ∀ s, d ≠ s → updT f (some d) v s = f s := fun s hs => by unfold updT; rw [if_neg (fun e => hs (by injection e))]
  rw [e 6 (Ne.symm hi.1), e 7 (Ne.symm hi.2.1), e 8 (Ne.symm hi.2.2.1), e 11 (Ne.symm hi.2.2.2), ef 20 hd.1, ef 21 hd.2.1, ef 22 hd.2.2]
  exact h
theorem HX.cal {A' : Option Addr} {c' : Nat} (hB : B ≤ w.heap.size) (h : HX w B p gx most F A n c M Ah m ch l L f W) (h7 : L 7 = false) (h8 : L 8 = false) (h11 : L 11 = false) (hc : Copy W' W.heap.size A' c' M) (hg : Below W.heap.size W W') :
    HX w B p gx most F A n c M Ah m ch l (lst1 L 6) (updT f (some 20) (ev F A' n c')) W' := by
  obtain ⟨k1, k2, k3, k4, k5, k6, k7, k8, k9⟩ := h
  unfold HX
  simp only [lst1, updT, h7, h8, h11, if_true, show ¬ (7 : Nat) = 6 by decide, show ¬ (8 : Nat) = 6 by decide, show ¬ (11 : Nat) = 6 by decide, if_false]
  refine ⟨k1.trans (hg.mono (Nat.le_trans hB k2)), Nat.le_trans k2 hg.size, fun x hx => (hg.block x (Nat.lt_of_lt_of_le hx.lt k2)).trans (k3 x hx), k4.new hg, fun _ _ => ⟨A', c', rfl, hc.mono k2⟩, fun e => (by cases e), fun _ => (k7 h8).new hg, fun e => (by cases e), fun _ => (k9 h11).new hg⟩
theorem HX.lit {A' : Option Addr} {c' : Nat} (hB : B ≤ w.heap.size) (h : HX w B p gx most F A n c M Ah m ch l L f W) (h8 : L 8 = false) (h11 : L 11 = false) (hc : Copy W w.heap.size A' c' M) :
    HX w B p gx most F A n c M Ah m ch l (lst1 L 7) (updT f (some 21) (.slice (some ⟨W.heap.size, 0, none⟩) 1 1)) (W.alloc (.cells (ecs F A' n c') 43)) := by
  have hg : Grows W (W.alloc (.cells (ecs F A' n c') 43)) := Grows.alloc _ _
  obtain ⟨k1, k2, k3, k4, k5, k6, k7, k8, k9⟩ := h
  unfold HX
  simp only [lst1, updT, h8, h11, if_true, show ¬ (6 : Nat) = 7 by decide, show ¬ (8 : Nat) = 7 by decide, show ¬ (11 : Nat) = 7 by decide, if_false]
  refine ⟨k1.trans (Below.mono hg (Nat.le_trans hB k2)), Nat.le_trans k2 (Below.size hg), fun x hx => (Below.block hg x (Nat.lt_of_lt_of_le hx.lt k2)).trans (k3 x hx), k4.new hg, fun e e' => ?_, fun _ _ => ⟨_, A', c', rfl, Blo.made _ _ _, hc.new hg⟩, fun _ => (k7 h8).new hg, fun e => (by cases e), fun _ => (k9 h11).new hg⟩
  obtain ⟨A1, c1, e1, e2⟩ := k5 e h8
  exact ⟨A1, c1, by simpa using e1, e2.new hg⟩
theorem HX.app {A' A2 : Option Addr} {c' c2 b : Nat} (hB : B ≤ w.heap.size) (hgx : B ≤ gx) (h : HX w B p gx most F A n c M Ah m ch l L f W) (h8 : L 8 = false) (h11 : L 11 = false) (hc : Copy W w.heap.size A' c' M) (hX2 : (Value.slice Ah m ch).ownBlock ≠ some gx)
    (hR : ERow W' B (.slice A2 (m + 1) c2) (l ++ [⟨F, M, A', c'⟩])) (hg : W.grownBy W' (Value.slice Ah m ch).ownBlock) (hv : (Value.slice A2 (m + 1) c2).ownBlock = (Value.slice Ah m ch).ownBlock ∨ (Value.slice A2 (m + 1) c2).ownBlock = some W.heap.size) :
    HX w B p gx most F A n c M Ah m ch l (lst1 L 8) (updT f (some 22) (.slice A2 (m + 1) c2)) W' := by
  obtain ⟨k1, k2, k3, k4, k5, k6, k7, k8, k9⟩ := h
  have hO := k7 h8
  unfold HX
  simp only [lst1, updT, h8, h11, if_true, show ¬ (6 : Nat) = 8 by decide, show ¬ (7 : Nat) = 8 by decide, show ¬ (11 : Nat) = 8 by decide, if_false]
  have hdots : ∀ x, DB W x → some x ≠ (Value.slice Ah m ch).ownBlock := fun x hx e => by
    rcases hO.row.2 with ⟨q, _⟩ | ⟨k, cap, cur, q, _, hh, _⟩
    · rw [q] at e; cases e
    · rw [q] at e
      have : x = k := by simpa [Value.ownBlock] using e
      subst this
      exact hx.blo hh (by decide) rfl
  have hrow : Rds W (fun b => (B ≤ b ∧ b ≠ p) ∧ some b ≠ (Value.slice Ah m ch).ownBlock) A' (dvs M) := Rds.mono hc.drd fun x hx => ⟨⟨Nat.le_trans hB hx.1, hx.2.blo (k9 h11) (by decide)⟩, hdots x hx.2⟩
  refine ⟨⟨hg.os.trans k1.os, hg.tape.trans k1.tape, hg.output.trans k1.output, Nat.le_trans k1.size hg.size, fun i hi => ?_⟩, Nat.le_trans k2 hg.size, fun x hx => ?_, k4.grown hg (fun e => hX2 e.symm), fun _ e => (by cases e), fun _ e => (by cases e), fun e => (by cases e), fun _ => ⟨A2, c2, A', c', rfl, hO.snoc hR hg hv hrow, fun e => (by cases e)⟩, fun _ => ?_⟩
  · rw [hg.block i (by omega) (fun e => ?_), k1.block i hi]
    have := (hO.row.lt i e.symm).1
    omega
  · have hxW : DB W x := hx.keep (k3 x hx)
    exact (hg.block x hxW.lt (hdots x hxW)).trans (k3 x hx)
  · exact (k9 h11).grown hg (fun e => hO.row.blo (k9 h11) (by decide) e.symm)
theorem HX.sto (hB : B ≤ w.heap.size) (hp : B ≤ p) (h : HX w B p gx most F A n c M Ah m ch l L f W) (h8 : L 8 = true) (h11 : L 11 = false) :
    ∃ A2 c2, f 22 = .slice A2 (m + 1) c2 ∧ W.cell? ⟨p, 1, none⟩ = some (.slice Ah m ch) ∧ W.frozen? ⟨p, 1, none⟩ = false ∧ HX w B p gx most F A n c M Ah m ch l (lst1 L 11) (updT f none undef) (W.setCell ⟨p, 1, none⟩ (.slice A2 (m + 1) c2)) := by
  obtain ⟨k1, k2, k3, k4, k5, k6, k7, k8, k9⟩ := h
  obtain ⟨A2, c2, A', c', e1, e2, _⟩ := k8 h8
  have hBp := k9 h11
  have hg : W.grownBy (W.setCell ⟨p, 1, none⟩ (.slice A2 (m + 1) c2)) (some p) := gb_set (World.grownBy.refl _ _) (.inl rfl) _
  refine ⟨A2, c2, e1, by simpa using hBp.cell 1, hBp.frozen 1, ?_⟩
  unfold HX
  simp only [lst1, updT, h8, if_true, show ¬ (6 : Nat) = 11 by decide, show ¬ (7 : Nat) = 11 by decide, show ¬ (8 : Nat) = 11 by decide, if_false]
  refine ⟨⟨hg.os.trans k1.os, hg.tape.trans k1.tape, hg.output.trans k1.output, Nat.le_trans k1.size hg.size, fun i hi => ?_⟩, Nat.le_trans k2 hg.size, fun x hx => ?_, k4.grown hg (fun e => ?_), fun _ e => (by cases e), fun _ e => (by cases e), fun e => (by cases e), fun _ => ⟨A2, c2, A', c', by simpa using e1, ?_, fun _ => by simpa using hBp.put 1 (.slice A2 (m + 1) c2)⟩, fun e => (by cases e)⟩
  · rw [hg.block i (by omega) (fun e => by injection e with e; omega), k1.block i hi]
  · have hxW : DB W x := hx.keep (k3 x hx)
    exact (hg.block x hxW.lt (fun e => hxW.blo hBp (by decide) (by injection e))).trans (k3 x hx)
  · injection e with e
    exact Blo.typeNe k4 hBp (by decide) e
  · refine ⟨e2.row.keep fun g hg' hl => hg.block g hl (fun e => e2.row.blo hBp (by decide) (hg'.trans e)), fun x hx => (e2.dots x hx).keep fun b hb hl => hg.block b hl (fun e => hb.1.2 (by injection e))⟩
theorem HX.fin (h : HX w B p gx most F A n c M Ah m ch l L f W) (h8 : L 8 = true) (h11 : L 11 = true) : Below B w W ∧ w.heap.size ≤ W.heap.size ∧ (∀ x, DB w x → W.heap[x]? = w.heap[x]?) ∧ ∃ A2 c2 A' c', EOwn W (fun b => B ≤ b ∧ b ≠ p) B (.slice A2 (m + 1) c2) (l ++ [⟨F, M, A', c'⟩]) ∧ Blo W p 99 (hcs most A2 (m + 1) c2) := by
  obtain ⟨k1, k2, k3, k4, k5, k6, k7, k8, k9⟩ := h
  obtain ⟨A2, c2, A', c', e1, e2, e3⟩ := k8 h8
  exact ⟨k1, k2, k3, A2, c2, A', c', e2, e3 h11⟩
end
/-- A handful that has these. -/
def Hnd (W : World) (B p : Nat) (most : Int) (l : List EvV) : Prop := B ≤ p ∧ ∃ A m c, Hid (m = l.length) ∧ Blo W p 99 (hcs most A m c) ∧ EOwn W (fun b => B ≤ b ∧ b ≠ p) B (.slice A m c) l
theorem Hnd.new {W W' : World} {B p : Nat} {most : Int} {l : List EvV} (h : Hnd W B p most l) (hb : Below W.heap.size W W') : Hnd W' B p most l := by
  obtain ⟨h0, A, m, c, h1, h2, h3⟩ := h
  exact ⟨h0, A, m, c, h1, h2.new hb, h3.new hb⟩
/-- What take leaves. -/
def TakeP (B p : Nat) (most : Int) (l : List EvV) (F : Nat → Int) (M : List D.Dot) (w : World) (e : Ending) (w' : World) : Prop :=
  e = .returned (.tuple #[]) ∧ (∃ l', Hnd w' B p most l' ∧ plain l' = if (l.length : Int) < most then plain l ++ [(F, M)] else plain l) ∧ Below B w w' ∧ ∀ x, DB w x → w'.heap[x]? = w.heap[x]?
set_option maxRecDepth 100000 in
set_option maxHeartbeats 8000000 in
theorem htake_any {B p : Nat} {most : Int} {l : List EvV} (S : Nat → Prop) (F : Nat → Int) (A : Option Addr) (n c : Nat) (M : List D.Dot) (w : World) (hH : Hnd w B p most l) (hn : M.length = n) (hr : Rds w S A (dvs M)) (hS : ∀ b, S b → b < B) (hl : n ≤ 1000000) (hll : l.length ≤ 900000) :
    Calls Try.prog 52 #[.pointer (some ⟨p, 0, none⟩), ev F A n c] w (TakeP B p most l F M w) := by
  obtain ⟨hp, Ah, m, ch, Hm, hB, hO⟩ := hH
  obtain ⟨w1, hw1⟩ : ∃ W, w.alloc (.cells (ecs F A n c) 43) = W := ⟨_, rfl⟩
  obtain ⟨gx, hgx⟩ : ∃ q, q = w.heap.size := ⟨_, rfl⟩
  have hb1 : Below w.heap.size w w1 := by rw [← hw1]; exact b_alloc _ _
  have hs1 := hb1.size
  have hX1 : Blo w1 gx 43 (ecs F A n c) := by rw [← hw1, hgx]; exact Blo.made _ _ _
  have hB1 := hB.new hb1
  have hO1 := hO.new hb1
  have hr1 := hr.new hb1
  have hlt := hB.lt
  have hml : m ≤ 900000 := by rw [Hm.out]; exact hll
  have hBs : B ≤ w1.heap.size := by omega
  have hgxB : B ≤ gx := by omega
  have HW := Lib.hid hw1
  have HGX := Lib.hid hgx
  have HN := Lib.hid hn
  have h0 : w1.cell? ⟨p, 0, none⟩ = some (.int .i64 most) := by simpa using hB1.cell 0
  have h1 : w1.cell? ⟨p, 1, none⟩ = some (.slice Ah m ch) := by simpa using hB1.cell 1
  rw [← hw1] at h0 h1
  have hd1 : ∀ x, DB w x → w1.heap[x]? = w.heap[x]? := fun x hx => hb1.block x hx.lt
  have HSn : Hid ((Value.slice Ah m ch).ownBlock ≠ some gx) := Lib.hid fun e => by
    have := (hO.row.lt gx e).2
    omega
  clear hw1 hgx hn hr hB hO
  go_enter Try.func52, Try.ntmps52
  go_wp2_with fail
  rw [HW.out, ← HGX.out]
  rw [HW.out] at h0 h1
  go_quiet (fail)
  obtain ⟨w2, hd, hw2⟩ : ∃ W, Drew w1 W ∧ w1.drewN nq = W := ⟨_, ⟨nq, rfl⟩, rfl⟩
  rw [hw2]
  have hb2 : Below w1.heap.size w1 w2 := hd.below _
  have hs2 : w1.heap.size = w2.heap.size := by rw [hd.heap]
  have hX2 := hd.blo hX1
  have hB2 := hd.blo hB1
  have hO2 := hO1.new hb2
  have hr2 := hr1.new hb2
  have hd2 : ∀ x, DB w x → w2.heap[x]? = w.heap[x]? := fun x hx => by rw [hd.heap]; exact hd1 x hx
  have hb02 : Below B w w2 := (below_new hb1 hb2).mono (by omega)
  have hBs2 : B ≤ w2.heap.size := by omega
  clear hw2 hd h0 h1 hX1 hB1 hO1 hr1 hd1 hb1 hb2 nq
  by_cases hlt2 : (m : Int) < most
  · have hlt2' : decide ((m : Int) < most) = true := by simpa using hlt2
    have HLT : Hid ((l.length : Int) < most) := Lib.hid (by rw [← Hm.out]; exact hlt2)
    have HX0 : Hid (∀ f, HX w2 B p gx most F A n c M Ah m ch l (fun _ => false) f w2) := Lib.hid (fun f => ⟨Below.refl _ _, Nat.le_refl _, fun _ _ => rfl, hX2, fun e => (by cases e), fun e => (by cases e), fun _ => hO2, fun e => (by cases e), fun _ => hB2⟩)
    have HC : Hid (∀ W, Below B w2 W → w2.heap.size ≤ W.heap.size → Calls Try.prog 67 #[ev F A n c] W (EvPost F M W)) := Lib.hid (fun W hW _ => copied_any S F A n c M W HN.out (hr2.below hW (fun b hb _ => hS b hb)) hl)
    clear hX2 hO2 hB2 hr2
    go_wp2_with fail
    refine wp_famY (size := 25) (D := [14, 15, 16, 17, 18, 19, 20, 21, 22, 23, 24]) [4, 5, 6, 7, 8, 11] [20, 21, 22] [(14, isV (.pointer (some ⟨p, 0, none⟩))), (15, isV (.pointer (some ⟨p, 0, none⟩))), (16, isV (.pointer (some ⟨p, 0, none⟩))), (17, isV (.pointer (some ⟨p, 1, none⟩))), (18, isV (.slice Ah m ch)), (19, isV (ev F A n c)), (23, isV (.pointer (some ⟨p, 0, none⟩))), (24, isV (.pointer (some ⟨p, 1, none⟩)))] (HX w2 B p gx most F A n c M Ah m ch l) (HX.up hBs2) (by kernel_rfl) (by rfl) (by kernel_rfl) (HX0.out _) ?_ ?_
    · simp only [famAllY]
      repeat' apply And.intro
      · rw [if_neg (by decide)]
        intro f W hl
        simp [Oper.looksAt, Op.operands, Call.operands, famAt, famOf, isV] at hl
        simp [famWants, execOp, rho, go_sem, hl, famUpon, famOf, isV, Grows.refl]
      · rw [if_neg (by decide)]
        intro f W hl
        simp [Oper.looksAt, Op.operands, Call.operands, famAt, famOf, isV] at hl
        simp [famWants, execOp, rho, go_sem, hl, famUpon, famOf, isV, Grows.refl]
      · rw [if_neg (by decide)]
        intro f W hl
        simp [Oper.looksAt, Op.operands, Call.operands, famAt, famOf, isV] at hl
        simp [famWants, execOp, rho, go_sem, hl, famUpon, famOf, isV, Grows.refl]
      · rw [if_neg (by decide)]
        intro f W hl
        simp [Oper.looksAt, Op.operands, Call.operands, famAt, famOf, isV] at hl
        simp [famWants, execOp, rho, go_sem, hl, famUpon, famOf, isV, Grows.refl]
      · rw [if_pos (by decide)]
        intro L f W hi hcl hwt hX hl
        simp [Oper.looksAt, Op.operands, Call.operands, famAt, famOf, isV] at hl
        have h8 : L 8 = false := by
          cases e : L 8 with
          | false => rfl
          | true => rw [hcl 8 4 (by kernel_rfl) e] at hi; cases hi
        have h11 : L 11 = false := by
          cases e : L 11 with
          | false => rfl
          | true => rw [hcl 11 8 (by kernel_rfl) e] at h8; cases h8
        have k1 : W.cell? ⟨p, 1, none⟩ = some (.slice Ah m ch) := by simpa using (hX.2.2.2.2.2.2.2.2 h11).cell 1
        simp [famWants, execOp, rho, go_sem, hl, k1, famUpon, famOf, isV]
        exact hX.pass (by decide) (by decide)
      · rw [if_pos (by decide)]
        intro L f W hi hcl hwt hX hl
        simp [Oper.looksAt, Op.operands, Call.operands, famAt, famOf, isV] at hl
        obtain ⟨c0, c1, c2, c3, c4, c5, c6, c7, c8, c9, c10, c11, c12, c13⟩ := set14 hX.2.2.2.1
        simp [famWants, execOp, rho, go_sem, hl, c0, c1, c2, c3, c4, c5, c6, c7, c8, c9, c10, c11, c12, c13, famUpon, famOf, isV]
        exact hX.pass (by decide) (by decide)
      · rw [if_pos (by decide)]
        intro L f W hi hcl hwt hX hl
        simp [Oper.looksAt, Op.operands, Call.operands, famAt, famOf, isV] at hl
        have h7 : L 7 = false := by
          cases e : L 7 with
          | false => rfl
          | true => rw [hcl 7 6 (by kernel_rfl) e] at hi; cases hi
        have h8 : L 8 = false := by
          cases e : L 8 with
          | false => rfl
          | true => rw [hcl 8 7 (by kernel_rfl) e] at h7; cases h7
        have h11 : L 11 = false := by
          cases e : L 11 with
          | false => rfl
          | true => rw [hcl 11 8 (by kernel_rfl) e] at h8; cases h8
        have hc := HC.out W hX.1 hX.2.1
        simp [famWants, execOp, rho, go_sem, hl, famUpon, famOf, isV]
        refine hc.mono ?_
        rintro e w'' ⟨A', c', rfl, hcp, hg'⟩
        have hfin := hX.cal hBs2 h7 h8 h11 hcp hg'
        rw [HN.out]
        exact ⟨_, rfl, hfin⟩
      · rw [if_pos (by decide)]
        intro L f W hi hcl hwt hX hl
        simp [Oper.looksAt, Op.operands, Call.operands, famAt, famOf, isV] at hl
        have h8 : L 8 = false := by
          cases e : L 8 with
          | false => rfl
          | true => rw [hcl 8 7 (by kernel_rfl) e] at hi; cases hi
        have h11 : L 11 = false := by
          cases e : L 11 with
          | false => rfl
          | true => rw [hcl 11 8 (by kernel_rfl) e] at h8; cases h8
        have h6 : L 6 = true := hwt 6 (by kernel_rfl)
        obtain ⟨A', c', e20, hcp⟩ := hX.2.2.2.2.1 h6 h8
        simp [famWants, execOp, rho, go_sem, hl, e20, famUpon, famOf, isV]
        exact hX.lit hBs2 h8 h11 hcp
      · rw [if_pos (by decide)]
        intro L f W hi hcl hwt hX hl
        simp [Oper.looksAt, Op.operands, Call.operands, famAt, famOf, isV] at hl
        have h11 : L 11 = false := by
          cases e : L 11 with
          | false => rfl
          | true => rw [hcl 11 8 (by kernel_rfl) e] at hi; cases hi
        have h7 : L 7 = true := hwt 7 (by kernel_rfl)
        obtain ⟨b, A', c', e21, hBb, hcp⟩ := hX.2.2.2.2.2.1 h7 hi
        have hrw := hX.2.2.2.2.2.2.1 hi
        have hBb' : Blo W b 43 (EvV.cells ⟨F, M, A', c'⟩) := by
          unfold EvV.cells
          simp only
          rw [HN.out]
          exact hBb
        obtain ⟨v', W', hrun, hR', hg', hv'⟩ := run_eapp W B 22 (.slice Ah m ch) l hrw.row (fun _ => True) ⟨b, 0, none⟩ 1 1 [⟨F, M, A', c'⟩] rfl (blo_ers _ hBb') (by rw [← Hm.out]; omega) (Nat.le_trans hBs2 hX.2.1)
        obtain ⟨A2, c2, rfl, _⟩ := hR'.form
        have hlen : (l ++ [(⟨F, M, A', c'⟩ : EvV)]).length = m + 1 := by rw [List.length_append, Hm.out]; rfl
        rw [hlen] at hrun hR' hv'
        have hne : (Value.slice Ah m ch).ownBlock ≠ some gx := fun e => HSn.out e
        refine ⟨fun _ => ?_, fun hh => ?_⟩
        · simp only [execOp, resolve, invoke, builtin, rho, Sem.run_bind, Sem.run_pure, Result.andThen_ok, List.map_toArray, List.map_cons, List.map_nil, hl, e21, hrun, famUpon]
          exact ⟨fun d hd => by cases hd; exact trivial, hX.app (b := b) hBs2 hgxB hi h11 hcp hne hR' hg' hv'⟩
        · simp [famWants] at hh
      · rw [if_neg (by decide)]
        intro f W hl
        simp [Oper.looksAt, Op.operands, Call.operands, famAt, famOf, isV] at hl
        simp [famWants, execOp, rho, go_sem, hl, famUpon, famOf, isV, Grows.refl]
      · rw [if_neg (by decide)]
        intro f W hl
        simp [Oper.looksAt, Op.operands, Call.operands, famAt, famOf, isV] at hl
        simp [famWants, execOp, rho, go_sem, hl, famUpon, famOf, isV, Grows.refl]
      · rw [if_pos (by decide)]
        intro L f W hi hcl hwt hX hl
        simp [Oper.looksAt, Op.operands, Call.operands, famAt, famOf, isV] at hl
        have h8 : L 8 = true := hwt 8 (by kernel_rfl)
        obtain ⟨A2, c2, e22, k1, f1, hX'⟩ := hX.sto hBs2 hp h8 hi
        simp [famWants, execOp, rho, go_sem, hl, e22, k1, f1, famUpon, famOf, isV]
        exact hX'
      · trivial
    · intro L' u W hL hX hu
      obtain ⟨q1, q2, q3, A2, c2, A', c', q4, q5⟩ := hX.fin (hL 8 (by decide)) (hL 11 (by decide))
      simp only [fill, Act.put, List.setIfInBounds_toArray, List.set_cons_zero, List.set_cons_succ]
      refine wpList_nil ?_
      clear hu hL hX HX0 HC
      go_wp2
      go_end0
      refine ⟨rfl, ⟨_, ⟨hp, A2, m + 1, c2, Lib.hid (by rw [List.length_append, Hm.out]; rfl), q5, q4⟩, ?_⟩, hb02.trans q1, fun x hx => (q3 x (hx.keep (hd2 x hx))).trans (hd2 x hx)⟩
      rw [if_pos HLT.out, plain_app]
      rfl
  · have hlt2' : decide ((m : Int) < most) = false := by simpa using hlt2
    have HLT : Hid (¬ (l.length : Int) < most) := Lib.hid (by rw [← Hm.out]; exact hlt2)
    go_wp2
    go_end0
    exact ⟨rfl, ⟨l, ⟨hp, Ah, m, ch, Hm, hB2, hO2⟩, by rw [if_neg (by have := HLT.out; omega)]⟩, hb02, hd2⟩
end Go.Proofs.Ytedcgfcmhaeldaa
