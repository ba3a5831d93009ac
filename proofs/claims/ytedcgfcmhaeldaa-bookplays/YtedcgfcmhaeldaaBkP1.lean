/- Layer 8, the program's: rows of dots that no one else writes; Clone, copied, with. -/
import Derived.Test.YtedcgfcmhaeldaaEvRefSame
import Derived.Test.YtedcgfcmhaeldaaDotAdd
import Derived.Test.YtedcgfcmhaeldaaBkMath3
import Derived.Test.YtedcgfcmhaeldaaBkMap
import Derived.Lib.SliceRun
namespace Go.Proofs.Ytedcgfcmhaeldaa
set_option linter.unusedVariables false
set_option linter.unusedSimpArgs false
open Go.ChangeShapes Go.WideShapes Go.ChangeAt Go.RowKit

/-- A block of dots. -/
def DB (w : World) (b : Nat) : Prop := ∃ cs fr, w.heap[b]? = some (.cells cs 39 fr)
theorem DB.keep {w w' : World} {b : Nat} (h : DB w b) (hk : w'.heap[b]? = w.heap[b]?) : DB w' b := by
  obtain ⟨cs, fr, e⟩ := h
  exact ⟨cs, fr, hk.trans e⟩
theorem DB.lt {w : World} {b : Nat} (h : DB w b) : b < w.heap.size := by
  obtain ⟨cs, fr, e⟩ := h
  exact (Array.getElem?_eq_some_iff.1 e).1
theorem DB.blo {w : World} {b g : Nat} {t : TypeId} {cs : Array Value} (h : DB w b) (k : Blo w g t cs) (hne : 39 ≠ t) : b ≠ g := by
  obtain ⟨cs', fr, e⟩ := h
  rintro rfl
  rw [show w.heap[b]? = _ from k] at e
  simp at e
  exact hne e.2.1.symm
theorem DB.map {w : World} {b h n : Nat} {f : D.Dot → Option Value} (k : DB w b) (hm : MapF w h f n) : b ≠ h := by
  obtain ⟨cs', fr, e⟩ := k
  obtain ⟨es, clock, l, e', _⟩ := hm
  rintro rfl
  rw [e'] at e
  cases e
/-- A slice that reads as these dots, in blocks of dots of S. -/
def DRd (w : World) (S : Nat → Prop) (A : Option Addr) (M : List D.Dot) : Prop := Rds w (fun b => S b ∧ DB w b) A (dvs M)
section
variable {w w' : World} {S S' : Nat → Prop} {A : Option Addr} {M : List D.Dot} {B n c : Nat}
theorem DRd.nil : DRd w S A [] := Rds.nil
theorem DRd.keep (h : DRd w S A M) (hk : ∀ b, S b → DB w b → w'.heap[b]? = w.heap[b]?) : DRd w' S A M :=
  (Rds.keep h fun b hb _ => hk b hb.1 hb.2).mono fun b hb => ⟨hb.1, hb.2.keep (hk b hb.1 hb.2)⟩
theorem DRd.new (h : DRd w S A M) (hb : Below w.heap.size w w') : DRd w' S A M := h.keep fun b _ hd => hb.block b hd.lt
theorem DRd.mono (h : DRd w S A M) (hS : ∀ b, S b → S' b) : DRd w S' A M := Rds.mono h fun b hb => ⟨hS b hb.1, hb.2⟩
theorem DRd.old (h : DRd w S A M) : DRd w (fun b => S b ∧ b < w.heap.size) A M := Rds.mono h fun b hb => ⟨⟨hb.1, hb.2.lt⟩, hb.2⟩
theorem DRd.rds (h : DRd w S A M) : Rds w S A (dvs M) := Rds.mono h fun b hb => hb.1
theorem DRd.rdsT (h : DRd w S A M) : Rds w (fun _ => True) A (dvs M) := Rds.mono h fun b hb => trivial
theorem DRow.drd (h : DRow w B (.slice A n c) M) : DRd w (fun b => B ≤ b) A M := by
  refine Rds.mono h.rds fun b hb => ⟨hb.1, ?_⟩
  rcases h.2 with ⟨e, _⟩ | ⟨g, cap, cur, e, _, hh, _⟩
  · rw [e] at hb; cases hb.2
  · rw [e] at hb
    have : g = b := by simpa [Value.ownBlock] using hb.2
    subst this
    exact ⟨_, _, hh⟩
theorem Copy.drd (h : Copy w B A c M) : DRd w (fun b => B ≤ b) A M := by
  rcases h.2 with rfl | h
  · exact DRd.nil
  · exact h.drd
end
/-- The world is as it was but for block g, a map, and new memory. -/
structure Kpt (w w' : World) (g : Nat) (m : Option Nat) : Prop where
  os : w'.os = w.os
  tape : w'.tape = w.tape
  output : w'.output = w.output
  size : w.heap.size ≤ w'.heap.size
  block : ∀ i, i < w.heap.size → i ≠ g → some i ≠ m → w'.heap[i]? = w.heap[i]?
section
variable {w w1 w2 w' : World} {g : Nat} {m m1 : Option Nat} {B : Nat}
theorem Kpt.of (h : Below w.heap.size w w') : Kpt w w' g m := ⟨h.os, h.tape, h.output, h.size, fun i hi _ _ => h.block i hi⟩
theorem Kpt.ofG {k : Nat} (h : w.grownBy w' (some k)) (hk : k = g ∨ some k = m ∨ w.heap.size ≤ k) : Kpt w w' g m :=
  ⟨h.os, h.tape, h.output, h.size, fun i hi h1 h2 => h.block i hi fun e => by
    injection e with e
    subst e
    rcases hk with hk | hk | hk
    · exact h1 hk
    · exact h2 hk
    · omega⟩
theorem Kpt.trans (h : Kpt w w1 g m) (k : Kpt w1 w2 g m1) (hm : m1 = m ∨ ∀ x, m1 = some x → w.heap.size ≤ x) : Kpt w w2 g m :=
  ⟨k.os.trans h.os, k.tape.trans h.tape, k.output.trans h.output, Nat.le_trans h.size k.size, fun i hi h1 h2 => by
    rw [k.block i (Nat.lt_of_lt_of_le hi h.size) h1 ?_, h.block i hi h1 h2]
    rcases hm with rfl | hm
    · exact h2
    · intro e; have := hm i e.symm; omega⟩
theorem Kpt.below (h : Kpt w w' g m) (hB : B ≤ w.heap.size) (hg : B ≤ g) (hm : ∀ x, m = some x → B ≤ x) : Below B w w' :=
  ⟨h.os, h.tape, h.output, h.size, fun i hi => h.block i (Nat.lt_of_lt_of_le hi hB) (by omega) (fun e => by have := hm i e.symm; omega)⟩
end

/-! Clone, copied -/
def ClonePost (M : List D.Dot) (w : World) (e : Ending) (w' : World) : Prop :=
  ∃ A c, e = .returned (.slice A M.length c) ∧ Copy w' w.heap.size A c M ∧ Below w.heap.size w w'
set_option maxRecDepth 100000 in
set_option maxHeartbeats 2000000 in
theorem clone_any (S : Nat → Prop) (A : Option Addr) (n c : Nat) (M : List D.Dot) (w : World) (hn : M.length = n) (hr : Rds w S A (dvs M)) (hl : n ≤ 1000000) :
    Calls Try.prog 46 #[.slice A n c] w (ClonePost M w) := by
  have HN := Lib.hid hn
  clear hn
  have hnil : ∀ W : World, (binOp .eql 24 (.slice A n c) (.slice none 0 0)).run Try.prog W = .ok (.bool A.isNone) W := fun W => Lib.run_eql_slice_nil W 24 39 A n c 0 0 Try.underlying24
  cases A with
  | none =>
    have hM : M = [] := by
      cases M with
      | nil => rfl
      | cons d M =>
        obtain ⟨ad, e, _⟩ := hr 0 (.int .i64 d.1) rfl
        cases e
    have H0 : Hid (M.length = 0) := Lib.hid (by rw [hM]; rfl)
    have HM := Lib.hid hM
    clear hM
    go_enter Try.func46, Try.ntmps46
    go_wp2
    go_ret
    exact ⟨none, 0, by rw [H0.out]; rfl, ⟨by rw [H0.out]; exact Nat.le_refl _, .inl HM.out⟩, Below.refl _ _⟩
  | some ad =>
    go_enter Try.func46, Try.ntmps46
    go_wp2_with (at_builtin; refine wpList_dapp0 _ rfl _ _ rfl _ rfl S (some ad) n c M rfl HN.out (hr.alloc _) hl ?_)
    intro A2 c2 w2 hC2 hb2
    go_wp2
    go_ret
    unfold ClonePost
    rw [HN.out]
    exact ⟨A2, c2, rfl, hC2.mono (by simp), below_new (b_alloc w (.cells #[] 39)) (by simpa using hb2)⟩
set_option maxRecDepth 100000 in
set_option maxHeartbeats 4000000 in
theorem copied_any (S : Nat → Prop) (F : Nat → Int) (A : Option Addr) (n c : Nat) (M : List D.Dot) (w : World) (hn : M.length = n) (hr : Rds w S A (dvs M)) (hl : n ≤ 1000000) :
    Calls Try.prog 67 #[ev F A n c] w (EvPost F M w) := by
  obtain ⟨w1, hw1⟩ : ∃ W, (w.alloc (.cells (ecs F A n c) 43)).alloc (.cells (ecs (fun _ => 0) none 0 0) 43) = W := ⟨_, rfl⟩
  obtain ⟨gx, hgx⟩ : ∃ q, q = w.heap.size := ⟨_, rfl⟩
  have hb1 : Below w.heap.size w w1 := by rw [← hw1]; exact b_alloc2 _ _ _
  have hz1 : w1.heap.size = w.heap.size + 2 := by rw [← hw1]; simp
  have hX : Blo w1 w.heap.size 43 (ecs F A n c) := by rw [← hw1]; exact (Blo.made _ _ _).alloc _
  have hY : Blo w1 (w.heap.size + 1) 43 (ecs (fun _ => 0) none 0 0) := by
    rw [← hw1]
    have := Blo.made (w.alloc (.cells (ecs F A n c) 43)) 43 (ecs (fun _ => 0) none 0 0)
    simpa using this
  have HW := Lib.hid hw1
  have HN := Lib.hid hn
  have hr1 := hr.new hb1
  clear hw1 hn hr
  have z13 : w1.cell? ⟨w.heap.size, 13, none⟩ = some (.slice A n c) := by simpa using hX.cell 13
  rw [← HW.out] at z13
  go_enter Try.func67, Try.ntmps67
  go_wp2_with fail
  rw [HW.out]
  refine (clone_any S A n c M w1 HN.out hr1 hl).mono ?_
  rintro e w2 ⟨A2, c2, rfl, hC2, hb2⟩
  have HL2 : Hid (M.length = n) := HN
  rw [HN.out]
  have hX2 := hX.new hb2
  have hY2 := hY.new hb2
  have hb02 := below_new hb1 hb2
  have f13 := hX2.frozen 13
  have y13 : w2.cell? ⟨w.heap.size, 13, none⟩ = some (.slice A n c) := by simpa using hX2.cell 13
  have hgx : w2.grownBy (w2.setCell ⟨w.heap.size, 13, none⟩ (.slice A2 n c2)) (some w.heap.size) := gb_set (World.grownBy.refl _ _) (.inl rfl) _
  have hX3 := hX2.put 13 (.slice A2 n c2)
  rw [ecs_more] at hX3
  have hY3 := hY2.grown hgx (fun e => by injection e with e; omega)
  have hC3 : Copy (w2.setCell ⟨w.heap.size, 13, none⟩ (.slice A2 n c2)) w1.heap.size A2 c2 M := ⟨hC2.1, hC2.2.imp id fun h => h.grown hgx (fun b hb e => h.blo hX2 (by decide) (hb.trans e))⟩
  have hb03 := hb02.grown hgx hb02.size (fun k hk => by injection hk with hk; omega)
  obtain ⟨w3, hw3⟩ : ∃ W, w2.setCell ⟨w.heap.size, 13, none⟩ (.slice A2 n c2) = W := ⟨_, rfl⟩
  rw [hw3] at hX3 hY3 hC3 hb03
  obtain ⟨z0, z1, z2, z3, z4, z5, z6, z7, z8, z9, z10, z11, z12, z13'⟩ := set14 hX3
  clear hgx hX2 hY2 hC2 hb02 hb2 hr1 hX hY hb1
  go_wp2_with (refine wpList_sete _ rfl _ _ rfl (w.heap.size + 1) _ rfl F A2 n c2 rfl hY3 rfl ?_)
  intro w4 hZ4 hg4
  have hC4 : Copy w4 w1.heap.size A2 c2 M := ⟨hC3.1, hC3.2.imp id fun h => h.grown hg4 (fun b hb e => h.blo hY3 (by decide) (hb.trans e))⟩
  have hb04 := hb03.grown hg4 hb03.size (fun k hk => by injection hk with hk; omega)
  clear z0 z1 z2 z3 z4 z5 z6 z7 z8 z9 z10 z11 z12 z13' z13 f13 hw3
  obtain ⟨z0, z1, z2, z3, z4, z5, z6, z7, z8, z9, z10, z11, z12, z13⟩ := set14 hZ4
  go_wp2
  refine bodyPost_ret (v := ev F A2 n c2) ?_ rfl ?_
  · simp [results, Try.results67, go_sem, z0, z1, z2, z3, z4, z5, z6, z7, z8, z9, z10, z11, z12, z13]
  unfold EvPost
  rw [HN.out]
  exact ⟨A2, c2, rfl, ⟨hC4.1, hC4.2.imp id fun h => h.mono (by omega)⟩, hb04⟩

/-! with -/
def WithP (S : Nat → Prop) (T : D.Dot → Bool) (d : D.Dot) (w : World) (e : Ending) (w' : World) : Prop :=
  ∃ T' A' c', e = .returned (sv (D.cU T') A' (D.cM T').length c') ∧ (∀ x, D.may x = true → T' x = (T x || x == d)) ∧ DRd w' (fun b => S b ∨ w.heap.size ≤ b) A' (D.cM T') ∧ Below w.heap.size w w'
set_option maxRecDepth 100000 in
set_option maxHeartbeats 4000000 in
theorem with_any (S : Nat → Prop) (T : D.Dot → Bool) (A : Option Addr) (n c : Nat) (a b : Int) (w : World) (hn : (D.cM T).length = n) (hr : DRd w S A (D.cM T)) :
    Calls Try.prog 66 #[sv (D.cU T) A n c, .agg #[.int .i64 a, .int .i64 b]] w (WithP S T (a, b) w) := by
  have hl : n ≤ 1000000 := by have := D.cM_len T; omega
  obtain ⟨T', hT1, hT2, hT3⟩ := D.add_step T (a, b)
  have HT1 := Lib.hid hT1
  have HT2 := Lib.hid hT2
  have HT3 := Lib.hid hT3
  clear hT1 hT2 hT3
  obtain ⟨U, hU⟩ : ∃ U, D.cU T = U := ⟨_, rfl⟩
  obtain ⟨M, hM⟩ : ∃ M, D.cM T = M := ⟨_, rfl⟩
  have HU := Lib.hid hU
  have HM := Lib.hid hM
  rw [hU]
  rw [hM] at hn hr
  clear hU hM
  obtain ⟨w1, hw1⟩ : ∃ W, ((w.alloc (.cells (scs U A n c) 53)).alloc (.cells #[.int .i64 a, .int .i64 b] 39)).alloc (.cells (scs (fun _ => 0) none 0 0) 53) = W := ⟨_, rfl⟩
  have hb1 : Below w.heap.size w w1 := by rw [← hw1]; exact (b_alloc2 _ _ _).alloc (b_alloc2 _ _ _).size _
  have hz1 : w1.heap.size = w.heap.size + 3 := by rw [← hw1]; simp
  have hX : Blo w1 w.heap.size 53 (scs U A n c) := by rw [← hw1]; exact ((Blo.made _ _ _).alloc _).alloc _
  have hY : Blo w1 (w.heap.size + 1) 39 #[.int .i64 a, .int .i64 b] := by
    rw [← hw1]
    have := (Blo.made (w.alloc (.cells (scs U A n c) 53)) 39 #[.int .i64 a, .int .i64 b]).alloc (.cells (scs (fun _ => 0) none 0 0) 53)
    simpa using this
  have hZ : Blo w1 (w.heap.size + 2) 53 (scs (fun _ => 0) none 0 0) := by
    rw [← hw1]
    have := Blo.made ((w.alloc (.cells (scs U A n c) 53)).alloc (.cells #[.int .i64 a, .int .i64 b] 39)) 53 (scs (fun _ => 0) none 0 0)
    simpa using this
  have hr1 := hr.new hb1
  obtain ⟨x0, x1, x2, x3, x4, x5, x6, x7, x8⟩ := set9 hX
  have k0 : w1.cell? ⟨w.heap.size + 1, 0, none⟩ = some (.int .i64 a) := by simpa using hY.cell 0
  have k1 : w1.cell? ⟨w.heap.size + 1, 1, none⟩ = some (.int .i64 b) := by simpa using hY.cell 1
  have HW := Lib.hid hw1
  rw [← hw1] at x0 x1 x2 x3 x4 x5 x6 x7 x8 k0 k1
  have HN := Lib.hid hn
  clear hn hw1
  go_enter Try.func66, Try.ntmps66
  go_wp2_with fail
  rw [HW.out]
  refine (dadd_any S U A n c M a b w1 HN.out hr1.rds hl).mono ?_
  clear x0 x1 x2 x3 x4 x5 x6 x7 x8 k0 k1
  obtain ⟨R, hR⟩ : ∃ R, D.add U M (a, b) = R := ⟨_, rfl⟩
  have HR := Lib.hid hR
  rw [hR]
  clear hR
  rintro e w2 ⟨A2, c2, rfl, hR2, hb2⟩
  obtain ⟨U2, M2, E2⟩ := R
  obtain ⟨n2, hn2⟩ : ∃ k, k = M2.length := ⟨_, rfl⟩
  have HN2 := Lib.hid hn2
  simp only [← hn2] at hR2 ⊢
  clear hn2
  have hX2 := hX.new hb2
  have hZ2 := hZ.new hb2
  have hb02 := below_new hb1 hb2
  have hr2 := hr1.new hb2
  have hs2 := hb2.size
  obtain ⟨g2, hg2⟩ : ∃ q, q = w2.heap.size := ⟨_, rfl⟩
  obtain ⟨w3, hw3⟩ : ∃ W, w2.alloc (.cells (scs (fun _ => 0) none 0 0) 53) = W := ⟨_, rfl⟩
  have hV3 : Blo w3 g2 53 (scs (fun _ => 0) none 0 0) := by rw [← hw3, hg2]; exact Blo.made _ _ _
  have hb3 : Below w2.heap.size w2 w3 := by rw [← hw3]; exact b_alloc _ _
  have hX3 := hX2.new hb3
  have hZ3 := hZ2.new hb3
  have hR3 := hR2.new hb3
  have hr3 := hr2.new hb3
  have hb03 := below_new hb02 hb3
  have HW3 := Lib.hid hw3
  have HG2 := Lib.hid hg2
  have hlt2 : w.heap.size + 2 < g2 := by omega
  clear hX2 hZ2 hR2 hr2 hb02 hw3 hb3 hg2
  go_wp2_with (refine wpList_setv _ rfl 53 _ _ rfl Try.sizeSet g2 (scs (fun _ => 0) none 0 0) (by simp [go_sem, HG2.out]) U2 A2 n2 c2 rfl (by rw [HW3.out]; exact hV3) rfl ?_)
  intro w4 hV4 hg4
  rw [HW3.out] at hg4
  have hX4 := hX3.grown hg4 (fun e => by injection e with e; omega)
  have hZ4 := hZ3.grown hg4 (fun e => by injection e with e; omega)
  have hR4 : DRow w4 w1.heap.size (.slice A2 n2 c2) M2 := hR3.grown hg4 (fun x hx e => hR3.blo hV3 (by decide) (hx.trans e))
  have hr4 : DRd w4 S A M := hr3.keep fun x _ hx => hg4.block x hx.lt (fun e => hx.blo hV3 (by decide) (by injection e))
  have hb04 : Below w.heap.size w w4 := hb03.grown hg4 hb03.size (fun k hk => by injection hk with hk; omega)
  obtain ⟨y0, y1, y2, y3, y4, y5, y6, y7, y8⟩ := set9 hX4
  obtain ⟨v0, v1, v2, v3, v4, v5, v6, v7, v8⟩ := set9 hV4
  clear hX3 hZ3 hR3 hr3 hb03 hg4 hV3 hX hZ hY hr1 hb1
  by_cases hE : E2 = 0
  · subst hE
    have HE : Hid (U2 = D.cU T' ∧ M2 = D.cM T') := Lib.hid (by
      have := HT1.out
      rw [HU.out, HM.out, HR.out] at this
      exact this rfl)
    clear y0 y1 y2 y3 y4 y5 y6 y7 y8
    rw [HG2.out] at v0 v1 v2 v3 v4 v5 v6 v7 v8
    go_wp2_with (refine wpList_setv _ rfl 53 _ _ rfl Try.sizeSet (w.heap.size + 2) _ rfl U2 A2 n2 c2 rfl hZ4 rfl ?_)
    intro w5 hZ5 hg5
    have hR5 : DRow w5 w1.heap.size (.slice A2 n2 c2) M2 := hR4.grown hg5 (fun x hx e => hR4.blo hZ4 (by decide) (hx.trans e))
    have hb05 : Below w.heap.size w w5 := hb04.grown hg5 hb04.size (fun k hk => by injection hk with hk; omega)
    clear v0 v1 v2 v3 v4 v5 v6 v7 v8
    obtain ⟨v0, v1, v2, v3, v4, v5, v6, v7, v8⟩ := set9 hZ5
    go_wp2
    refine bodyPost_ret (v := sv U2 A2 n2 c2) ?_ rfl ?_
    · simp [results, Try.results66, go_sem, v0, v1, v2, v3, v4, v5, v6, v7, v8]
    obtain ⟨rfl, rfl⟩ := HE.out
    refine ⟨T', A2, c2, by rw [HN2.out], HT3.out, hR5.drd.mono fun x hx => .inr (by omega), hb05⟩
  · have HE : Hid (T' = T) := Lib.hid (by
      have := HT2.out
      rw [HU.out, HM.out, HR.out] at this
      exact this hE)
    clear v0 v1 v2 v3 v4 v5 v6 v7 v8
    go_wp2_with (refine wpList_setv _ rfl 53 _ _ rfl Try.sizeSet (w.heap.size + 2) _ rfl U A n c rfl hZ4 rfl ?_)
    intro w5 hZ5 hg5
    have hr5 : DRd w5 S A M := hr4.keep fun x _ hx => hg5.block x hx.lt (fun e => hx.blo hZ4 (by decide) (by injection e))
    have hb05 : Below w.heap.size w w5 := hb04.grown hg5 hb04.size (fun k hk => by injection hk with hk; omega)
    clear y0 y1 y2 y3 y4 y5 y6 y7 y8
    obtain ⟨v0, v1, v2, v3, v4, v5, v6, v7, v8⟩ := set9 hZ5
    go_wp2
    refine bodyPost_ret (v := sv U A n c) ?_ rfl ?_
    · simp [results, Try.results66, go_sem, v0, v1, v2, v3, v4, v5, v6, v7, v8]
    have h3 := HT3.out
    rw [HE.out] at h3
    refine ⟨T, A, c, by rw [HU.out, HM.out, HN.out], h3, by rw [HM.out]; exact hr5.mono fun x hx => .inl hx, hb05⟩
end Go.Proofs.Ytedcgfcmhaeldaa
