/- Layer 8, the law's own: alive. -/
import Derived.Test.YtedcgfcmhaeldaaBkAl0
import Derived.Test.YtedcgfcmhaeldaaBkLaw
import Derived.Test.YtedcgfcmhaeldaaBkP8
import Derived.Test.YtedcgfcmhaeldaaBkP9
import Derived.Test.YtedcgfcmhaeldaaBkP11
namespace Go.Proofs.Ytedcgfcmhaeldaa
set_option linter.unusedVariables false
set_option linter.unusedSimpArgs false
open Go.ChangeShapes Go.WideShapes Go.ChangeAt Go.RowKit

theorem fx_cells : ecs FX none 0 0 = #[.int .i64 0, .int .i64 1, .int .i64 1, .int .i64 2, .int .i64 0, .int .i64 0, .int .i64 0, .int .i64 1, .int .i64 1, .int .i64 0, .int .i64 1, .int .i64 1, .int .i64 0, .slice none 0 0] := rfl
theorem fy_cells (gl : Nat) : ecs FY (some ⟨gl, 0, none⟩) 1 1 = #[.int .i64 1, .int .i64 1, .int .i64 2, .int .i64 2, .int .i64 0, .int .i64 0, .int .i64 0, .int .i64 1, .int .i64 1, .int .i64 0, .int .i64 1, .int .i64 1, .int .i64 0, .slice (some ⟨gl, 0, none⟩) 1 1] := rfl
/-- How far the two have come. -/
def bkAt (b5 b2 : Bool) : B.Bk := if b5 then bk2 else if b2 then bk1 else B.new
def AlX (w : World) (g gx gl gy : Nat) : Say := fun L f W =>
  gx ≠ g ∧ gl ≠ g ∧ gy ≠ g ∧ Blo W gx 43 (ecs FX none 0 0) ∧ Blo W gy 43 (ecs FY (some ⟨gl, 0, none⟩) 1 1) ∧ Blo W gl 39 #[.int .i64 0, .int .i64 1] ∧ ∃ m, Bok w W g m (bkAt (L 5) (L 2))
theorem AlX.up {w : World} {g gx gl gy : Nat} : ∀ (L L' : Nat → Bool) (f f' : Nat → Value) (W W' : World), (∀ j ∈ [1, 2, 4, 5], L' j = L j) → (∀ s ∈ ([] : List Nat), f' s = f s) → Grows W W' → AlX w g gx gl gy L f W → AlX w g gx gl gy L' f' W' := by
  intro L L' f f' W W' hL hf hg ⟨n1, n2, n3, k1, k2, k3, m, k4⟩
  unfold AlX
  rw [hL 5 (by decide), hL 2 (by decide)]
  exact ⟨n1, n2, n3, k1.new hg, k2.new hg, k3.new hg, m, k4.new hg⟩
theorem AlX.pass {w : World} {g gx gl gy i : Nat} {d : Option Nat} {v : Value} {L : Nat → Bool} {f : Nat → Value} {W : World} (hi : i ≠ 5 ∧ i ≠ 2) (h : AlX w g gx gl gy L f W) : AlX w g gx gl gy (lst1 L i) (updT f d v) W := by
  unfold AlX at *
  have e : ∀ j, j ≠ i → lst1 L i j = L j := fun j hj => by unfold lst1; rw [if_neg hj]
  rw [e 5 (Ne.symm hi.1), e 2 (Ne.symm hi.2)]
  exact h
theorem AlX.turn {w : World} {g gx gl gy i : Nat} {d : Option Nat} {v : Value} {L : Nat → Bool} {f : Nat → Value} {W W' : World} {m m' : Option Nat} {b : B.Bk} (h : AlX w g gx gl gy L f W) (hB : Bok w W g m b) (hK : Kpt W W' g m) (hB' : Bok w W' g m' (bkAt (lst1 L i 5) (lst1 L i 2))) : AlX w g gx gl gy (lst1 L i) (updT f d v) W' := by
  obtain ⟨n1, n2, n3, k1, k2, k3, _⟩ := h
  exact ⟨n1, n2, n3, hB.pb.blo hK k1 n1, hB.pb.blo hK k2 n3, hB.pb.blo hK k3 n2, m', hB'⟩
def seenV (B n : Nat) (U : Nat → Int) (M : List D.Dot) : StG := ⟨fun u w => ∃ A c, u = sv U A n c ∧ Copy w B A c M, fun _ _ _ h ⟨A, c, e, k⟩ => ⟨A, c, e, k.new h⟩⟩

set_option maxRecDepth 100000 in
set_option maxHeartbeats 16000000 in
theorem balive_any (w : World) : Calls Try.prog 9 #[] w fun e w' => e = .returned (.bool true) ∧ Below w.heap.size w w' := by
  go_enter Try.func9, Try.ntmps9
  go_wp2_with fail
  refine (bnew_bok (w0 := w) (Below.refl _ _)).mono ?_
  rintro e w1 ⟨rfl, hP1, hb1⟩
  obtain ⟨g, hg⟩ : ∃ q, q = w.heap.size := ⟨_, rfl⟩
  rw [← hg] at hP1 ⊢
  have hlt := hP1.lt
  obtain ⟨w2, hw2⟩ : ∃ W, (((w1.alloc (.cells #[.int .i64 0, .int .i64 1, .int .i64 1, .int .i64 0, .int .i64 1, .int .i64 1, .int .i64 0] 41)).alloc (.cells #[.int .i64 0, .int .i64 1, .int .i64 1, .int .i64 2, .int .i64 0, .int .i64 0, .int .i64 0, .int .i64 1, .int .i64 1, .int .i64 0, .int .i64 1, .int .i64 1, .int .i64 0, .slice none 0 0] 43)).alloc (.cells #[.int .i64 0, .int .i64 1] 39)).alloc (.cells #[.int .i64 1, .int .i64 1, .int .i64 2, .int .i64 2, .int .i64 0, .int .i64 0, .int .i64 0, .int .i64 1, .int .i64 1, .int .i64 0, .int .i64 1, .int .i64 1, .int .i64 0, .slice (some ⟨w1.heap.size + 1 + 1, 0, none⟩) 1 1] 43) = W := ⟨_, rfl⟩
  obtain ⟨gx, hgx⟩ : ∃ q, q = w1.heap.size + 1 := ⟨_, rfl⟩
  obtain ⟨gl, hgl⟩ : ∃ q, q = w1.heap.size + 1 + 1 := ⟨_, rfl⟩
  obtain ⟨gy, hgy⟩ : ∃ q, q = w1.heap.size + 1 + 1 + 1 := ⟨_, rfl⟩
  have hX2 : Blo w2 gx 43 (ecs FX none 0 0) := by
    have := ((Blo.made (w1.alloc (.cells #[.int .i64 0, .int .i64 1, .int .i64 1, .int .i64 0, .int .i64 1, .int .i64 1, .int .i64 0] 41)) 43 #[.int .i64 0, .int .i64 1, .int .i64 1, .int .i64 2, .int .i64 0, .int .i64 0, .int .i64 0, .int .i64 1, .int .i64 1, .int .i64 0, .int .i64 1, .int .i64 1, .int .i64 0, .slice none 0 0]).alloc (.cells #[.int .i64 0, .int .i64 1] 39)).alloc (.cells #[.int .i64 1, .int .i64 1, .int .i64 2, .int .i64 2, .int .i64 0, .int .i64 0, .int .i64 0, .int .i64 1, .int .i64 1, .int .i64 0, .int .i64 1, .int .i64 1, .int .i64 0, .slice (some ⟨w1.heap.size + 1 + 1, 0, none⟩) 1 1] 43)
    rw [hw2] at this
    rw [hgx, fx_cells]
    simpa using this
  have hD2 : Blo w2 gl 39 #[.int .i64 0, .int .i64 1] := by
    have := (Blo.made ((w1.alloc (.cells #[.int .i64 0, .int .i64 1, .int .i64 1, .int .i64 0, .int .i64 1, .int .i64 1, .int .i64 0] 41)).alloc (.cells #[.int .i64 0, .int .i64 1, .int .i64 1, .int .i64 2, .int .i64 0, .int .i64 0, .int .i64 0, .int .i64 1, .int .i64 1, .int .i64 0, .int .i64 1, .int .i64 1, .int .i64 0, .slice none 0 0] 43)) 39 #[.int .i64 0, .int .i64 1]).alloc (.cells #[.int .i64 1, .int .i64 1, .int .i64 2, .int .i64 2, .int .i64 0, .int .i64 0, .int .i64 0, .int .i64 1, .int .i64 1, .int .i64 0, .int .i64 1, .int .i64 1, .int .i64 0, .slice (some ⟨w1.heap.size + 1 + 1, 0, none⟩) 1 1] 43)
    rw [hw2] at this
    rw [hgl]
    simpa using this
  have hY2 : Blo w2 gy 43 (ecs FY (some ⟨gl, 0, none⟩) 1 1) := by
    have := Blo.made (((w1.alloc (.cells #[.int .i64 0, .int .i64 1, .int .i64 1, .int .i64 0, .int .i64 1, .int .i64 1, .int .i64 0] 41)).alloc (.cells #[.int .i64 0, .int .i64 1, .int .i64 1, .int .i64 2, .int .i64 0, .int .i64 0, .int .i64 0, .int .i64 1, .int .i64 1, .int .i64 0, .int .i64 1, .int .i64 1, .int .i64 0, .slice none 0 0] 43)).alloc (.cells #[.int .i64 0, .int .i64 1] 39)) 43 #[.int .i64 1, .int .i64 1, .int .i64 2, .int .i64 2, .int .i64 0, .int .i64 0, .int .i64 0, .int .i64 1, .int .i64 1, .int .i64 0, .int .i64 1, .int .i64 1, .int .i64 0, .slice (some ⟨w1.heap.size + 1 + 1, 0, none⟩) 1 1]
    rw [hw2] at this
    rw [hgy, hgl, fy_cells]
    simpa using this
  have hb12 : Below w1.heap.size w1 w2 := by
    rw [← hw2]
    exact (((b_alloc2 _ _ _).alloc (b_alloc2 _ _ _).size _).alloc ((b_alloc2 _ _ _).alloc (b_alloc2 _ _ _).size _).size _)
  have hP2 := hP1.new hb12
  have HX0 : Hid (∀ f, AlX w g gx gl gy (fun _ => false) f w2) := Lib.hid (fun f => ⟨by omega, by omega, by omega, hX2, hY2, hD2, none, hP2⟩)
  have HG := Lib.hid hg
  have HW2 := Lib.hid hw2
  have HGX := Lib.hid hgx
  have HGL := Lib.hid hgl
  have HGY := Lib.hid hgy
  clear hg hw2 hgx hgl hgy hP1 hP2 hX2 hD2 hY2 hb12 hb1 hlt
  go_wp2_with fail
  rw [HW2.out, ← HGY.out, ← HGL.out, ← HGX.out]
  refine wp_famY (size := 90) (D := [24, 25, 26, 27, 28, 29, 5, 6]) [1, 2, 4, 5] [] [(24, isV (.pointer (some ⟨g, 0, none⟩))), (25, isV (ev FX none 0 0)), (26, isV (.int .i64 0)), (27, isV (.pointer (some ⟨g, 0, none⟩))), (28, isV (ev FY (some ⟨gl, 0, none⟩) 1 1)), (29, isV (.int .i64 0)), (5, isV (.int .i64 0)), (6, isV (.int .i64 0))] (AlX w g gx gl gy) AlX.up (by kernel_rfl) (by rfl) (by kernel_rfl) (HX0.out _) ?_ ?_
  · simp only [famAllY]
    repeat' apply And.intro
    · rw [if_neg (by decide)]
      intro f W hl
      simp [Oper.looksAt, Op.operands, Call.operands, famAt, famOf, isV] at hl
      simp [famWants, execOp, rho, go_sem, hl, famUpon, famOf, isV, Grows.refl]
    · rw [if_pos (by decide)]
      intro L f W hi hcl hwt hX hl
      simp [Oper.looksAt, Op.operands, Call.operands, famAt, famOf, isV] at hl
      obtain ⟨x0, x1, x2, x3, x4, x5, x6, x7, x8, x9, x10, x11, x12, x13⟩ := set14 hX.2.2.2.1
      simp [famWants, execOp, rho, go_sem, hl, x0, x1, x2, x3, x4, x5, x6, x7, x8, x9, x10, x11, x12, x13, famUpon, famOf, isV]
      exact hX.pass (by decide)
    · rw [if_pos (by decide)]
      intro L f W hi hcl hwt hX hl
      simp [Oper.looksAt, Op.operands, Call.operands, famAt, famOf, isV] at hl
      have h5 : L 5 = false := by
        cases e : L 5 with
        | false => rfl
        | true => rw [hcl 5 2 (by kernel_rfl) e] at hi; cases hi
      obtain ⟨m, hB⟩ := hX.2.2.2.2.2.2
      rw [h5, hi] at hB
      have hc := badd_bok (b := B.new) (fun b => b ≠ g) FX none 0 0 [] hB rfl Rds.nil (fun b hb => hb) (by unfold maxLen; omega)
      simp [famWants, execOp, rho, go_sem, hl, famUpon, famOf, isV]
      refine hc.mono ?_
      rintro e w'' ⟨rfl, ⟨m', hB', _⟩, hK⟩
      refine ⟨_, rfl, ?_, hX.turn hB hK (m' := m') ?_⟩
      · exact congrArg (Value.int .i64) al_e1
      · have e1 : lst1 L 2 5 = false := by simp [lst1, h5]
        have e2 : lst1 L 2 2 = true := by simp [lst1]
        rw [e1, e2]
        exact hB'
    · rw [if_neg (by decide)]
      intro f W hl
      simp [Oper.looksAt, Op.operands, Call.operands, famAt, famOf, isV] at hl
      simp [famWants, execOp, rho, go_sem, hl, famUpon, famOf, isV, Grows.refl]
    · rw [if_pos (by decide)]
      intro L f W hi hcl hwt hX hl
      simp [Oper.looksAt, Op.operands, Call.operands, famAt, famOf, isV] at hl
      obtain ⟨x0, x1, x2, x3, x4, x5, x6, x7, x8, x9, x10, x11, x12, x13⟩ := set14 hX.2.2.2.2.1
      simp [famWants, execOp, rho, go_sem, hl, x0, x1, x2, x3, x4, x5, x6, x7, x8, x9, x10, x11, x12, x13, famUpon, famOf, isV]
      exact hX.pass (by decide)
    · rw [if_pos (by decide)]
      intro L f W hi hcl hwt hX hl
      simp [Oper.looksAt, Op.operands, Call.operands, famAt, famOf, isV] at hl
      have h2 : L 2 = true := hwt 2 (by kernel_rfl)
      obtain ⟨m, hB⟩ := hX.2.2.2.2.2.2
      rw [hi, h2] at hB
      have hrd : Rds W (fun b => b = gl) (some ⟨gl, 0, none⟩) (dvs [(0, 1)]) := by
        intro j u hu
        have h1 := hX.2.2.2.2.2.1.cell j
        have hj : j < 2 := by
          rcases Nat.lt_or_ge j 2 with h | h
          · exact h
          · rw [List.getElem?_eq_none (by simpa [dvs] using h)] at hu; cases hu
        refine ⟨_, rfl, rfl, ?_⟩
        rw [M.addMk, Nat.zero_add, h1]
        rcases j with _ | _ | j
        · simpa [dvs] using hu
        · simpa [dvs] using hu
        · omega
      have hc := badd_bok (b := bk1) (fun b => b = gl) FY (some ⟨gl, 0, none⟩) 1 1 [(0, 1)] hB rfl hrd (fun b hb => by rw [hb]; exact hX.2.1) (by unfold maxLen; omega)
      simp [famWants, execOp, rho, go_sem, hl, famUpon, famOf, isV]
      refine hc.mono ?_
      rintro e w'' ⟨rfl, ⟨m', hB', _⟩, hK⟩
      refine ⟨_, rfl, ?_, hX.turn hB hK (m' := m') ?_⟩
      · exact congrArg (Value.int .i64) al_e2
      · have e1 : lst1 L 5 5 = true := by simp [lst1]
        rw [e1]
        exact hB'
    · rw [if_neg (by decide)]
      intro f W hl
      simp [Oper.looksAt, Op.operands, Call.operands, famAt, famOf, isV] at hl
      simp [famWants, execOp, rho, go_sem, hl, famUpon, famOf, isV, Grows.refl]
    · rw [if_neg (by decide)]
      intro f W hl
      simp [Oper.looksAt, Op.operands, Call.operands, famAt, famOf, isV] at hl
      simp [famWants, execOp, rho, go_sem, hl, famUpon, famOf, isV, Grows.refl]
    · trivial
  · intro L' u W hL hX hu
    have e5 : u 5 = .int .i64 0 := hu 5 (by decide)
    have e6 : u 6 = .int .i64 0 := hu 6 (by decide)
    simp only [fill, Act.put, List.setIfInBounds_toArray, List.set_cons_zero, List.set_cons_succ, e5, e6]
    refine wpList_nil ?_
    obtain ⟨n1, n2, n3, hX3, hY3, hD3, m3, hB3⟩ := hX
    rw [hL 5 (by decide)] at hB3
    have hB3 : Bok w W g m3 bk2 := hB3
    clear hu hL e5 e6 HX0 HW2 HGL HGY
    have hev := bevents_any W hB3.pb
    rw [al_hold] at hev
    go_wp2_with fail
    refine hev.mono ?_
    rintro e w4 ⟨A4, N4, c4, l4, rfl, HN4, hl4, hO4, hb4⟩
    have hN4 : N4 = 1 := by rw [HN4.out, ← plain_len, hl4]; rfl
    subst hN4
    obtain ⟨q, hq⟩ : ∃ q, A4 = some ⟨q, 0, none⟩ := by
      rcases hO4.row.2 with ⟨e, h0⟩ | ⟨q, cap, cur, e, _⟩
      · exact absurd h0 (by rw [← HN4.out]; decide)
      · injection e with e1 e2 e3
        exact ⟨q, e1⟩
    subst hq
    have HDOT : Hid (w4.cell? ⟨q, 0, none⟩ = some (.int .i64 1) ∧ w4.cell? ⟨q, 1, none⟩ = some (.int .i64 1)) := Lib.hid (by
      have hi : 0 < l4.length := by rw [← HN4.out]; decide
      obtain ⟨ad, e, _, _, c0, c1, _⟩ := hO4.erds.cells hi
      injection e with e
      subst e
      have hx : (l4[0].F, l4[0].M) = (FY, [(0, 1)]) := by
        have h1 : (plain l4)[0]? = some (FY, [(0, 1)]) := by rw [hl4]; rfl
        simpa [plain, hi] using h1
      have hF : l4[0].F = FY := (Prod.mk.inj hx).1
      rw [hF] at c0 c1
      have y0 : FY 0 = 1 := rfl
      have y1 : FY 1 = 1 := rfl
      rw [y0] at c0
      rw [y1] at c1
      exact ⟨by simpa [M.addMk] using c0, by simpa [M.addMk] using c1⟩)
    have HQ : Hid (q ≠ g) := Lib.hid (by
      have := (hO4.row.lt q rfl).1
      have := hB3.lt
      omega)
    clear hev hO4 hl4 HN4
    have hX4 := hX3.new hb4
    have hY4 := hY3.new hb4
    have hB4 := hB3.new hb4
    have hadd := badd_bok (b := bk2) (fun b => b ≠ g) FX none 0 0 [] hB4 rfl Rds.nil (fun b hb => hb) (by unfold maxLen; omega)
    obtain ⟨x0, x1, x2, x3, x4, x5, x6, x7, x8, x9, x10, x11, x12, x13⟩ := set14 hX4
    go_wp2_with fail
    refine hadd.mono ?_
    rintro e w5 ⟨rfl, ⟨m5, hB5, _⟩, hK5⟩
    rw [al_b3] at hB5
    rw [al_e3]
    have hX5 := hB4.pb.blo hK5 hX4 n1
    have hY5 := hB4.pb.blo hK5 hY4 n3
    have HDOT5 : Hid (w5.cell? ⟨q, 0, none⟩ = some (.int .i64 1) ∧ w5.cell? ⟨q, 1, none⟩ = some (.int .i64 1)) := Lib.hid (by
      obtain ⟨h1, h2⟩ := HDOT.out
      have hr : Rds w4 (fun b => b = q) (some ⟨q, 0, none⟩) (dvs [(1, 1)]) := by
        intro j u hu
        have hj : j < 2 := by
          rcases Nat.lt_or_ge j 2 with h | h
          · exact h
          · rw [List.getElem?_eq_none (by simpa [dvs] using h)] at hu; cases hu
        refine ⟨_, rfl, rfl, ?_⟩
        rw [M.addMk, Nat.zero_add]
        rcases j with _ | _ | j
        · rw [h1]; simpa [dvs] using hu
        · rw [h2]; simpa [dvs] using hu
        · omega
      obtain ⟨ad, e, _, k0, k1⟩ := (hB4.pb.rds hr hK5 (fun b hb => by rw [hb]; exact HQ.out)).dot (i := 0) (by decide)
      injection e with e
      subst e
      exact ⟨by simpa [M.addMk] using k0, by simpa [M.addMk] using k1⟩)
    clear hadd x0 x1 x2 x3 x4 x5 x6 x7 x8 x9 x10 x11 x12 x13 HDOT hK5 hX4 hY4 hB4 hX3 hY3 hB3 hD3 hb4
    have hst := bstands_any 0 w5 hB5.pb
    go_wp2_with fail
    refine hst.mono ?_
    rintro e w6 ⟨A6, c6, rfl, hD6, hb6⟩
    rw [al_stE, al_stA]
    have hX6 := hX5.new hb6
    have hY6 := hY5.new hb6
    have hB6 := hB5.new hb6
    have HDOT6 : Hid (∀ V, Grows w6 V → V.cell? ⟨q, 0, none⟩ = some (.int .i64 1) ∧ V.cell? ⟨q, 1, none⟩ = some (.int .i64 1)) := Lib.hid (fun V hV => ⟨cell_up (cell_up HDOT5.out.1 hb6) hV, cell_up (cell_up HDOT5.out.2 hb6) hV⟩)
    have HX6 : Hid (∀ V, Grows w6 V → _) := Lib.hid (fun V hV => set14 (hX6.new hV))
    have HY6 : Hid (∀ V, Grows w6 V → V.cell? ⟨gy, 0, none⟩ = some (.int .i64 1) ∧ V.cell? ⟨gy, 1, none⟩ = some (.int .i64 1)) := Lib.hid (fun V hV => by
      have y0 : FY 0 = 1 := rfl
      have y1 : FY 1 = 1 := rfl
      have h0 := (hY6.new hV).cell 0
      have h1 := (hY6.new hV).cell 1
      exact ⟨h0.trans rfl, h1.trans rfl⟩)
    obtain ⟨US, hUS⟩ : ∃ U, U = D.cU bk2.saw := ⟨_, rfl⟩
    obtain ⟨MS, hMS⟩ : ∃ M, M = D.cM bk2.saw := ⟨_, rfl⟩
    obtain ⟨nS, hnS⟩ : ∃ n, MS.length = n := ⟨_, rfl⟩
    have hnl : nS ≤ 1000000 := by rw [← hnS, hMS]; exact Nat.le_trans (D.cM_len _) (by omega)
    have HSE : Hid (∀ V, Grows w6 V → Calls Try.prog 19 #[.pointer (some ⟨g, 0, none⟩)] V (CopyPost US MS V)) := Lib.hid (fun V hV => by rw [hUS, hMS]; exact bseen_any V (hB6.new hV).pb)
    have HCN : Hid (∀ V A c, Copy V w6.heap.size A c MS → Calls Try.prog 39 #[sv US A nS c] V fun e w' => e = .returned (.int .i64 2) ∧ Below V.heap.size V w') := Lib.hid (fun V A c hC => by
      have := count_any _ US A nS c MS V hnS hC.rds hnl
      rw [hUS, hMS, al_cnt] at this
      rw [hUS]
      exact this)
    have HCL : Hid (∀ V, Grows w6 V → Calls Try.prog 21 #[.pointer (some ⟨g, 0, none⟩)] V fun e w' => e = .returned (.int .i64 2) ∧ w' = V) := Lib.hid (fun V hV => by
      have := bclock_any V (hB6.new hV).pb
      rw [al_time] at this
      exact this)
    have HNI : Hid (∀ V, Calls Try.prog 13 #[.pointer none, ev FX none 0 0] V fun e w' => e = .returned (.int .i64 1) ∧ Below V.heap.size V w') := Lib.hid (fun V => badd_nil FX none 0 0 V)
    have hb06 := hB6.bl
    have HNS := Lib.hid hnS
    clear hst hUS hMS hnS hX5 hY5 hB5 hX6 hY6 hB6 hD6
    go_wp2_with fail
    refine wp_fam (n := 51) (size := 90) (D := [40, 41, 42, 43, 44, 45, 46, 47, 48, 49, 50, 51, 52, 53, 54, 55, 56, 57, 58, 59, 60, 61, 62, 63, 64, 65, 66, 67, 68, 69, 70, 71, 72, 73, 74, 75, 76, 77, 78, 79, 80, 81, 82, 83, 84, 85, 86, 87, 88, 89, 0]) [(40, isV (.int .i64 0)), (41, isV (.bool true)), (42, isV (.bool true)), (43, isV (.int .i64 0)), (44, isV (.bool true)), (45, isV (.bool true)), (46, isV (.bool true)), (47, isV (.int .i64 9)), (48, isV (.bool true)), (49, isV (.bool true)), (50, isV (.bool true)), (51, isV (.slice (some ⟨q, 0, none⟩) 1 c4)), (52, isV (.int .i64 1)), (53, isV (.bool true)), (54, isV (.bool true)), (55, isV (.bool true)), (56, isV (.slice (some ⟨q, 0, none⟩) 1 c4)), (57, isV (.pointer (some ⟨q, 0, none⟩))), (58, isV (.pointer (some ⟨q, 0, none⟩))), (59, isV (.agg #[.int .i64 1, .int .i64 1])), (60, isV (.pointer (some ⟨gy, 0, none⟩))), (61, isV (.agg #[.int .i64 1, .int .i64 1])), (62, isV (.bool true)), (63, isV (.bool true)), (64, isV (.bool true)), (65, isV (.pointer (some ⟨g, 0, none⟩))), (66, seenV w6.heap.size nS US MS), (67, isV (.int .i64 2)), (68, isV (.bool true)), (69, isV (.bool true)), (70, isV (.bool true)), (71, isV (.int .i64 0)), (72, isV (.bool true)), (73, isV (.bool true)), (74, isV (.bool true)), (75, isV (.slice A6 2 c6)), (76, isV (.int .i64 2)), (77, isV (.bool true)), (78, isV (.bool true)), (79, isV (.bool true)), (80, isV (.pointer (some ⟨g, 0, none⟩))), (81, isV (.int .i64 2)), (82, isV (.bool true)), (83, isV (.bool true)), (84, isV (.bool true)), (85, isV (.pointer none)), (86, isV (ev FX none 0 0)), (87, isV (.int .i64 1)), (88, isV (.bool true)), (89, isV (.bool true)), (0, isV (.bool true))] (by kernel_rfl) (by rfl) (by kernel_rfl) ?_ ?_
    · simp only [List.take_succ_cons, List.take_zero, famAll]
      repeat' apply And.intro
      · intro f V hg hl
        simp [Oper.looksAt, Op.operands, Call.operands, famAt, famOf, isV] at hl
        simp [famWants, boolIs_bool, boolIs_undef, execOp, rho, go_sem, hl, famUpon, famOf, isV, Grows.refl]
      · intro f V hg hl
        simp [Oper.looksAt, Op.operands, Call.operands, famAt, famOf, isV] at hl
        simp [famWants, boolIs_bool, boolIs_undef, execOp, rho, go_sem, hl, famUpon, famOf, isV, Grows.refl]
      · intro f V hg hl
        simp [Oper.looksAt, Op.operands, Call.operands, famAt, famOf, isV] at hl
        simp [famWants, boolIs_bool, boolIs_undef, execOp, rho, go_sem, hl, famUpon, famOf, isV, Grows.refl]
      · intro f V hg hl
        simp [Oper.looksAt, Op.operands, Call.operands, famAt, famOf, isV] at hl
        simp [famWants, boolIs_bool, boolIs_undef, execOp, rho, go_sem, hl, famUpon, famOf, isV, Grows.refl]
      · intro f V hg hl
        simp [Oper.looksAt, Op.operands, Call.operands, famAt, famOf, isV] at hl
        simp [famWants, boolIs_bool, boolIs_undef, execOp, rho, go_sem, hl, famUpon, famOf, isV, Grows.refl]
      · intro f V hg hl
        simp [Oper.looksAt, Op.operands, Call.operands, famAt, famOf, isV] at hl
        simp [famWants, boolIs_bool, boolIs_undef, execOp, rho, go_sem, hl, famUpon, famOf, isV, Grows.refl]
      · intro f V hg hl
        simp [Oper.looksAt, Op.operands, Call.operands, famAt, famOf, isV] at hl
        simp [famWants, boolIs_bool, boolIs_undef, execOp, rho, go_sem, hl, famUpon, famOf, isV, Grows.refl]
      · intro f V hg hl
        simp [Oper.looksAt, Op.operands, Call.operands, famAt, famOf, isV] at hl
        simp [famWants, boolIs_bool, boolIs_undef, execOp, rho, go_sem, hl, famUpon, famOf, isV, Grows.refl]
      · intro f V hg hl
        simp [Oper.looksAt, Op.operands, Call.operands, famAt, famOf, isV] at hl
        simp [famWants, boolIs_bool, boolIs_undef, execOp, rho, go_sem, hl, famUpon, famOf, isV, Grows.refl]
      · intro f V hg hl
        simp [Oper.looksAt, Op.operands, Call.operands, famAt, famOf, isV] at hl
        simp [famWants, boolIs_bool, boolIs_undef, execOp, rho, go_sem, hl, famUpon, famOf, isV, Grows.refl]
      · intro f V hg hl
        simp [Oper.looksAt, Op.operands, Call.operands, famAt, famOf, isV] at hl
        simp [famWants, boolIs_bool, boolIs_undef, execOp, rho, go_sem, hl, famUpon, famOf, isV, Grows.refl]
      · intro f V hg hl
        simp [Oper.looksAt, Op.operands, Call.operands, famAt, famOf, isV] at hl
        simp [famWants, boolIs_bool, boolIs_undef, execOp, rho, go_sem, hl, famUpon, famOf, isV, Grows.refl]
      · intro f V hg hl
        simp [Oper.looksAt, Op.operands, Call.operands, famAt, famOf, isV] at hl
        simp [famWants, boolIs_bool, boolIs_undef, execOp, rho, go_sem, hl, famUpon, famOf, isV, Grows.refl]
      · intro f V hg hl
        simp [Oper.looksAt, Op.operands, Call.operands, famAt, famOf, isV] at hl
        simp [famWants, boolIs_bool, boolIs_undef, execOp, rho, go_sem, hl, famUpon, famOf, isV, Grows.refl]
      · intro f V hg hl
        simp [Oper.looksAt, Op.operands, Call.operands, famAt, famOf, isV] at hl
        simp [famWants, boolIs_bool, boolIs_undef, execOp, rho, go_sem, hl, famUpon, famOf, isV, Grows.refl]
      · intro f V hg hl
        simp [Oper.looksAt, Op.operands, Call.operands, famAt, famOf, isV] at hl
        simp [famWants, boolIs_bool, boolIs_undef, execOp, rho, go_sem, hl, famUpon, famOf, isV, Grows.refl]
      · intro f V hg hl
        simp [Oper.looksAt, Op.operands, Call.operands, famAt, famOf, isV] at hl
        simp [famWants, boolIs_bool, boolIs_undef, execOp, rho, go_sem, hl, famUpon, famOf, isV, Grows.refl]
      · intro f V hg hl
        simp [Oper.looksAt, Op.operands, Call.operands, famAt, famOf, isV] at hl
        simp [famWants, boolIs_bool, boolIs_undef, execOp, rho, go_sem, hl, M.addMk, famUpon, famOf, isV, Grows.refl]
      · intro f V hg hl
        simp [Oper.looksAt, Op.operands, Call.operands, famAt, famOf, isV] at hl
        simp [famWants, boolIs_bool, boolIs_undef, execOp, rho, go_sem, hl, famUpon, famOf, isV, Grows.refl]
      · intro f V hg hl
        obtain ⟨k0, k1⟩ := HDOT6.out V hg
        simp [Oper.looksAt, Op.operands, Call.operands, famAt, famOf, isV] at hl
        simp [famWants, boolIs_bool, boolIs_undef, execOp, rho, go_sem, hl, k0, k1, famUpon, famOf, isV, Grows.refl]
      · intro f V hg hl
        simp [Oper.looksAt, Op.operands, Call.operands, famAt, famOf, isV] at hl
        simp [famWants, boolIs_bool, boolIs_undef, execOp, rho, go_sem, hl, famUpon, famOf, isV, Grows.refl]
      · intro f V hg hl
        obtain ⟨k0, k1⟩ := HY6.out V hg
        simp [Oper.looksAt, Op.operands, Call.operands, famAt, famOf, isV] at hl
        simp [famWants, boolIs_bool, boolIs_undef, execOp, rho, go_sem, hl, k0, k1, famUpon, famOf, isV, Grows.refl]
      · intro f V hg hl
        simp [Oper.looksAt, Op.operands, Call.operands, famAt, famOf, isV] at hl
        simp [famWants, boolIs_bool, boolIs_undef, execOp, rho, go_sem, hl, eqIn_dot, famUpon, famOf, isV, Grows.refl]
      · intro f V hg hl
        simp [Oper.looksAt, Op.operands, Call.operands, famAt, famOf, isV] at hl
        simp [famWants, boolIs_bool, boolIs_undef, execOp, rho, go_sem, hl, famUpon, famOf, isV, Grows.refl]
      · intro f V hg hl
        simp [Oper.looksAt, Op.operands, Call.operands, famAt, famOf, isV] at hl
        simp [famWants, boolIs_bool, boolIs_undef, execOp, rho, go_sem, hl, famUpon, famOf, isV, Grows.refl]
      · intro f V hg hl
        simp [Oper.looksAt, Op.operands, Call.operands, famAt, famOf, isV] at hl
        simp [famWants, boolIs_bool, boolIs_undef, execOp, rho, go_sem, hl, famUpon, famOf, isV, Grows.refl]
      · intro f V hg hl
        simp [Oper.looksAt, Op.operands, Call.operands, famAt, famOf, isV] at hl
        simp [famWants, boolIs_bool, boolIs_undef, execOp, rho, go_sem, hl, famUpon, famOf, isV, Grows.refl]
        refine (HSE.out V hg).mono ?_
        rintro e w'' ⟨A', c', rfl, hc, hb⟩
        exact ⟨_, rfl, hb, A', c', by rw [HNS.out], hc.mono (Below.size hg)⟩
      · intro f V hg hl
        simp [Oper.looksAt, Op.operands, Call.operands, famAt, famOf, isV] at hl
        first | (obtain ⟨e64, A', c', e66, hc⟩ := hl; have hl := e64) | (obtain ⟨⟨A', c', e66, hc⟩, e64⟩ := hl; have hl := e64)
        simp [famWants, boolIs_bool, boolIs_undef, execOp, rho, go_sem, hl, e66, famUpon, famOf, isV, Grows.refl]
        refine (HCN.out V A' c' hc).mono ?_
        rintro e w'' ⟨rfl, hb⟩
        exact ⟨rfl, hb⟩
      · intro f V hg hl
        simp [Oper.looksAt, Op.operands, Call.operands, famAt, famOf, isV] at hl
        simp [famWants, boolIs_bool, boolIs_undef, execOp, rho, go_sem, hl, famUpon, famOf, isV, Grows.refl]
      · intro f V hg hl
        simp [Oper.looksAt, Op.operands, Call.operands, famAt, famOf, isV] at hl
        simp [famWants, boolIs_bool, boolIs_undef, execOp, rho, go_sem, hl, famUpon, famOf, isV, Grows.refl]
      · intro f V hg hl
        simp [Oper.looksAt, Op.operands, Call.operands, famAt, famOf, isV] at hl
        simp [famWants, boolIs_bool, boolIs_undef, execOp, rho, go_sem, hl, famUpon, famOf, isV, Grows.refl]
      · intro f V hg hl
        simp [Oper.looksAt, Op.operands, Call.operands, famAt, famOf, isV] at hl
        simp [famWants, boolIs_bool, boolIs_undef, execOp, rho, go_sem, hl, famUpon, famOf, isV, Grows.refl]
      · intro f V hg hl
        simp [Oper.looksAt, Op.operands, Call.operands, famAt, famOf, isV] at hl
        simp [famWants, boolIs_bool, boolIs_undef, execOp, rho, go_sem, hl, famUpon, famOf, isV, Grows.refl]
      · intro f V hg hl
        simp [Oper.looksAt, Op.operands, Call.operands, famAt, famOf, isV] at hl
        simp [famWants, boolIs_bool, boolIs_undef, execOp, rho, go_sem, hl, famUpon, famOf, isV, Grows.refl]
      · intro f V hg hl
        simp [Oper.looksAt, Op.operands, Call.operands, famAt, famOf, isV] at hl
        simp [famWants, boolIs_bool, boolIs_undef, execOp, rho, go_sem, hl, famUpon, famOf, isV, Grows.refl]
      · intro f V hg hl
        simp [Oper.looksAt, Op.operands, Call.operands, famAt, famOf, isV] at hl
        simp [famWants, boolIs_bool, boolIs_undef, execOp, rho, go_sem, hl, famUpon, famOf, isV, Grows.refl]
      · intro f V hg hl
        simp [Oper.looksAt, Op.operands, Call.operands, famAt, famOf, isV] at hl
        simp [famWants, boolIs_bool, boolIs_undef, execOp, rho, go_sem, hl, famUpon, famOf, isV, Grows.refl]
      · intro f V hg hl
        simp [Oper.looksAt, Op.operands, Call.operands, famAt, famOf, isV] at hl
        simp [famWants, boolIs_bool, boolIs_undef, execOp, rho, go_sem, hl, famUpon, famOf, isV, Grows.refl]
      · intro f V hg hl
        simp [Oper.looksAt, Op.operands, Call.operands, famAt, famOf, isV] at hl
        simp [famWants, boolIs_bool, boolIs_undef, execOp, rho, go_sem, hl, famUpon, famOf, isV, Grows.refl]
      · intro f V hg hl
        simp [Oper.looksAt, Op.operands, Call.operands, famAt, famOf, isV] at hl
        simp [famWants, boolIs_bool, boolIs_undef, execOp, rho, go_sem, hl, famUpon, famOf, isV, Grows.refl]
      · intro f V hg hl
        simp [Oper.looksAt, Op.operands, Call.operands, famAt, famOf, isV] at hl
        simp [famWants, boolIs_bool, boolIs_undef, execOp, rho, go_sem, hl, famUpon, famOf, isV, Grows.refl]
      · intro f V hg hl
        simp [Oper.looksAt, Op.operands, Call.operands, famAt, famOf, isV] at hl
        simp [famWants, boolIs_bool, boolIs_undef, execOp, rho, go_sem, hl, famUpon, famOf, isV, Grows.refl]
        refine (HCL.out V hg).mono ?_
        rintro e w'' ⟨rfl, rfl⟩
        exact ⟨rfl, Below.refl _ _⟩
      · intro f V hg hl
        simp [Oper.looksAt, Op.operands, Call.operands, famAt, famOf, isV] at hl
        simp [famWants, boolIs_bool, boolIs_undef, execOp, rho, go_sem, hl, famUpon, famOf, isV, Grows.refl]
      · intro f V hg hl
        simp [Oper.looksAt, Op.operands, Call.operands, famAt, famOf, isV] at hl
        simp [famWants, boolIs_bool, boolIs_undef, execOp, rho, go_sem, hl, famUpon, famOf, isV, Grows.refl]
      · intro f V hg hl
        simp [Oper.looksAt, Op.operands, Call.operands, famAt, famOf, isV] at hl
        simp [famWants, boolIs_bool, boolIs_undef, execOp, rho, go_sem, hl, famUpon, famOf, isV, Grows.refl]
      · intro f V hg hl
        simp [Oper.looksAt, Op.operands, Call.operands, famAt, famOf, isV] at hl
        simp [famWants, boolIs_bool, boolIs_undef, execOp, rho, go_sem, hl, famUpon, famOf, isV, Grows.refl]
      · intro f V hg hl
        obtain ⟨x0, x1, x2, x3, x4, x5, x6, x7, x8, x9, x10, x11, x12, x13⟩ := HX6.out V hg
        simp [Oper.looksAt, Op.operands, Call.operands, famAt, famOf, isV] at hl
        simp [famWants, boolIs_bool, boolIs_undef, execOp, rho, go_sem, hl, x0, x1, x2, x3, x4, x5, x6, x7, x8, x9, x10, x11, x12, x13, famUpon, famOf, isV, Grows.refl]
      · intro f V hg hl
        simp [Oper.looksAt, Op.operands, Call.operands, famAt, famOf, isV] at hl
        simp [famWants, boolIs_bool, boolIs_undef, execOp, rho, go_sem, hl, famUpon, famOf, isV, Grows.refl]
        refine (HNI.out V).mono ?_
        rintro e w'' ⟨rfl, hb⟩
        exact ⟨rfl, hb⟩
      · intro f V hg hl
        simp [Oper.looksAt, Op.operands, Call.operands, famAt, famOf, isV] at hl
        simp [famWants, boolIs_bool, boolIs_undef, execOp, rho, go_sem, hl, famUpon, famOf, isV, Grows.refl]
      · intro f V hg hl
        simp [Oper.looksAt, Op.operands, Call.operands, famAt, famOf, isV] at hl
        simp [famWants, boolIs_bool, boolIs_undef, execOp, rho, go_sem, hl, famUpon, famOf, isV, Grows.refl]
      · intro f V hg hl
        simp [Oper.looksAt, Op.operands, Call.operands, famAt, famOf, isV] at hl
        simp [famWants, boolIs_bool, boolIs_undef, execOp, rho, go_sem, hl, famUpon, famOf, isV, Grows.refl]
      · trivial
    · intro u V hg hu
      have e0 : u 0 = .bool true := hu 0 (by decide)
      simp only [List.drop_succ_cons, List.drop_zero, fill, Act.put, List.setIfInBounds_toArray, List.set_cons_zero, List.set_cons_succ, e0]
      refine wpList_nil ?_
      clear hu
      go_wp2
      go_ret
      exact ⟨rfl, below_new hb06 hg⟩
end Go.Proofs.Ytedcgfcmhaeldaa
