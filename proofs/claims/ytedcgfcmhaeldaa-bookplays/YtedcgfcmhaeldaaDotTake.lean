/- Layer 6: what closes an open set, dot by dot. -/
import Derived.Test.YtedcgfcmhaeldaaDotRow
import Derived.Test.YtedcgfcmhaeldaaFam
import Derived.IntWalk
import Derived.Deep.RegionLaw
namespace Go.Proofs.Ytedcgfcmhaeldaa
set_option linter.unusedVariables false
set_option linter.unusedSimpArgs false
open Go.ChangeShapes Go.WideShapes Go.ChangeAt Go.RowKit

/-- A set that is being closed, at block g; what it writes lies from B on. -/
def Clo (w : World) (B g : Nat) (U : Nat → Int) (M : List D.Dot) : Prop := B ≤ g ∧ ∃ A c, Blo w g 125 (scs U A M.length c) ∧ DRow w B (.slice A M.length c) M
theorem Clo.keep {w w' : World} {B g : Nat} {U : Nat → Int} {M : List D.Dot} (h : Clo w B g U M) (hk : ∀ b, B ≤ b → b < w.heap.size → w'.heap[b]? = w.heap[b]?) : Clo w' B g U M := by
  obtain ⟨h1, A, c, h2, h3⟩ := h
  exact ⟨h1, A, c, h2.keep (hk g h1 h2.lt), h3.keep fun b hb hl => hk b (h3.lt b hb).1 hl⟩
theorem Clo.new {w w' : World} {B g : Nat} {U : Nat → Int} {M : List D.Dot} (h : Clo w B g U M) (hb : Below w.heap.size w w') : Clo w' B g U M := h.keep fun b _ hl => hb.block b hl
theorem Clo.lt {w : World} {B g : Nat} {U : Nat → Int} {M : List D.Dot} (h : Clo w B g U M) : g < w.heap.size := by obtain ⟨_, A, c, h2, _⟩ := h; exact h2.lt
/-- One dot more, in order. -/
def tk (s : (Nat → Int) × List D.Dot) (d : D.Dot) : (Nat → Int) × List D.Dot := if d.2 = s.1 d.1.toNat + 1 then (upd s.1 d.1.toNat d.2, s.2) else (s.1, s.2 ++ [d])

set_option maxHeartbeats 2000000 in
theorem ctake_up {B g : Nat} {U : Nat → Int} {M : List D.Dot} (n s : Nat) (w : World) (h : Clo w B g U M) (hn : n < 8) (h2 : s ≤ 96) (hu : (s : Int) = U n + 1) :
    Calls Try.prog 78 #[.pointer (some ⟨g, 0, none⟩), .agg #[.int .i64 n, .int .i64 s]] w fun e w' => e = .returned (.tuple #[]) ∧ Clo w' B g (upd U n s) M ∧ Below B w w' := by
  have hlt := h.lt
  obtain ⟨hBg, A, c, hC, hR⟩ := h
  obtain ⟨w1, hw1⟩ : ∃ W, w.alloc (.cells #[.int .i64 n, .int .i64 s] 39) = W := ⟨_, rfl⟩
  have hb1 : Below w.heap.size w w1 := by rw [← hw1]; exact b_alloc _ _
  have hD : Blo w1 w.heap.size 39 #[.int .i64 n, .int .i64 s] := by rw [← hw1]; exact Blo.made _ _ _
  have hC1 := hC.new hb1
  have hR1 := hR.new hb1
  have k0 : w1.cell? ⟨w.heap.size, 0, none⟩ = some (.int .i64 n) := by simpa using hD.cell 0
  have k1 : w1.cell? ⟨w.heap.size, 1, none⟩ = some (.int .i64 s) := by simpa using hD.cell 1
  have ku : w1.cell? ⟨g, n, none⟩ = some (.int .i64 (U n)) := (hC1.cell n).trans (scs_at U _ _ _ hn)
  have HW := Lib.hid hw1
  have HU := Lib.hid hu
  have nI : (n : Int) < 8 := by omega
  have q1 : IntKind.i64.wrap (U n + 1) = U n + 1 := IntWalk.i64_in _ (by omega)
  have q2 : ((s : Int) == U n + 1) = true := by simpa using hu
  clear hw1 hu
  go_enter Try.func78, Try.ntmps78
  go_wp2_with fail
  rw [HW.out]
  go_quiet (fail)
  obtain ⟨w2, hd, hw2⟩ : ∃ W, Drew w1 W ∧ w1.drewN nq = W := ⟨_, ⟨nq, rfl⟩, rfl⟩
  rw [hw2]
  have hC2 := hd.blo hC1
  have hD2 := hd.blo hD
  have hR2 : DRow w2 B (.slice A M.length c) M := hR1.new (hd.below _)
  have hb2 : Below B w w2 := (hb1.mono (by omega)).trans (hd.below _)
  have K0 : ∀ W, Grows w2 W → W.cell? ⟨w.heap.size, 0, none⟩ = some (.int .i64 n) := fun W hW => by simpa using (hD2.new hW).cell 0
  have K1 : ∀ W, Grows w2 W → W.cell? ⟨w.heap.size, 1, none⟩ = some (.int .i64 s) := fun W hW => by simpa using (hD2.new hW).cell 1
  clear k0 k1 ku q1 hw2
  go_wp2_with fail
  refine wp_fam (n := 9) (size := 37) (D := [16, 17, 18, 19, 20, 21, 22, 23, 24]) [(16, isV (.pointer (some ⟨g, 0, none⟩))), (17, isV (.pointer (some ⟨w.heap.size, 0, none⟩))), (18, isV (.int .i64 n)), (19, isV (.pointer (some ⟨w.heap.size, 1, none⟩))), (20, isV (.int .i64 s)), (21, isV (.pointer (some ⟨g, 0, none⟩))), (22, isV (.pointer (some ⟨g, 0, none⟩))), (23, isV (.pointer (some ⟨g, 0, none⟩))), (24, isV (.pointer (some ⟨g, n, none⟩)))] (by kernel_rfl) (by rfl) (by kernel_rfl) ?_ ?_
  · simp only [List.take_succ_cons, List.take_zero, famAll]
    repeat' apply And.intro
    all_goals first
      | trivial
      | (intro f V hg hl
         have k0 := K0 V hg
         have k1 := K1 V hg
         simp [Oper.looksAt, Op.operands, Call.operands, famAt, famOf, isV] at hl
         simp [famWants, boolIs_bool, execOp, rho, go_sem, hl, k0, k1, nI, famUpon, famOf, isV, Grows.refl])
  · intro u V hg hu
    have h20 : u 20 = .int .i64 s := hu 20 (by decide)
    have h24 : u 24 = .pointer (some ⟨g, n, none⟩) := hu 24 (by decide)
    simp only [List.drop_succ_cons, List.drop_zero, fill, Act.put, List.setIfInBounds_toArray, List.set_cons_zero, List.set_cons_succ, h20, h24]
    have hC3 := hC2.new hg
    have hR3 := hR2.new hg
    have ku : V.cell? ⟨g, n, none⟩ = some (.int .i64 (U n)) := (hC3.cell n).trans (scs_at U _ _ _ hn)
    have fu := hC3.frozen n
    have hne := hR3.blo hC3 (by decide)
    have hb3 : Below B w V := hb2.trans (Below.mono hg (by have := hb2.size; omega))
    clear hu h20 h24 K0 K1
    go_wp2
    refine bodyPost_ret (results_none rfl _ _ _) rfl ?_
    refine ⟨rfl, ⟨hBg, A, c, ?_, ?_⟩, hb3.setCell (by omega) _⟩
    · have := hC3.put n (.int .i64 s)
      rw [scs_set U _ _ _ hn] at this
      exact this
    · exact hR3.keep fun b hb _ => Below.heap_setCell _ _ _ _ (fun e => hne (by rw [hb, e]))

set_option maxHeartbeats 2000000 in
theorem ctake_more {B g : Nat} {U : Nat → Int} {M : List D.Dot} (n s : Nat) (w : World) (h : Clo w B g U M) (hn : n < 8) (h2 : s ≤ 96) (hU : 0 ≤ U n ∧ U n ≤ 96) (hu : ¬ (s : Int) = U n + 1) (hl : M.length ≤ 1000) :
    Calls Try.prog 78 #[.pointer (some ⟨g, 0, none⟩), .agg #[.int .i64 n, .int .i64 s]] w fun e w' => e = .returned (.tuple #[]) ∧ Clo w' B g U (M ++ [((n : Int), (s : Int))]) ∧ Below B w w' := by
  have hlt := h.lt
  obtain ⟨hBg, A, c, hC, hR⟩ := h
  obtain ⟨w1, hw1⟩ : ∃ W, w.alloc (.cells #[.int .i64 n, .int .i64 s] 39) = W := ⟨_, rfl⟩
  have hb1 : Below w.heap.size w w1 := by rw [← hw1]; exact b_alloc _ _
  have hD : Blo w1 w.heap.size 39 #[.int .i64 n, .int .i64 s] := by rw [← hw1]; exact Blo.made _ _ _
  have hC1 := hC.new hb1
  have hR1 := hR.new hb1
  have k0 : w1.cell? ⟨w.heap.size, 0, none⟩ = some (.int .i64 n) := by simpa using hD.cell 0
  have k1 : w1.cell? ⟨w.heap.size, 1, none⟩ = some (.int .i64 s) := by simpa using hD.cell 1
  have ku : w1.cell? ⟨g, n, none⟩ = some (.int .i64 (U n)) := (hC1.cell n).trans (scs_at U _ _ _ hn)
  have HW := Lib.hid hw1
  have nI : (n : Int) < 8 := by omega
  have q1 : IntKind.i64.wrap (U n + 1) = U n + 1 := IntWalk.i64_in _ (by omega)
  have q2 : ((s : Int) == U n + 1) = false := by simpa using hu
  clear hw1 hu
  go_enter Try.func78, Try.ntmps78
  go_wp2_with fail
  rw [HW.out]
  go_quiet (fail)
  obtain ⟨w2, hd, hw2⟩ : ∃ W, Drew w1 W ∧ w1.drewN nq = W := ⟨_, ⟨nq, rfl⟩, rfl⟩
  rw [hw2]
  have hC2 := hd.blo hC1
  have hD2 := hd.blo hD
  have hR2 : DRow w2 B (.slice A M.length c) M := hR1.new (hd.below _)
  have hb2 : Below B w w2 := (hb1.mono (by omega)).trans (hd.below _)
  have k0 : w2.cell? ⟨w.heap.size, 0, none⟩ = some (.int .i64 n) := by simpa using hD2.cell 0
  have k1 : w2.cell? ⟨w.heap.size, 1, none⟩ = some (.int .i64 s) := by simpa using hD2.cell 1
  have k8 : w2.cell? ⟨g, 8, none⟩ = some (.slice A M.length c) := by simpa using hC2.cell 8
  have hne := hR2.blo hC2 (by decide)
  have hs2 := hb2.size
  have hlt2 := hC2.lt
  have AFT : ∀ (W V : World) (v' : Value), Below w2.heap.size w2 W → DRow V B v' (M ++ [((n : Int), (s : Int))]) → W.grownBy V (Value.slice A M.length c).ownBlock →
      ∃ A' N' c', v' = .slice A' N' c' ∧ Hid (N' = (M ++ [((n : Int), (s : Int))]).length) ∧ V.cell? ⟨g, 8, none⟩ = some (.slice A M.length c) ∧ V.frozen? ⟨g, 8, none⟩ = false ∧ Clo (V.setCell ⟨g, 8, none⟩ (.slice A' N' c')) B g U (M ++ [((n : Int), (s : Int))]) ∧ Below B w (V.setCell ⟨g, 8, none⟩ (.slice A' N' c')) := by
    intro W V v' hW hown hg
    obtain ⟨A', c', rfl, _⟩ := hown.form
    have hCV : Blo V g 125 (scs U A M.length c) := (hC2.new hW).grown hg (fun e => hne e.symm)
    have hneV := hown.blo hCV (by decide)
    have hbV : Below B w V := (hb2.trans (hW.mono (by omega))).grown hg (by have := hW.size; omega) (fun k hk => (hR2.lt k hk).1)
    refine ⟨A', _, c', rfl, Lib.hid rfl, by simpa using hCV.cell 8, hCV.frozen 8, ⟨hBg, A', c', ?_, ?_⟩, hbV.setCell hBg _⟩
    · have := hCV.put 8 (.slice A' (M ++ [((n : Int), (s : Int))]).length c')
      rwa [scs_more] at this
    · exact hown.keep fun b hb _ => Below.heap_setCell _ _ _ _ (fun e => hneV (by rw [hb, e]))
  have HAFT := Lib.hid AFT
  clear AFT ku q1 hw2
  go_wp2_with fail
  go_region_law? (first
    | (refine step_dapp (by rfl) _ _ (by rfl) B (.slice A M.length c) M (by rfl) (hR2.new (by first | exact below_drewN (b_alloc _ _) 1 | exact (below_drewN (Below.refl _ _) 1).alloc (Nat.le_refl _) _)) (fun _ => True) _ 1 1 [((n : Int), (s : Int))] (by rfl) rfl (blo_rds (t := 39) (by first | exact Blo.made _ _ _ | exact (Blo.made _ _ _).drewN 1)) (by simp; omega) (by simp; omega) ?_
       intro v' V hown hg hv'
       obtain ⟨A', N', c', rfl, HN', cg, fg, hClo, hBel⟩ := HAFT.out _ V v' (by first | exact below_drewN (b_alloc _ _) 1 | exact (below_drewN (Below.refl _ _) 1).alloc (Nat.le_refl _) _) hown hg
       clear hown hg hv'))
  all_goals
    go_wp2
    go_end0
    exact ⟨rfl, hClo, hBel⟩
end Go.Proofs.Ytedcgfcmhaeldaa
