/- Layer 6: lay, list. -/
import Derived.Test.YtedcgfcmhaeldaaDotClosed
namespace Go.Proofs.Ytedcgfcmhaeldaa
set_option linter.unusedVariables false
set_option linter.unusedSimpArgs false
open Go.ChangeShapes Go.WideShapes Go.ChangeAt Go.RowKit

theorem says_none : Says (fun _ => 0) (fun _ => false) := ⟨fun _ _ => by show 0 < W64; decide, fun _ _ _ _ _ => by simp⟩
/-- Sixteen words, none marked. -/
abbrev wcs0 : Array Value := #[.int .u64 0, .int .u64 0, .int .u64 0, .int .u64 0, .int .u64 0, .int .u64 0, .int .u64 0, .int .u64 0, .int .u64 0, .int .u64 0, .int .u64 0, .int .u64 0, .int .u64 0, .int .u64 0, .int .u64 0, .int .u64 0]
theorem wcs_zero : wcs (fun _ => 0) = wcs0 := rfl
/-- What lay leaves. -/
def LayP (U : Nat → Int) (M : List D.Dot) (w : World) (e : Ending) (w' : World) : Prop := ∃ g, e = .returned (.pointer (some ⟨g, 0, none⟩)) ∧ Opn w' g (D.has U M) ∧ w.heap.size ≤ g ∧ Below w.heap.size w w'

set_option maxHeartbeats 2000000 in
theorem lay_any (S : Nat → Prop) (U : Nat → Int) (A : Option Addr) (n c : Nat) (M : List D.Dot) (w : World) (hn : M.length = n) (hr : Rds w S A (dvs M)) (hl : n ≤ 1000000) :
    Calls Try.prog 57 #[sv U A n c] w (LayP U M w) := by
  have HN := Lib.hid hn
  clear hn
  obtain ⟨w2, hw2⟩ : ∃ W, (w.alloc (.cells (scs U A n c) 53)).alloc (.cells wcs0 117) = W := ⟨_, rfl⟩
  have hb2 : Below w.heap.size w w2 := by rw [← hw2]; exact b_alloc2 _ _ _
  have hz2 : w2.heap.size = w.heap.size + 2 := by rw [← hw2]; simp
  have hSt : Blo w2 w.heap.size 53 (scs U A n c) := by rw [← hw2]; exact (Blo.made _ _ _).alloc _
  have hO : Blo w2 (w.heap.size + 1) 117 (wcs fun _ => 0) := by
    rw [← hw2, wcs_zero]
    have := Blo.made (w.alloc (.cells (scs U A n c) 53)) 117 wcs0
    simpa using this
  have hrw : Rds w2 (fun b => b ≠ w.heap.size + 1) A (dvs M) := (hr.old.new hb2).mono fun b hb => by have := hb.2; omega
  have hO2 : Opn w2 (w.heap.size + 1) (fun _ => false) := ⟨_, hO, says_none⟩
  have hov := over_any (K := 64) (.inl ⟨rfl, rfl⟩) U A n c M w2 HN.out hrw hl hO2
  have z0 : w2.cell? ⟨w.heap.size, 0, none⟩ = some (.int .i64 (U 0)) := by simpa using hSt.cell 0
  have z1 : w2.cell? ⟨w.heap.size, 1, none⟩ = some (.int .i64 (U 1)) := by simpa using hSt.cell 1
  have z2 : w2.cell? ⟨w.heap.size, 2, none⟩ = some (.int .i64 (U 2)) := by simpa using hSt.cell 2
  have z3 : w2.cell? ⟨w.heap.size, 3, none⟩ = some (.int .i64 (U 3)) := by simpa using hSt.cell 3
  have z4 : w2.cell? ⟨w.heap.size, 4, none⟩ = some (.int .i64 (U 4)) := by simpa using hSt.cell 4
  have z5 : w2.cell? ⟨w.heap.size, 5, none⟩ = some (.int .i64 (U 5)) := by simpa using hSt.cell 5
  have z6 : w2.cell? ⟨w.heap.size, 6, none⟩ = some (.int .i64 (U 6)) := by simpa using hSt.cell 6
  have z7 : w2.cell? ⟨w.heap.size, 7, none⟩ = some (.int .i64 (U 7)) := by simpa using hSt.cell 7
  have z8 : w2.cell? ⟨w.heap.size, 8, none⟩ = some (.slice A n c) := by simpa using hSt.cell 8
  have HW := Lib.hid hw2
  have hmf : ∀ (fn : Fn) (first cap : Array Value) (w : World), (Instr.makeFunc fn first cap).run Try.prog w = .ok (.func fn first cap) w := fun _ _ _ _ => rfl
  clear hw2 hO hSt
  go_enter Try.func57, Try.ntmps57
  go_wp2_with fail
  rw [HW.out]
  refine hov.mono ?_
  rintro e w3 ⟨rfl, hO3, hg3⟩
  clear hov z0 z1 z2 z3 z4 z5 z6 z7 z8
  go_wp2
  go_ret
  refine ⟨w.heap.size + 1, rfl, hO3.congr (fun d _ => ?_), by omega, hb2.grown hg3 (by omega) (fun k hk => by injection hk with hk; omega)⟩
  unfold into
  cases D.has U M d <;> rfl

/-- Dots listed, at block p. -/
def Lis (w : World) (B p : Nat) (L : List D.Dot) : Prop := B ≤ p ∧ ∃ A c, Blo w p 120 #[.slice A L.length c] ∧ DRow w B (.slice A L.length c) L
theorem Lis.new {w w' : World} {B p : Nat} {L : List D.Dot} (h : Lis w B p L) (hb : Below w.heap.size w w') : Lis w' B p L := by
  obtain ⟨h1, A, c, h2, h3⟩ := h
  exact ⟨h1, A, c, h2.new hb, h3.new hb⟩

set_option maxHeartbeats 2000000 in
theorem ltake_any {B p : Nat} {L : List D.Dot} (n s : Int) (w : World) (h : Lis w B p L) (hl : L.length ≤ 1000) :
    Calls Try.prog 75 #[.pointer (some ⟨p, 0, none⟩), .agg #[.int .i64 n, .int .i64 s]] w fun e w' => e = .returned (.tuple #[]) ∧ Lis w' B p (L ++ [(n, s)]) ∧ Below B w w' := by
  obtain ⟨hBp, A, c, hC, hR⟩ := h
  have hlt := hC.lt
  obtain ⟨w2, hw2⟩ : ∃ W, w.alloc (.cells #[.int .i64 n, .int .i64 s] 39) = W := ⟨_, rfl⟩
  have hb2' : Below w.heap.size w w2 := by rw [← hw2]; exact b_alloc _ _
  have hD2 : Blo w2 w.heap.size 39 #[.int .i64 n, .int .i64 s] := by rw [← hw2]; exact Blo.made _ _ _
  have hC2 := hC.new hb2'
  have hR2 := hR.new hb2'
  have hb2 : Below B w w2 := hb2'.mono (by omega)
  have k0 : w2.cell? ⟨w.heap.size, 0, none⟩ = some (.int .i64 n) := by simpa using hD2.cell 0
  have k1 : w2.cell? ⟨w.heap.size, 1, none⟩ = some (.int .i64 s) := by simpa using hD2.cell 1
  have k8 : w2.cell? ⟨p, 0, none⟩ = some (.slice A L.length c) := by simpa using hC2.cell 0
  have hne := hR2.blo hC2 (by decide)
  have hs2 := hb2.size
  have hlt2 := hC2.lt
  have AFT : ∀ (W V : World) (v' : Value), Below w2.heap.size w2 W → DRow V B v' (L ++ [(n, s)]) → W.grownBy V (Value.slice A L.length c).ownBlock →
      ∃ A' N' c', v' = .slice A' N' c' ∧ Hid (N' = (L ++ [(n, s)]).length) ∧ V.cell? ⟨p, 0, none⟩ = some (.slice A L.length c) ∧ V.frozen? ⟨p, 0, none⟩ = false ∧ Lis (V.setCell ⟨p, 0, none⟩ (.slice A' N' c')) B p (L ++ [(n, s)]) ∧ Below B w (V.setCell ⟨p, 0, none⟩ (.slice A' N' c')) := by
    intro W V v' hW hown hg
    obtain ⟨A', c', rfl, _⟩ := hown.form
    have hCV : Blo V p 120 #[.slice A L.length c] := (hC2.new hW).grown hg (fun e => hne e.symm)
    have hneV := hown.blo hCV (by decide)
    have hbV : Below B w V := (hb2.trans (hW.mono (by omega))).grown hg (by have := hW.size; omega) (fun k hk => (hR2.lt k hk).1)
    refine ⟨A', _, c', rfl, Lib.hid rfl, by simpa using hCV.cell 0, hCV.frozen 0, ⟨hBp, A', c', ?_, ?_⟩, hbV.setCell hBp _⟩
    · simpa using hCV.put 0 (.slice A' (L ++ [(n, s)]).length c')
    · exact hown.keep fun b hb _ => Below.heap_setCell _ _ _ _ (fun e => hneV (by rw [hb, e]))
  have HAFT := Lib.hid AFT
  have HW := Lib.hid hw2
  clear AFT hw2
  go_enter Try.func75, Try.ntmps75
  go_wp2_with fail
  rw [HW.out]
  go_region_law (first
    | (refine step_dapp (by rfl) _ _ (by rfl) B (.slice A L.length c) L (by rfl) (hR2.new (by first | exact below_drewN (b_alloc _ _) 1 | exact (below_drewN (Below.refl _ _) 1).alloc (Nat.le_refl _) _)) (fun _ => True) _ 1 1 [(n, s)] (by rfl) rfl (blo_rds (t := 39) (by first | exact Blo.made _ _ _ | exact (Blo.made _ _ _).drewN 1)) (by simp; omega) (by simp; omega) ?_
       intro v' V hown hg hv'
       obtain ⟨A', N', c', rfl, HN', cg, fg, hClo, hBel⟩ := HAFT.out _ V v' (by first | exact below_drewN (b_alloc _ _) 1 | exact (below_drewN (Below.refl _ _) 1).alloc (Nat.le_refl _) _) hown hg
       clear hown hg hv'))
  all_goals
    go_wp2
    go_end0
    exact ⟨rfl, hClo, hBel⟩

theorem listing_do {B p : Nat} (S : D.Dot → Bool) : Doing 75 B p S (fun k W => Lis W B p (D.pre S k)) where
  new := fun _ _ _ h hb => h.new hb
  skip := fun n i _ hi hS W h => by
    rw [D.pre_no (by rw [D.dt_at n i hi]; exact hS)]
    exact h
  call := fun n i hn hi hS W h => by
    have hM := D.pre_len S (n * 96 + i)
    rw [D.pre_yes (by rw [D.dt_at n i hi]; exact hS), D.dt_at n i hi]
    exact ltake_any (n : Int) ((i : Int) + 1) W h (by omega)

set_option maxHeartbeats 2000000 in
theorem list_any {g : Nat} {S : D.Dot → Bool} (w : World) (ho : Opn w g S) : Calls Try.prog 60 #[.pointer (some ⟨g, 0, none⟩)] w (DotsPost (D.lst S) w) := by
  have hgl := ho.lt
  obtain ⟨w2, hw2⟩ : ∃ W, w.alloc (.cells #[.slice none 0 0] 120) = W := ⟨_, rfl⟩
  have hb2 : Below w.heap.size w w2 := by rw [← hw2]; exact b_alloc _ _
  have hz2 : w2.heap.size = w.heap.size + 1 := by rw [← hw2]; simp
  have hC : Blo w2 w.heap.size 120 #[.slice none 0 0] := by rw [← hw2]; exact Blo.made _ _ _
  have hJ : Lis w2 w.heap.size w.heap.size (D.pre S 0) := ⟨Nat.le_refl _, none, 0, hC, DRow.nil _ _⟩
  have hE := each_any (.inr rfl) (listing_do (B := w.heap.size) (p := w.heap.size) S) w2 (ho.new hb2) (by omega) (by omega) hJ
  unfold D.lst
  obtain ⟨k, hk⟩ : ∃ k, k = 768 := ⟨_, rfl⟩
  rw [← hk] at hE ⊢
  generalize D.pre S k = Le at *
  have HW := Lib.hid hw2
  have hmf : ∀ (fn : Fn) (first cap : Array Value) (w : World), (Instr.makeFunc fn first cap).run Try.prog w = .ok (.func fn first cap) w := fun _ _ _ _ => rfl
  clear hw2 hJ hC hk
  go_enter Try.func60, Try.ntmps60
  go_wp2_with fail
  rw [HW.out]
  refine hE.mono ?_
  rintro e w3 ⟨rfl, ⟨_, A, c, hC3, hR3⟩, hb3⟩
  have z0 : w3.cell? ⟨w.heap.size, 0, none⟩ = some (.slice A Le.length c) := by simpa using hC3.cell 0
  obtain ⟨N, HN⟩ : ∃ N, Hid (Le.length = N) := ⟨_, rfl⟩
  clear hE hC3
  go_wp2
  go_ret
  exact ⟨A, c, rfl, hR3, hb2.trans hb3⟩
end Go.Proofs.Ytedcgfcmhaeldaa
