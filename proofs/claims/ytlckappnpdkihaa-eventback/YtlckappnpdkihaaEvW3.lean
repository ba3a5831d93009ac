/- Layer 7, the program's writer: through, event. -/
import Derived.Test.YtlckappnpdkihaaEvW2
import Derived.Test.YtlckappnpdkihaaEvMem
import Derived.Test.YtlckappnpdkihaaEvP5
namespace Go.Proofs.Ytlckappnpdkihaa
set_option linter.unusedVariables false
set_option linter.unusedSimpArgs false
open Go.ChangeShapes Go.WideShapes Go.ChangeAt Go.RowKit

theorem nums_mem {F : Nat → Int} {M : List D.Dot} (h : E.right F M = true) : (∀ j, j < 5 → 0 ≤ F j ∧ F j ≤ 1099511627776) ∧ (F 3 = 1 → 0 ≤ F 5 ∧ F 5 ≤ 1099511627776) ∧ (F 3 = 2 → ∀ j, j < 13 → 6 ≤ j → 0 ≤ F j ∧ F j ≤ 1099511627776) ∧ (F 3 = 1 ∨ F 3 = 2 ∨ F 3 = 3) ∧ M.length ≤ 96 ∧ ∀ d ∈ M, (0 ≤ d.1 ∧ d.1 ≤ 1099511627776) ∧ 0 ≤ d.2 ∧ d.2 ≤ 1099511627776 := by
  have hin := nums_in h
  obtain ⟨hm, ⟨h2, h2', h4, h4'⟩, hl, hr, hk⟩ := E.right_parts h
  refine ⟨fun j hj => hin _ ?_, fun h1 => hin _ ?_, fun h2 j hj hj' => hin _ ?_, ?_, hl, fun d hd => ?_⟩
  · unfold E.nums
    obtain rfl | rfl | rfl | rfl | rfl : j = 0 ∨ j = 1 ∨ j = 2 ∨ j = 3 ∨ j = 4 := by omega
    all_goals simp
  · unfold E.nums; rw [if_pos h1]; simp
  · unfold E.nums E.numP; rw [if_neg (by omega), if_pos h2]
    obtain rfl | rfl | rfl | rfl | rfl | rfl | rfl : j = 6 ∨ j = 7 ∨ j = 8 ∨ j = 9 ∨ j = 10 ∨ j = 11 ∨ j = 12 := by omega
    all_goals simp
  · unfold E.kindOk at hk
    split at hk
    · omega
    · split at hk
      · omega
      · split at hk
        · omega
        · cases hk
  · have := D.may_iff.1 (E.rems_may hr d hd)
    omega

set_option maxRecDepth 100000 in
set_option maxHeartbeats 4000000 in
theorem wthrough_any {B g ge : Nat} {l : List Int} {F : Nat → Int} {A : Option Addr} {n c : Nat} {M : List D.Dot} {w : World} (hW : Wtr w B g l) (hE : Blo w ge 28 (ecs F A n c)) (hn : M.length = n) (hr : Rds w (· < B) A (dvs M)) (hl : l.length ≤ 700000)
    (hR : E.right F M = true) :
    Calls Try.prog 60 #[.pointer (some ⟨ge, 0, none⟩), wdo g] w (WroPost B g (l ++ V.encs (E.nums F M)) w) := by
  obtain ⟨n5, nv, np, nk, n96, nM⟩ := nums_mem hR
  have H0 := n5 0 (by omega)
  have H1 := n5 1 (by omega)
  have H2 := n5 2 (by omega)
  have H3 := n5 3 (by omega)
  have H4 := n5 4 (by omega)
  have E0 := enc_len H0
  have E1 := enc_len H1
  have E2 := enc_len H2
  have E3 := enc_len H3
  have E4 := enc_len H4
  have hE3 : ∀ W, Wro B w W → W.cell? ⟨ge, 3, none⟩ = some (.int .i64 (F 3)) := fun W h => by simpa using (h.keep _ _ _ hE (by decide) (by decide)).cell 3
  have HE3 := Lib.hid hE3
  have HN := Lib.hid hn
  have hdot := wdot_any (p := ⟨ge, 0, none⟩) hW (by simpa using hE.cell 0) (by simpa using hE.cell 1) (.inr ⟨_, _, hE, by decide, by decide⟩) (by omega) H0.1 H0.2 H1.1 H1.2
  have hk3 : ((F 3 == 1) || (F 3 == 2) || (F 3 == 3)) = true := by simp; omega
  have HNU : Hid (E.nums F M = [F 0, F 1, F 2, F 3, F 4] ++ (if F 3 = 1 then [F 5] else E.numP F ++ (M.length : Int) :: E.numM M)) := Lib.hid rfl
  clear hE3 hR n5
  go_enter Try.func60, Try.ntmps60
  go_wp2_with fail
  refine hdot.mono ?_
  rintro e w1 ⟨rfl, hW1, hR1⟩
  clear hdot
  go_wp2_with fail
  refine (wnum_at hE (by decide) (by decide) hR1 hW1 2 rfl (by simp; omega) H2).mono ?_
  rintro e w2 ⟨rfl, hW2, hR2⟩
  go_wp2_with fail
  refine (wnum_at hE (by decide) (by decide) hR2 hW2 3 rfl (by simp; omega) H3).mono ?_
  rintro e w3 ⟨rfl, hW3, hR3⟩
  have z3 := HE3.out _ hR3
  clear hW hW1 hR1 hW2 hR2
  obtain ⟨G, hG⟩ : ∃ G, G = l ++ V.enc (F 0) ++ V.enc (F 1) ++ V.enc (F 2) ++ V.enc (F 3) := ⟨_, rfl⟩
  have hGl : G.length ≤ 700024 := by rw [hG]; simp; omega
  rw [← hG] at hW3
  have HG := Lib.hid hG
  clear hG
  rcases nk with k1 | k2 | k3
  · have e1 : (F 3 == 1) = true := by simpa using k1
    have H5 := nv k1
    have HFin : Hid (l ++ V.encs (E.nums F M) = G ++ V.enc (F 4) ++ V.enc (F 5)) := Lib.hid (by rw [HNU.out, HG.out, if_pos k1]; simp [V.encs])
    clear k1 np nv hk3
    go_wp2_with fail
    refine (eneed_yes _ _).mono ?_
    rintro e w4 ⟨rfl, rfl⟩
    go_wp2_with fail
    refine (wnum_at hE (by decide) (by decide) hR3 hW3 4 rfl (by omega) H4).mono ?_
    rintro e w4 ⟨rfl, hW4, hR4⟩
    have z4 := HE3.out _ hR4
    clear z3
    go_wp2_with fail
    refine (wnum_at hE (by decide) (by decide) hR4 hW4 5 rfl (by simp; omega) H5).mono ?_
    rintro e w5 ⟨rfl, hW5, hR5⟩
    clear z4
    go_wp2
    go_end0
    rw [HFin.out]
    exact ⟨rfl, hW5, hR5⟩
  · have e1 : (F 3 == 1) = false := by simp; omega
    have e2 : (F 3 == 2) = true := by simpa using k2
    have H6 := np k2
    have HFin : Hid (l ++ V.encs (E.nums F M) = G ++ V.enc (F 4) ++ V.encs [F 6, F 7, F 8, F 9, F 10, F 11, F 12] ++ V.encs ((M.length : Int) :: E.numM M)) := Lib.hid (by rw [HNU.out, HG.out, if_neg (by omega)]; unfold E.numP; rw [if_pos k2]; simp [V.encs])
    have hlP : (V.encs [F 6, F 7, F 8, F 9, F 10, F 11, F 12]).length ≤ 42 := by
      have := V.encs_len [F 6, F 7, F 8, F 9, F 10, F 11, F 12] (fun m hm => by
        simp at hm
        rcases hm with rfl | rfl | rfl | rfl | rfl | rfl | rfl
        all_goals exact H6 _ (by omega) (by omega))
      simpa using this
    clear k2 np nv hk3
    go_wp2_with fail
    refine (eneed_yes _ _).mono ?_
    rintro e w4 ⟨rfl, rfl⟩
    go_wp2_with fail
    refine (wnum_at hE (by decide) (by decide) hR3 hW3 4 rfl (by omega) H4).mono ?_
    rintro e w4 ⟨rfl, hW4, hR4⟩
    have z4 := HE3.out _ hR4
    clear z3
    go_wp2_with fail
    refine (wpol_any hW4 (hR4.keep _ _ _ hE (by decide) (by decide)) (by simp; omega) H6).mono ?_
    rintro e w5 ⟨rfl, hW5, hR5⟩
    have hR5' := hR4.trans hR5
    clear z4
    go_wp2_with fail
    refine (wrem_any hW5 (hR5'.keep _ _ _ hE (by decide) (by decide)) HN.out (hr.below hR5'.below (fun b hb _ => hb)) (by simp at *; omega) (by omega) nM).mono ?_
    rintro e w6 ⟨rfl, hW6, hR6⟩
    go_wp2
    go_end0
    rw [HFin.out]
    exact ⟨rfl, hW6, hR5'.trans hR6⟩
  · have e1 : (F 3 == 1) = false := by simp; omega
    have e2 : (F 3 == 2) = false := by simp; omega
    have e3 : (F 3 == 3) = true := by simpa using k3
    have HFin : Hid (l ++ V.encs (E.nums F M) = G ++ V.enc (F 4) ++ V.encs ((M.length : Int) :: E.numM M)) := Lib.hid (by rw [HNU.out, HG.out, if_neg (by omega)]; unfold E.numP; rw [if_neg (by omega)]; simp [V.encs])
    clear k3 np nv hk3
    go_wp2_with fail
    refine (eneed_yes _ _).mono ?_
    rintro e w4 ⟨rfl, rfl⟩
    go_wp2_with fail
    refine (wnum_at hE (by decide) (by decide) hR3 hW3 4 rfl (by omega) H4).mono ?_
    rintro e w4 ⟨rfl, hW4, hR4⟩
    have z4 := HE3.out _ hR4
    clear z3
    go_wp2_with fail
    refine (wrem_any hW4 (hR4.keep _ _ _ hE (by decide) (by decide)) HN.out (hr.below hR4.below (fun b hb _ => hb)) (by simp; omega) (by omega) nM).mono ?_
    rintro e w5 ⟨rfl, hW5, hR5⟩
    clear z4
    go_wp2
    go_end0
    rw [HFin.out]
    exact ⟨rfl, hW5, hR4.trans hR5⟩

/-- What writing an event comes to: its bytes behind the others; or it gives up and has turned nothing that is not the writer's. -/
def WevPost (B g : Nat) (l : List Int) (F : Nat → Int) (M : List D.Dot) (w : World) (e : Ending) (w' : World) : Prop :=
  Wro B w w' ∧ ((E.right F M = true ∧ e = .returned (.tuple #[]) ∧ Wtr w' B g (l ++ V.encs (E.nums F M))) ∨ (E.right F M = false ∧ e = gave 2))

set_option maxRecDepth 100000 in
set_option maxHeartbeats 4000000 in
theorem wevent_any {B g : Nat} {l : List Int} (F : Nat → Int) (A : Option Addr) (n c : Nat) (M : List D.Dot) {w : World} (hW : Wtr w B g l) (hn : M.length = n) (hr : Rds w (· < B) A (dvs M)) (hl : l.length ≤ 700000) (hnl : n ≤ maxLen) :
    Calls Try.prog 43 #[.pointer (some ⟨g, 0, none⟩), ev F A n c] w (WevPost B g l F M w) := by
  obtain ⟨w1, hw1⟩ : ∃ W, w.alloc (.cells (ecs F A n c) 28) = W := ⟨_, rfl⟩
  obtain ⟨ge, hge⟩ : ∃ q, q = w.heap.size := ⟨_, rfl⟩
  have hb1 : Below w.heap.size w w1 := by rw [← hw1]; exact b_alloc _ _
  have hX1 : Blo w1 ge 28 (ecs F A n c) := by rw [← hw1, hge]; exact Blo.made _ _ _
  have hW1 := hW.new hb1
  have hR1 : Wro B w w1 := (Wro.refl B w).new hb1 hW.B
  have hr1 := hr.new hb1
  have HW := Lib.hid hw1
  have HG := Lib.hid hge
  have HN := Lib.hid hn
  have hmf : ∀ (fn : Fn) (first cap : Array Value) (w : World), (Instr.makeFunc fn first cap).run Try.prog w = .ok (.func fn first cap) w := fun _ _ _ _ => rfl
  clear hw1 hge hn hr hb1 hW
  obtain ⟨z0, z1, z2, z3, z4, z5, z6, z7, z8, z9, z10, z11, z12, z13⟩ := set14 hX1
  have hright := evright_any _ F A n c M w1 HN.out hr1 hnl
  go_enter Try.func43, Try.ntmps43
  go_wp2_with fail
  rw [HW.out, ← HG.out]
  go_wp2_with fail
  refine hright.mono ?_
  rintro e w2 ⟨rfl, hb2⟩
  have hW2 := hW1.new hb2
  have hR2 := hR1.new hb2 hW1.B
  have hX2 := hX1.new hb2
  have hr2 := hr1.new hb2
  clear hright z0 z1 z2 z3 z4 z5 z6 z7 z8 z9 z10 z11 z12 z13 hW1 hR1 hX1 hr1 hb2
  cases hq : E.right F M with
  | false =>
    have HQ := Lib.hid hq
    clear hq
    go_wp2_with fail
    refine (eneed_no _ _).mono ?_
    rintro e w3 ⟨rfl, rfl⟩
    go_wp2
    exact ⟨rfl, hR2, .inr ⟨HQ.out, rfl⟩⟩
  | true =>
    have HQ := Lib.hid hq
    have hth := wthrough_any hW2 hX2 HN.out hr2 hl hq
    clear hq
    go_wp2_with fail
    refine (eneed_yes _ _).mono ?_
    rintro e w3 ⟨rfl, rfl⟩
    go_wp2_with fail
    refine hth.mono ?_
    rintro e w4 ⟨rfl, hW4, hR4⟩
    go_wp2
    go_end0
    exact ⟨hR2.trans hR4, .inl ⟨HQ.out, rfl, hW4⟩⟩
end Go.Proofs.Ytlckappnpdkihaa
