/- Layer 7, the program's reader: event. | Layer 7, the program's: Get. | Layer 7, the program's: Get. -/
import Derived.Test.YtlckappnpdkihaaEvR4
import Derived.Test.YtlckappnpdkihaaEvFace

section
namespace Go.Proofs.Ytlckappnpdkihaa
set_option linter.unusedVariables false
set_option linter.unusedSimpArgs false
open Go.ChangeShapes Go.WideShapes Go.ChangeAt Go.RowKit

/-- What reading an event comes to. -/
def EvGot (g h gr : Nat) (st : D.St) (w : World) (e : Ending) (w' : World) : Prop :=
  w.grownBy w' (some g) ∧ (((E.stp st).2 = 0 ∧ E.stp st = (E.rdL st).2 ∧ E.right (E.rdF st) (E.rdL st).1 = true ∧ ∃ A c, e = .returned (ev (E.rdF st) A (E.rdL st).1.length c) ∧ DRow w' w.heap.size (.slice A (E.rdL st).1.length c) (E.rdL st).1 ∧ Rde w' g h gr (E.stp st)) ∨
    ((E.stp st).2 ≠ 0 ∧ e = gave (E.stp st).2))

set_option maxRecDepth 100000 in
set_option maxHeartbeats 4000000 in
theorem revent_any {g h gr : Nat} {st : D.St} {w : World} (hst : st.2 = 0) (hR : Rde w g h gr st) :
    Calls Try.prog 47 #[.pointer (some ⟨gr, 0, none⟩)] w (EvGot g h gr st w) := by
  have hmf : ∀ (fn : Fn) (first cap : Array Value) (w : World), (Instr.makeFunc fn first cap).run Try.prog w = .ok (.func fn first cap) w := fun _ _ _ _ => rfl
  have hgl := hR.rd.lt
  have hhl := hR.rd.lth
  have hrl := hR.me.lt
  obtain ⟨w2, hw2⟩ : ∃ W, (w.alloc (.cells (ecs (fun _ => 0) none 0 0) 28)).alloc (.cells (ecs (fun _ => 0) none 0 0) 28) = W := ⟨_, rfl⟩
  obtain ⟨gs, hgs⟩ : ∃ q, q = w.heap.size := ⟨_, rfl⟩
  obtain ⟨ge, hge⟩ : ∃ q, q = w.heap.size + 1 := ⟨_, rfl⟩
  have hb2 : Below w.heap.size w w2 := by rw [← hw2]; exact b_alloc2 _ _ _
  have hS2 : Blo w2 gs 28 (ecs (fun _ => 0) none 0 0) := by rw [← hw2, hgs]; exact (Blo.made _ _ _).alloc _
  have hE2 : Blo w2 ge 28 (ecs (fun _ => 0) none 0 0) := by
    rw [← hw2, hge]
    have := Blo.made (w.alloc (.cells (ecs (fun _ => 0) none 0 0) 28)) 28 (ecs (fun _ => 0) none 0 0)
    simpa using this
  have hR2 := hR.new hb2
  have hth := rthrough_any hst hR2 hE2 (by omega) (by omega) (by omega)
  have hlen := rdL_len st
  have hstp : E.stp st = if (E.rdL st).2.2 = 0 ∧ E.right (E.rdF st) (E.rdL st).1 = false then ((E.rdL st).2.1, 4) else (E.rdL st).2 := rfl
  have HST := Lib.hid hstp
  obtain ⟨s, hs⟩ : ∃ s, s = (E.rdL st).2 := ⟨_, rfl⟩
  obtain ⟨M, hM⟩ : ∃ M, M = (E.rdL st).1 := ⟨_, rfl⟩
  obtain ⟨F, hF⟩ : ∃ F, F = E.rdF st := ⟨_, rfl⟩
  unfold EvGot
  rw [← hs, ← hM, ← hF] at hth HST ⊢
  rw [← hM] at hlen
  obtain ⟨m, hm⟩ : ∃ m, m = M.length := ⟨_, rfl⟩
  rw [← hm] at hlen ⊢
  have HM := Lib.hid hm
  clear hm
  have hs2 := hb2.size
  have HW := Lib.hid hw2
  have HGS := Lib.hid hgs
  have HGE := Lib.hid hge
  have hgse : gs ≠ ge := by omega
  have hgsg : gs ≠ g := by omega
  have hgse' : w.heap.size ≤ gs := by omega
  have hgee : w.heap.size ≤ ge := by omega
  clear hw2 hgs hge hs hM hF hst hstp
  go_enter Try.func47, Try.ntmps47
  go_wp2_with fail
  have e0 := HW.out
  simp only [ecs] at e0
  rw [e0, ← HGE.out, ← HGS.out]
  clear e0
  refine hth.mono ?_
  rintro e w3 ⟨hT3, hok⟩
  have hg3 : w.grownBy w3 (some g) := Two.gb (gb_below hb2 _) hT3 hgee
  rcases hok with ⟨h0, rfl, hR3, A, c, hE3, hD3⟩ | ⟨h0, rfl⟩
  rotate_left
  · have HR : Hid (E.stp st = s) := Lib.hid (by rw [HST.out, if_neg (fun hh => h0 hh.1)])
    have H0 := Lib.hid h0
    clear h0 hth
    go_wp2
    refine ⟨rfl, hg3, .inr ?_⟩
    rw [HR.out]
    exact ⟨H0.out, rfl⟩
  have hS3 := hT3.blo hS2 hgsg hgse
  have hright := evright_any _ F A M.length c M w3 rfl hD3.rdsT (by rw [← HM.out]; unfold maxLen; omega)
  obtain ⟨z0, z1, z2, z3, z4, z5, z6, z7, z8, z9, z10, z11, z12, z13⟩ := set14 hE3
  have H0 := Lib.hid h0
  clear h0 hth
  rw [← HM.out] at hright z13 hE3 hD3
  go_wp2_with fail
  refine hright.mono ?_
  rintro e w4 ⟨rfl, hb4⟩
  have hg4 : w.grownBy w4 (some g) := gb_trans hg3 (gb_below hb4 _)
  have hS4 := hS3.new hb4
  have hE4 := hE3.new hb4
  have hD4 := hD3.new hb4
  have hR4 := hR3.new hb4
  clear hright z0 z1 z2 z3 z4 z5 z6 z7 z8 z9 z10 z11 z12 z13 hS3 hE3 hD3 hR3
  cases hq : E.right F M with
  | false =>
    have HR : Hid (E.stp st = (s.1, 4)) := Lib.hid (by rw [HST.out, if_pos ⟨H0.out, hq⟩])
    clear hq
    go_wp2_with fail
    refine (eneed_no _ _).mono ?_
    rintro e w5 ⟨rfl, rfl⟩
    go_wp2
    refine ⟨rfl, hg4, .inr ?_⟩
    rw [HR.out]
    exact ⟨by simp, rfl⟩
  | true =>
    have HR : Hid (E.stp st = s) := Lib.hid (by rw [HST.out, if_neg (fun hh => by rw [hq] at hh; cases hh.2)])
    have HQ := Lib.hid hq
    clear hq
    go_wp2_with fail
    refine (eneed_yes _ _).mono ?_
    rintro e w5 ⟨rfl, rfl⟩
    obtain ⟨z0, z1, z2, z3, z4, z5, z6, z7, z8, z9, z10, z11, z12, z13⟩ := set14 hE4
    go_wp2_with (refine wpList_sete _ rfl _ _ rfl gs _ rfl F A m c rfl hS4 rfl ?_)
    intro w6 hZ6 hg6
    have hD6 := hD4.grown hg6 (fun b hb e => hD4.blo hS4 (by decide) (hb.trans e))
    have hR6 := hR4.grown hg6 hgsg (by omega) (by omega)
    have hgg6 : w.grownBy w6 (some g) := gb_new hg4 hg6 (fun k hk => by injection hk with hk; omega)
    clear z0 z1 z2 z3 z4 z5 z6 z7 z8 z9 z10 z11 z12 z13
    obtain ⟨z0, z1, z2, z3, z4, z5, z6, z7, z8, z9, z10, z11, z12, z13⟩ := set14 hZ6
    go_wp2
    refine bodyPost_ret (v := ev F A m c) ?_ rfl ?_
    · simp [results, Try.results47, go_sem, z0, z1, z2, z3, z4, z5, z6, z7, z8, z9, z10, z11, z12, z13]
    refine ⟨hgg6, .inl ⟨?_, ?_, ?_, A, c, rfl, hD6.mono hs2, ?_⟩⟩
    · rw [HR.out]; exact H0.out
    · exact HR.out
    · exact HQ.out
    · rw [HR.out]; exact hR6
end Go.Proofs.Ytlckappnpdkihaa
end

section
namespace Go.Proofs.Ytlckappnpdkihaa
set_option linter.unusedVariables false
set_option linter.unusedSimpArgs false
open Go.ChangeShapes Go.WideShapes Go.ChangeAt Go.RowKit

set_option maxHeartbeats 1000000 in
theorem eopen_any (S : Nat → Prop) (A : Option Addr) (N c : Nat) (L : List Int) (w : World) (hN : N = L.length) (hr : Rds w S A (u8s L)) (hl : L.length ≤ 1000000) (hB : Byt L) :
    Calls Try.prog 45 #[.slice A N c] w fun e w' => ∃ g h gr, e = .returned (.pointer (some ⟨gr, 0, none⟩)) ∧ Rde w' g h gr (L, 0) ∧ w.heap.size ≤ g ∧ w.heap.size ≤ h ∧ w.heap.size ≤ gr ∧ Below w.heap.size w w' := by
  have hnew := new_any S A c L w hr hl hB
  rw [← hN] at hnew
  clear hN
  go_enter Try.func45, Try.ntmps45
  go_wp2_with fail
  refine hnew.mono ?_
  rintro e w1 ⟨g, h, rfl, hR, hg, hh, hb⟩
  have hs := hb.size
  go_wp2
  go_ret
  exact ⟨g, h, w1.heap.size, rfl, ⟨hR.alloc _, Blo.made _ _ _⟩, hg, hh, hs, below_new hb (b_alloc _ _)⟩

/-- What the face's function reads into the variable at ve. -/
def GQ (L : List Int) (B g ve : Nat) (W0 W : World) : Prop := E.gE L = 0 ∧ (∃ A c, Blo W ve 28 (ecs (E.getF L) A (E.getM L).length c) ∧ DRow W B (.slice A (E.getM L).length c) (E.getM L)) ∧ Two g ve W0 W
def GP (L : List Int) (g ve : Nat) (W0 : World) (y : Int) (W : World) : Prop := y = E.gE L ∧ y ≠ 0 ∧ Two g ve W0 W

set_option maxRecDepth 100000 in
set_option maxHeartbeats 4000000 in
theorem get1_any {g h gr pr ve : Nat} {L : List Int} {w : World} (hR : Rde w g h gr (L, 0)) (hP : Blo w pr 72 #[.pointer (some ⟨gr, 0, none⟩)]) (hV : Blo w ve 28 (ecs (fun _ => 0) none 0 0)) (h1 : ve ≠ g) (h2 : ve ≠ h) (h3 : ve ≠ gr) :
    Calls Try.prog 46 #[.pointer (some ⟨pr, 0, none⟩), .pointer (some ⟨ve, 0, none⟩)] w (DoPost (GQ L w.heap.size g ve w) (GP L g ve w)) := by
  have p0 : w.cell? ⟨pr, 0, none⟩ = some (.pointer (some ⟨gr, 0, none⟩)) := by simpa using hP.cell 0
  have hpg : pr ≠ g := fun e => by obtain ⟨⟨_, _, _, _, A, c, hb, _⟩, _⟩ := hR; exact hb.typeNe hP (by decide) e.symm
  have hpv : pr ≠ ve := hP.typeNe hV (by decide)
  have hev := revent_any (by rfl) hR
  have HB := Lib.hid (fun hh => gE_of_bad (L := L) hh)
  have HG := Lib.hid (fun a b c => gE_of_good (L := L) a b c)
  go_enter Try.func46, Try.ntmps46
  go_wp2_with fail
  refine hev.mono ?_
  rintro e w1 ⟨hg1, hok⟩
  rcases hok with ⟨h0, hst, hrt, A, c, rfl, hD, hR1⟩ | ⟨h0, rfl⟩
  rotate_left
  · have HE := Lib.hid (HB.out h0)
    have H0 := Lib.hid h0
    clear h0 hev
    go_wp2
    exact ⟨rfl, .inr ⟨_, rfl, HE.out.symm, H0.out, Two.of_g _ hg1⟩⟩
  have hV1 := hV.grown hg1 (fun e => by injection e with e; exact h1 e)
  have hP1 := hP.grown hg1 (fun e => by injection e with e; exact hpg e)
  have HE := Lib.hid (HG.out hst h0 hrt)
  have HST := Lib.hid hst
  obtain ⟨M, hM⟩ : ∃ M, M = (E.rdL (L, 0)).1 := ⟨_, rfl⟩
  obtain ⟨F, hF⟩ : ∃ F, F = E.rdF (L, 0) := ⟨_, rfl⟩
  obtain ⟨m, hm⟩ : ∃ m, m = M.length := ⟨_, rfl⟩
  obtain ⟨s, hs⟩ : ∃ s, s = E.stp (L, 0) := ⟨_, rfl⟩
  rw [← hM, ← hm] at hD
  rw [← hM, ← hm, ← hF]
  rw [← hs] at hR1 HE
  have HM := Lib.hid hM
  have HF := Lib.hid hF
  have Hm := Lib.hid hm
  clear hM hF hm hs hst hrt h0 hev p0
  go_wp2_with (refine wpList_sete _ rfl _ _ rfl ve _ rfl F A m c rfl hV1 rfl ?_)
  intro w2 hV2 hg2
  have hP2 := hP1.grown hg2 (fun e => by injection e with e; exact hpv e)
  have hR2 := hR1.grown hg2 h1 h2 h3
  have hD2 := hD.grown hg2 (fun b hb e => hD.blo hV1 (by decide) (hb.trans e))
  have hT2 : Two g ve w w2 := (Two.of_g ve hg1).trans (Two.of_b g hg2)
  have p2 : w2.cell? ⟨pr, 0, none⟩ = some (.pointer (some ⟨gr, 0, none⟩)) := by simpa using hP2.cell 0
  have hend := rend_any hR2.rd hR2.me
  go_wp2_with fail
  refine hend.mono ?_
  rintro e w3 ⟨rfl, ⟨hl, rfl⟩ | ⟨hl, rfl⟩⟩
  · have HE0 : Hid (E.gE L = 0) := Lib.hid (by rw [HE.out, if_pos hl])
    clear hl hend
    go_wp2
    go_end0
    refine .inl ⟨rfl, HE0.out, ⟨A, c, ?_, ?_⟩, hT2⟩
    · have e1 : E.getF L = F := by unfold E.getF; rw [if_pos HE0.out, HF.out]
      have e2 : E.getM L = M := by unfold E.getM; rw [if_pos HE0.out, HM.out]
      rw [e1, e2, ← Hm.out]; exact hV2
    · have e2 : E.getM L = M := by unfold E.getM; rw [if_pos HE0.out, HM.out]
      rw [e2, ← Hm.out]; exact hD2
  · have HE0 : Hid (E.gE L = 4) := Lib.hid (by rw [HE.out, if_neg hl])
    clear hl hend
    go_wp2
    exact ⟨rfl, .inr ⟨4, rfl, HE0.out.symm, by decide, hT2⟩⟩
end Go.Proofs.Ytlckappnpdkihaa
end

section
namespace Go.Proofs.Ytlckappnpdkihaa
set_option linter.unusedVariables false
set_option linter.unusedSimpArgs false
open Go.ChangeShapes Go.WideShapes Go.ChangeAt Go.RowKit

theorem getM_len (L : List Int) : (E.getM L).length ≤ 96 := by
  unfold E.getM
  split
  · exact rdL_len _
  · simp

set_option maxRecDepth 100000 in
set_option maxHeartbeats 8000000 in
theorem evget_any (S : Nat → Prop) (A : Option Addr) (N c : Nat) (L : List Int) (w : World) (hN : N = L.length) (hr : Rds w S A (u8s L)) (hl : L.length ≤ 1000000) (hB : Byt L) :
    Calls Try.prog 25 #[.slice A N c] w (GetPost7 L w) := by
  have hmf : ∀ (fn : Fn) (first cap : Array Value) (w : World), (Instr.makeFunc fn first cap).run Try.prog w = .ok (.func fn first cap) w := fun _ _ _ _ => rfl
  obtain ⟨w1, hw1⟩ : ∃ W, w.alloc (.cells (ecs (fun _ => 0) none 0 0) 28) = W := ⟨_, rfl⟩
  obtain ⟨gs, hgs⟩ : ∃ q, q = w.heap.size := ⟨_, rfl⟩
  have b1 : Below w.heap.size w w1 := by rw [← hw1]; exact b_alloc _ _
  have hS1 : Blo w1 gs 28 (ecs (fun _ => 0) none 0 0) := by rw [← hw1, hgs]; exact Blo.made _ _ _
  have hop := eopen_any S A N c L w1 hN (hr.new b1) hl hB
  have HW1 := Lib.hid hw1
  have HGS := Lib.hid hgs
  have hgs' : w.heap.size ≤ gs := by omega
  have s1 := b1.size
  clear hw1 hgs hN
  go_enter Try.func25, Try.ntmps25
  go_wp2_with fail
  have e0 := HW1.out
  simp only [ecs] at e0
  rw [e0, ← HGS.out]
  clear e0
  refine hop.mono ?_
  rintro e w2 ⟨g, h, gr, rfl, hR2, hgg, hgh, hgr, b2⟩
  have s2 := b2.size
  have hS2 := hS1.new b2
  obtain ⟨w3, hw3⟩ : ∃ W, w2.alloc (.cells #[.pointer (some ⟨gr, 0, none⟩)] 72) = W := ⟨_, rfl⟩
  obtain ⟨pr, hpr⟩ : ∃ q, q = w2.heap.size := ⟨_, rfl⟩
  have b3 : Below w2.heap.size w2 w3 := by rw [← hw3]; exact b_alloc _ _
  have s3 : w3.heap.size = w2.heap.size + 1 := by rw [← hw3]; simp
  have hP3 : Blo w3 pr 72 #[.pointer (some ⟨gr, 0, none⟩)] := by rw [← hw3, hpr]; exact Blo.made _ _ _
  obtain ⟨w4, hw4⟩ : ∃ W, w3.alloc (.cells (ecs (fun _ => 0) none 0 0) 28) = W := ⟨_, rfl⟩
  obtain ⟨ve, hve⟩ : ∃ q, q = w3.heap.size := ⟨_, rfl⟩
  have b4 : Below w3.heap.size w3 w4 := by rw [← hw4]; exact b_alloc _ _
  have s4 : w4.heap.size = w3.heap.size + 1 := by rw [← hw4]; simp
  have hV4 : Blo w4 ve 28 (ecs (fun _ => 0) none 0 0) := by rw [← hw4, hve]; exact Blo.made _ _ _
  obtain ⟨w5, hw5⟩ : ∃ W, w4.alloc (.cells #[.int .i64 0] 37) = W := ⟨_, rfl⟩
  have b5 : Below w4.heap.size w4 w5 := by rw [← hw5]; exact b_alloc _ _
  have hQ5 : Blo w5 w4.heap.size 37 #[.int .i64 0] := by rw [← hw5]; exact Blo.made _ _ _
  have hR5 := ((hR2.new b3).new b4).new b5
  have hP5 := (hP3.new b4).new b5
  have hV5 := hV4.new b5
  have hS5 := ((hS2.new b3).new b4).new b5
  have b05 : Below w.heap.size w w5 := below_new (below_new (below_new (below_new b1 b2) b3) b4) b5
  have hgl := hR2.rd.lt
  have hhl := hR2.rd.lth
  have hrl := hR2.me.lt
  have s5 := b5.size
  have n1 : ve ≠ g := by omega
  have n2 : ve ≠ h := by omega
  have n3 : ve ≠ gr := by omega
  have hgsv : gs ≠ ve := by have := hS1.lt; omega
  have hgsg : gs ≠ g := by have := hS1.lt; omega
  have hdo := get1_any hR5 hP5 hV5 n1 n2 n3
  rw [← hw5] at hdo
  have hface := eface_any 46 _ _ _ (.inr (.inr (.inl rfl))) hdo
    (fun W hW => hW.2.2.blo (hw5 ▸ hQ5) (by omega) (by omega)) (fun y W hW => hW.2.2.blo (hw5 ▸ hQ5) (by omega) (by omega))
  rw [hw5] at hface
  have HW3 := Lib.hid hw3
  have HW4 := Lib.hid hw4
  have HP := Lib.hid hpr
  have HV : Hid (ve = w2.heap.size + 1) := Lib.hid (by rw [hve, s3])
  have hqs : gs < w4.heap.size := by have := hS1.lt; omega
  have hqv : ve < w4.heap.size := by omega
  have hqg : g < w4.heap.size := by omega
  have hwq : w.heap.size ≤ w4.heap.size := by omega
  have hve' : w.heap.size ≤ ve := by omega
  have hwg : w.heap.size ≤ g := by omega
  clear hw3 hw4 hw5 hpr hve hdo hop b1 b2 b3 b4 b5 hS1 hS2 hR2 hP3 hV4 s3 s4
  go_wp2_with fail
  have e0 := HW4.out
  simp only [ecs] at e0
  rw [HW3.out, e0]
  clear e0
  rw [← HV.out, ← HP.out]
  refine hface.mono ?_
  rintro e w6 (⟨W, ⟨hE0, ⟨A', c', hVW, hDW⟩, hTW⟩, rfl, hg6⟩ | ⟨y, W, ⟨rfl, hE0, hTW⟩, rfl, hg6⟩)
  · have hQW := hTW.blo hQ5 (by omega) (by omega)
    have hSW := hTW.blo hS5 hgsg hgsv
    have hS6 := hSW.grown hg6 (fun e => by injection e with e; omega)
    have hV6 := hVW.grown hg6 (fun e => by injection e with e; omega)
    have hD6 := hDW.grown hg6 (fun b hb e => hDW.blo hQW (by decide) (hb.trans e))
    have hbW : Below w.heap.size w W := b05.trans ⟨hTW.os, hTW.tape, hTW.output, hTW.size, fun i hi => hTW.block i (by omega) (by omega) (by omega)⟩
    have hb6 : Below w.heap.size w w6 := hbW.trans (below_gb' hg6 hbW.size hwq)
    have hm96 := getM_len L
    obtain ⟨F, hF⟩ : ∃ F, F = E.getF L := ⟨_, rfl⟩
    obtain ⟨M, hM⟩ : ∃ M, M = E.getM L := ⟨_, rfl⟩
    obtain ⟨m, hm⟩ : ∃ m, m = M.length := ⟨_, rfl⟩
    rw [← hF, ← hM, ← hm] at hV6
    rw [← hM, ← hm] at hD6
    have HF := Lib.hid hF
    have HM := Lib.hid hM
    have Hm := Lib.hid hm
    have HE := Lib.hid hE0
    obtain ⟨z0, z1, z2, z3, z4, z5, z6, z7, z8, z9, z10, z11, z12, z13⟩ := set14 hV6
    clear hF hM hm hE0 hface hVW hDW hSW hQW hQ5
    go_wp2_with (refine wpList_sete _ rfl _ _ rfl gs _ rfl F A' m c' rfl hS6 rfl ?_)
    intro w7 hZ7 hg7
    have hD7 := hD6.grown hg7 (fun b hb e => hD6.blo hS6 (by decide) (hb.trans e))
    have hb7 : Below w.heap.size w w7 := hb6.trans (below_gb' hg7 hb6.size hgs')
    clear z0 z1 z2 z3 z4 z5 z6 z7 z8 z9 z10 z11 z12 z13
    obtain ⟨z0, z1, z2, z3, z4, z5, z6, z7, z8, z9, z10, z11, z12, z13⟩ := set14 hZ7
    go_wp2
    refine bodyPost_ret (v := .tuple #[ev F A' m c', .int .i64 0]) ?_ rfl ?_
    · simp [results, Try.results25, go_sem, z0, z1, z2, z3, z4, z5, z6, z7, z8, z9, z10, z11, z12, z13]
    unfold GetPost7
    rw [← HF.out, ← HM.out, ← Hm.out, HE.out]
    exact ⟨A', c', rfl, hD7.mono b05.size, hb7⟩
  · have hSW := hTW.blo hS5 hgsg hgsv
    have hS6 := hSW.grown hg6 (fun e => by injection e with e; omega)
    have hbW : Below w.heap.size w W := b05.trans ⟨hTW.os, hTW.tape, hTW.output, hTW.size, fun i hi => hTW.block i (by omega) (by omega) (by omega)⟩
    have hb6 : Below w.heap.size w w6 := hbW.trans (below_gb' hg6 hbW.size hwq)
    obtain ⟨x, hx⟩ : ∃ x, x = E.gE L := ⟨_, rfl⟩
    rw [← hx] at hE0 ⊢
    have hx' : (x != 0) = true := by simpa using hE0
    have HX := Lib.hid hx
    have HE := Lib.hid hE0
    clear hx hE0 hface hSW hQ5
    go_wp2_with (refine wpList_sete _ rfl _ _ rfl gs _ rfl (fun _ => 0) none 0 0 rfl hS6 rfl ?_)
    intro w7 hZ7 hg7
    have hb7 : Below w.heap.size w w7 := hb6.trans (below_gb' hg7 hb6.size hgs')
    obtain ⟨z0, z1, z2, z3, z4, z5, z6, z7, z8, z9, z10, z11, z12, z13⟩ := set14 hZ7
    go_wp2
    refine bodyPost_ret (v := .tuple #[ev (fun _ => 0) none 0 0, .int .i64 x]) ?_ rfl ?_
    · simp [results, Try.results25, go_sem, z0, z1, z2, z3, z4, z5, z6, z7, z8, z9, z10, z11, z12, z13]
    unfold GetPost7
    have e1 : E.getF L = fun _ => 0 := by unfold E.getF; rw [if_neg (by rw [← HX.out]; exact HE.out)]
    have e2 : E.getM L = [] := by unfold E.getM; rw [if_neg (by rw [← HX.out]; exact HE.out)]
    rw [e1, e2, ← HX.out]
    exact ⟨none, 0, rfl, DRow.nil _ _, hb7⟩
end Go.Proofs.Ytlckappnpdkihaa
end

