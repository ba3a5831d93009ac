/- Layer 8, the program's: Stands. -/
import Derived.Test.YtedcgfcmhaeldaaBkP10
namespace Go.Proofs.Ytedcgfcmhaeldaa
set_option linter.unusedVariables false
set_option linter.unusedSimpArgs false
open Go.ChangeShapes Go.WideShapes Go.ChangeAt Go.RowKit

/-- What Stands answers. -/
def StandsP (b : B.Bk) (work : Int) (w : World) (e : Ending) (w' : World) : Prop :=
  ∃ A c, e = .returned (.tuple #[.slice A (B.stA b work).length c, .int .i64 (B.stE b work)]) ∧ DRow w' w.heap.size (.slice A (B.stA b work).length c) (B.stA b work) ∧ Below w.heap.size w w'
theorem ground_cells (work : Int) : gcs work (D.cU fun _ => false) none (D.cM fun _ => false).length 0 = gcs work (fun _ => 0) none 0 0 := by
  obtain ⟨h1, h2⟩ := D.cl_none
  simp [h1, h2]
set_option maxRecDepth 100000 in
set_option maxHeartbeats 8000000 in
theorem bstands_any {S : Nat → Prop} {g : Nat} {m : Option Nat} {b : B.Bk} (work : Int) (w : World) (hP : PB w S g m b) :
    Calls Try.prog 24 #[.pointer (some ⟨g, 0, none⟩), .int .i64 work] w (StandsP b work w) := by
  obtain ⟨hok, T, hT, hPi⟩ := hP
  have HPL : Hid ((D.lst (D.has (D.cU T) (D.cM T))).filterMap (pick b.hold) = b.hold) := Lib.hid (by
    rw [pick_lst hok.srt (fun x hx => hok.may _ (hok.seen x hx))]
    refine List.filter_eq_self.2 fun x hx => ?_
    have h1 := hok.seen x hx
    have h2 := hok.may _ h1
    rw [D.cl_has, h2, hT _ h2, h1]
    rfl)
  obtain ⟨w1, hw1⟩ : ∃ W, w.alloc (.cells (gcs work (fun _ => 0) none 0 0) 94) = W := ⟨_, rfl⟩
  obtain ⟨p, hp⟩ : ∃ q, q = w.heap.size := ⟨_, rfl⟩
  have hb1 : Below w.heap.size w w1 := by rw [← hw1]; exact b_alloc _ _
  have hs1 := hb1.size
  have hp1 : Blo w1 p 94 (gcs work (fun _ => 0) none 0 0) := by rw [← hw1, hp]; exact Blo.made _ _ _
  have hlt := hPi.lt
  have hltm : ∀ x, m = some x → x < w.heap.size := fun x hx => hPi.ltm hx
  have hPo : PBi w (fun b => S b ∧ b < w.heap.size) g m T b.hold b.time := by
    obtain ⟨A1, c1, h1, h2⟩ := hPi.blk
    obtain ⟨f, h3, h4, h5⟩ := hPi.map
    exact ⟨⟨A1, c1, h1, h2.old⟩, ⟨f, h3, h4, fun d e he => (h5 d e he).old⟩, hPi.srt, hPi.rt⟩
  have hP1 := hPo.new hb1
  obtain ⟨A1, c1, hB, hR⟩ := hP1.blk
  obtain ⟨n1, hn1⟩ : ∃ k, (D.cM T).length = k := ⟨_, rfl⟩
  rw [hn1] at hB
  obtain ⟨N, hN⟩ : ∃ k, k = (D.lst (D.has (D.cU T) (D.cM T))).length := ⟨_, rfl⟩
  have hN768 : N ≤ 768 := by rw [hN]; exact D.lst_len _
  have hlist := dlist_any _ (D.cU T) A1 n1 c1 (D.cM T) w1 hn1 hR.rds (by have := D.cM_len T; omega)
  obtain ⟨LL, hLL⟩ : ∃ L, L = D.lst (D.has (D.cU T) (D.cM T)) := ⟨_, rfl⟩
  rw [← hLL] at hlist hN HPL
  obtain ⟨UT, hUT⟩ : ∃ U, U = D.cU T := ⟨_, rfl⟩
  rw [← hUT] at hlist hB
  obtain ⟨b0, b1, b2, b3, b4, b5, b6, b7, b8, b9, b10⟩ := set11 hB
  have hJ1 : GrdJ w.heap.size p work [] w1 := ⟨by omega, fun _ => false, none, 0, fun x _ => rfl, by rw [ground_cells]; exact hp1, by rw [D.cl_none.2]; exact DRd.nil⟩
  have hHand := hand_g w.heap.size p work
  have HW := Lib.hid hw1
  have HP := Lib.hid hp
  have HNN := Lib.hid hN
  rw [← hw1] at b0 b1 b2 b3 b4 b5 b6 b7 b8 b9 b10
  clear hw1 hp hN hLL hUT hn1 hR hB hPi hPo hT
  go_enter Try.func24, Try.ntmps24
  go_wp2_with fail
  rw [HW.out, ← HP.out]
  refine hlist.mono ?_
  rintro e w2 ⟨A2, c2, rfl, hD2, hb2⟩
  rw [← HNN.out] at hD2 ⊢
  have hP2 := hP1.new hb2
  have hJ2 := hHand.new hJ1 hb2
  have hb02 := below_new hb1 hb2
  have hov := pover_any (.inr rfl) hHand A2 N c2 LL w2 hP2 hlt hltm hb02.size HNN.out.symm hD2.drd hN768 hJ2
  clear hlist b0 b1 b2 b3 b4 b5 b6 b7 b8 b9 b10 hP1 hJ1 hD2 hP2 hJ2 hp1
  go_wp2_with fail
  refine hov.mono ?_
  rintro e w3 ⟨rfl, hJ3, hb3⟩
  rw [HPL.out] at hJ3
  unfold GrdJ at hJ3
  obtain ⟨_, T3, A3, c3, hT3, hB3, hR3⟩ := hJ3
  obtain ⟨n3, hn3⟩ : ∃ k, (D.cM T3).length = k := ⟨_, rfl⟩
  rw [hn3] at hB3
  have hb03 := hb02.trans hb3
  have hl3 : n3 ≤ 1000000 := by have := D.cM_len T3; omega
  have HST : Hid (D.lst (D.has (D.cU T3) (D.cM T3)) = Go.Proofs.Ytedcgfcmhaeldaa.B.stL b work) := Lib.hid (D.lst_congr fun d hd => by rw [D.cl_has, hd, hT3 d hd]; rfl)
  have hcnt := count_any _ (D.cU T3) A3 n3 c3 (D.cM T3) w3 hn3 hR3.rds hl3
  rw [D.cnt_eq, HST.out] at hcnt
  have HL3 : Hid (∀ V, Below w3.heap.size w3 V → Calls Try.prog 35 #[sv (D.cU T3) A3 n3 c3] V (DotsPost (Go.Proofs.Ytedcgfcmhaeldaa.B.stL b work) V)) := Lib.hid (fun V hV => by
    have := dlist_any _ (D.cU T3) A3 n3 c3 (D.cM T3) V hn3 (hR3.new hV).rds hl3
    rw [HST.out] at this
    exact this)
  obtain ⟨U3, hU3⟩ : ∃ U, U = D.cU T3 := ⟨_, rfl⟩
  rw [← hU3] at hB3 hcnt HL3
  obtain ⟨g0, g1, g2, g3, g4, g5, g6, g7, g8, g9⟩ := set10 hB3
  obtain ⟨N3, hN3⟩ : ∃ k, k = (Go.Proofs.Ytedcgfcmhaeldaa.B.stL b work).length := ⟨_, rfl⟩
  rw [← hN3] at hcnt
  have HN3 := Lib.hid hN3
  clear hov hU3 hn3 hN3
  go_wp2_with fail
  refine hcnt.mono ?_
  rintro e w4 ⟨rfl, hb4⟩
  have hb04 := below_new hb03 hb4
  by_cases hgt : 96 < N3
  · have hgt' : (96 : Int) < (N3 : Int) := by omega
    have HE : Hid (Go.Proofs.Ytedcgfcmhaeldaa.B.stE b work = 7) := Lib.hid (by unfold Go.Proofs.Ytedcgfcmhaeldaa.B.stE; rw [← HN3.out, if_pos hgt])
    have HA : Hid (Go.Proofs.Ytedcgfcmhaeldaa.B.stA b work = []) := Lib.hid (by unfold Go.Proofs.Ytedcgfcmhaeldaa.B.stA; rw [HE.out, if_neg (by decide)])
    clear g0 g1 g2 g3 g4 g5 g6 g7 g8 g9
    go_wp2
    go_ret2
    refine ⟨none, 0, ?_, ?_, hb04⟩
    · rw [HE.out, HA.out]; rfl
    · rw [HA.out]; exact DRow.nil _ _
  · have hgt' : ¬ (96 : Int) < (N3 : Int) := by omega
    have HE : Hid (Go.Proofs.Ytedcgfcmhaeldaa.B.stE b work = 0) := Lib.hid (by unfold Go.Proofs.Ytedcgfcmhaeldaa.B.stE; rw [← HN3.out, if_neg hgt])
    have HA : Hid (Go.Proofs.Ytedcgfcmhaeldaa.B.stA b work = Go.Proofs.Ytedcgfcmhaeldaa.B.stL b work) := Lib.hid (by unfold Go.Proofs.Ytedcgfcmhaeldaa.B.stA; rw [HE.out, if_pos rfl])
    clear g0 g1 g2 g3 g4 g5 g6 g7 g8 g9
    obtain ⟨g0, g1, g2, g3, g4, g5, g6, g7, g8, g9⟩ := set10 (hB3.new hb4)
    have hl4 := HL3.out w4 hb4
    have hgt2 : decide ((96 : Int) < (N3 : Int)) = false := by simp; omega
    clear hcnt HL3 hgt hgt' hT3 hR3 hB3 hb4 hHand
    go_wp2_with fail
    refine hl4.mono ?_
    rintro e w5 ⟨A5, c5, rfl, hD5, hb5⟩
    rw [← HN3.out] at hD5 ⊢
    clear g0 g1 g2 g3 g4 g5 g6 g7 g8 g9 hl4
    have hb05 := below_new hb04 hb5
    go_wp2
    go_ret2
    refine ⟨A5, c5, ?_, ?_, hb05⟩
    · rw [HE.out, HA.out, ← HN3.out]; rfl
    · rw [HA.out, ← HN3.out]; exact hD5.mono hb04.size
end Go.Proofs.Ytedcgfcmhaeldaa
