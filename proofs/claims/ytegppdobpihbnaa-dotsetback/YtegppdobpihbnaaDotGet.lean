/- Layer 6: Get: the program's. -/
import Derived.Test.YtegppdobpihbnaaDotRd
namespace Go.Proofs.Ytegppdobpihbnaa
set_option linter.unusedVariables false
set_option linter.unusedSimpArgs false
open Go.ChangeShapes Go.WideShapes Go.ChangeAt Go.RowKit

/-- What Get answers. -/
def GetPost (L : List Int) (w : World) (e : Ending) (w' : World) : Prop :=
  ∃ A c, e = .returned (.tuple #[sv (D.getU L) A (D.getM L).length c, .int .i64 (D.gE L)]) ∧ DRow w' w.heap.size (.slice A (D.getM L).length c) (D.getM L) ∧ Below w.heap.size w w'

set_option maxRecDepth 100000 in
set_option maxHeartbeats 4000000 in
theorem get_any (S : Nat → Prop) (A : Option Addr) (N c : Nat) (L : List Int) (w : World) (hN : N = L.length) (hr : Rds w S A (u8s L)) (hl : L.length ≤ 1000000) (hB : Byt L) :
    Calls Try.prog 30 #[.slice A N c] w (GetPost L w) := by
  obtain ⟨w1, hw1⟩ : ∃ W, w.alloc (.cells (scs (fun _ => 0) none 0 0) 30) = W := ⟨_, rfl⟩
  obtain ⟨gr, hgr⟩ : ∃ q, q = w.heap.size := ⟨_, rfl⟩
  have hb1 : Below w.heap.size w w1 := by rw [← hw1]; exact b_alloc _ _
  have hBr : Blo w1 gr 30 (scs (fun _ => 0) none 0 0) := by rw [← hw1, hgr]; exact Blo.made _ _ _
  have hNw := new_any S A c L w1 (hr.new hb1) hl hB
  rw [← hN] at hNw
  have HW := Lib.hid hw1
  have HGR := Lib.hid hgr
  have h1 : w.heap.size ≤ gr := by omega
  have hs1 : w.heap.size < w1.heap.size := by have := hBr.lt; omega
  have hgr1 : gr < w1.heap.size := hBr.lt
  clear hw1 hgr hN
  go_enter Try.func30, Try.ntmps30
  go_wp2_with fail
  rw [HW.out, ← HGR.out]
  refine hNw.mono ?_
  rintro e w2 ⟨g, h, rfl, hr2, hg, hh, hb2⟩
  have hBr2 := hBr.new hb2
  have hb02 := below_new hb1 hb2
  have hR := read_any hr2
  have hgl := hr2.lt
  have hs2 := hb2.size
  unfold GotPost at hR
  obtain ⟨U, hU⟩ : ∃ U, U = D.gU L := ⟨_, rfl⟩
  obtain ⟨M, hM⟩ : ∃ M, M = (D.gR L).1 := ⟨_, rfl⟩
  obtain ⟨s, hs⟩ : ∃ s, s = (D.gR L).2 := ⟨_, rfl⟩
  have hml : M.length ≤ 768 := by rw [hM]; exact D.gM_len L
  rw [← hU, ← hM, ← hs] at hR
  obtain ⟨m, hm⟩ : ∃ m, M.length = m := ⟨_, rfl⟩
  rw [hm] at hR hml
  have HE : Hid (D.gE L = if s.2 = 0 then (if s.1 ≠ [] ∨ D.rt U M = false then 4 else 0) else s.2) := Lib.hid (by rw [hU, hM, hs]; rfl)
  have HG : Hid (D.gE L = 0 → D.getU L = U ∧ D.getM L = M) := Lib.hid (fun h => by unfold D.getU D.getM; rw [if_pos h, if_pos h, hU, hM]; exact ⟨rfl, rfl⟩)
  have HG' : Hid (D.gE L ≠ 0 → D.getU L = (fun _ => 0) ∧ D.getM L = []) := Lib.hid (fun h => by unfold D.getU D.getM; rw [if_neg h, if_neg h]; exact ⟨rfl, rfl⟩)
  have HM := Lib.hid hm
  clear hU hM hs hm hNw hBr hb2 hb1 hr hl hB
  go_wp2_with fail
  refine hR.mono ?_
  rintro e w3 ⟨A3, c3, rfl, hrow, hr3, hg3⟩
  have hBr3 := hBr2.grown hg3 (fun e => by injection e with e; omega)
  have hb03 : Below w.heap.size w w3 := hb02.grown hg3 (by omega) (fun k hk => by injection hk with hk; omega)
  obtain ⟨l', x⟩ := s
  simp only at hr3 HE
  clear hR hBr2 hb02 hg3 hr2
  obtain ⟨w4, hw4⟩ : ∃ W, w3.alloc (.cells (scs U A3 m c3) 30) = W := ⟨_, rfl⟩
  obtain ⟨gs, hgs⟩ : ∃ q, q = w3.heap.size := ⟨_, rfl⟩
  have hb4 : Below w3.heap.size w3 w4 := by rw [← hw4]; exact b_alloc _ _
  have hBs4 : Blo w4 gs 30 (scs U A3 m c3) := by rw [← hw4, hgs]; exact Blo.made _ _ _
  have hBr4 := hBr3.new hb4
  have hr4 := hr3.new hb4
  have hrow4 : DRow w4 w2.heap.size (.slice A3 m c3) M := hrow.new hb4
  have hb04 := below_new hb03 hb4
  have hrs : gs ≠ gr := by have := hBr3.lt; omega
  have hgs3 : g < gs ∧ h < gs := ⟨by have := hr3.lt; omega, by have := hr3.lth; omega⟩
  have HW4 := Lib.hid hw4
  have HGS := Lib.hid hgs
  have hs3 : w.heap.size ≤ w3.heap.size := hb03.size
  have hws : w.heap.size ≤ gs := by omega
  have hwg : w.heap.size ≤ g := by omega
  have hgg : g ≠ gr := by omega
  clear hw4 hgs hBr3 hr3 hrow hb03 hb4
  go_wp2_with fail
  rw [HW4.out, ← HGS.out]
  refine (left_any hr4).mono ?_
  rintro e w5 ⟨rfl, rfl⟩
  have hsz4 := hb04.size
  by_cases hll : l' = []
  · subst hll
    have hRt := right_any _ U A3 m c3 M w4 HM.out hrow4.rdsT (by omega)
    obtain ⟨z0, z1, z2, z3, z4, z5, z6, z7, z8⟩ := set9 hBs4
    go_wp2_with fail
    refine hRt.mono ?_
    rintro e w5 ⟨rfl, hb5⟩
    have hBs5 := hBs4.new hb5
    have hBr5 := hBr4.new hb5
    have hr5 := hr4.new hb5
    have hrow5 := hrow4.new hb5
    have hb05 := below_new hb04 hb5
    clear z0 z1 z2 z3 z4 z5 z6 z7 z8 hRt hBs4 hBr4 hr4 hrow4 hb04 hb5
    cases hrt : D.rt U M with
    | false =>
      have HY : Hid (D.gE L = if x = 0 then 4 else x) := Lib.hid (by rw [HE.out]; simp [hrt])
      have hF := fail_any (n := 4) hr5
      clear hrt
      go_wp2_with fail
      refine hF.mono ?_
      rintro e w6 ⟨rfl, hr6, hg6⟩
      have hBr6 := hBr5.grown hg6 (fun e => hgg (by injection e with e; exact e.symm))
      have hb06 : Below w.heap.size w w6 := hb05.grown hg6 hb05.size (fun k hk => by injection hk with hk; omega)
      obtain ⟨y, hy⟩ : ∃ y, y = if x = 0 then (4 : Int) else x := ⟨_, rfl⟩
      have hyn : y ≠ 0 := by rw [hy]; split <;> omega
      rw [← hy] at hr6 HY
      clear hF hg6 hy
      have hyb : (y != 0) = true := by simpa using hyn
      go_wp2_with fail
      refine (err_any hr6).mono ?_
      rintro e w7 ⟨rfl, rfl⟩
      go_wp2_with (refine wpList_setv _ rfl 30 _ _ rfl Try.sizeSet gr _ rfl (fun _ => 0) none 0 0 rfl hBr6 rfl ?_)
      intro w7 hRes hg7
      have hb07 := hb06.grown hg7 hb06.size (fun k hk => by injection hk with hk; omega)
      obtain ⟨y0, y1, y2, y3, y4, y5, y6, y7, y8⟩ := set9 hRes
      go_wp2
      refine bodyPost_ret (v := .tuple #[sv (fun _ => 0) none 0 0, .int .i64 y]) ?_ rfl ?_
      · simp [results, Try.results30, go_sem, y0, y1, y2, y3, y4, y5, y6, y7, y8]
      obtain ⟨g1, g2⟩ := HG'.out (by rw [HY.out]; exact hyn)
      unfold GetPost
      rw [g1, g2, HY.out]
      exact ⟨none, 0, rfl, DRow.nil _ _, hb07⟩
    | true =>
      by_cases hx : x = 0
      · subst hx
        have HY : Hid (D.gE L = 0) := Lib.hid (by rw [HE.out]; simp [hrt])
        clear hrt
        go_wp2_with fail
        refine (err_any hr5).mono ?_
        rintro e w7 ⟨rfl, rfl⟩
        obtain ⟨z0, z1, z2, z3, z4, z5, z6, z7, z8⟩ := set9 hBs5
        go_wp2_with (refine wpList_setv _ rfl 30 _ _ rfl Try.sizeSet gr _ rfl U A3 m c3 rfl hBr5 rfl ?_)
        intro w7 hRes hg7
        have hne := hrow5.blo hBr5 (by decide)
        have hR7 := hrow5.grown hg7 (fun b hb e => hne (hb.trans e))
        have hb07 := hb05.grown hg7 hb05.size (fun k hk => by injection hk with hk; omega)
        obtain ⟨y0, y1, y2, y3, y4, y5, y6, y7, y8⟩ := set9 hRes
        clear z0 z1 z2 z3 z4 z5 z6 z7 z8
        go_wp2
        refine bodyPost_ret (v := .tuple #[sv U A3 m c3, .int .i64 0]) ?_ rfl ?_
        · simp [results, Try.results30, go_sem, y0, y1, y2, y3, y4, y5, y6, y7, y8]
        obtain ⟨g1, g2⟩ := HG.out HY.out
        unfold GetPost
        rw [g1, g2, HY.out, HM.out]
        exact ⟨A3, c3, rfl, hR7.mono (by omega), hb07⟩
      · have HY : Hid (D.gE L = x) := Lib.hid (by rw [HE.out]; simp [hx])
        obtain ⟨y, hy⟩ : ∃ y, y = x := ⟨_, rfl⟩
        have hyn : y ≠ 0 := by rw [hy]; exact hx
        rw [← hy] at hr5 HY
        clear hrt hx hy
        have hyb : (y != 0) = true := by simpa using hyn
        go_wp2_with fail
        refine (err_any hr5).mono ?_
        rintro e w7 ⟨rfl, rfl⟩
        go_wp2_with (refine wpList_setv _ rfl 30 _ _ rfl Try.sizeSet gr _ rfl (fun _ => 0) none 0 0 rfl hBr5 rfl ?_)
        intro w7 hRes hg7
        have hb07 := hb05.grown hg7 hb05.size (fun k hk => by injection hk with hk; omega)
        obtain ⟨y0, y1, y2, y3, y4, y5, y6, y7, y8⟩ := set9 hRes
        go_wp2
        refine bodyPost_ret (v := .tuple #[sv (fun _ => 0) none 0 0, .int .i64 y]) ?_ rfl ?_
        · simp [results, Try.results30, go_sem, y0, y1, y2, y3, y4, y5, y6, y7, y8]
        obtain ⟨g1, g2⟩ := HG'.out (by rw [HY.out]; exact hyn)
        unfold GetPost
        rw [g1, g2, HY.out]
        exact ⟨none, 0, rfl, DRow.nil _ _, hb07⟩
  · have hpos : 0 < l'.length := List.length_pos_iff.2 hll
    have hp : (0 : Int) < (l'.length : Int) := by omega
    have HY : Hid (D.gE L = if x = 0 then 4 else x) := Lib.hid (by rw [HE.out]; simp [hll])
    have hF := fail_any (n := 4) hr4
    clear hll
    go_wp2_with fail
    clear hp hpos
    refine hF.mono ?_
    rintro e w6 ⟨rfl, hr6, hg6⟩
    have hBr6 := hBr4.grown hg6 (fun e => hgg (by injection e with e; exact e.symm))
    have hb06 : Below w.heap.size w w6 := hb04.grown hg6 hb04.size (fun k hk => by injection hk with hk; omega)
    obtain ⟨y, hy⟩ : ∃ y, y = if x = 0 then (4 : Int) else x := ⟨_, rfl⟩
    have hyn : y ≠ 0 := by rw [hy]; split <;> omega
    rw [← hy] at hr6 HY
    clear hF hg6 hy
    have hyb : (y != 0) = true := by simpa using hyn
    go_wp2_with fail
    refine (err_any hr6).mono ?_
    rintro e w7 ⟨rfl, rfl⟩
    go_wp2_with (refine wpList_setv _ rfl 30 _ _ rfl Try.sizeSet gr _ rfl (fun _ => 0) none 0 0 rfl hBr6 rfl ?_)
    intro w7 hRes hg7
    have hb07 := hb06.grown hg7 hb06.size (fun k hk => by injection hk with hk; omega)
    obtain ⟨y0, y1, y2, y3, y4, y5, y6, y7, y8⟩ := set9 hRes
    go_wp2
    refine bodyPost_ret (v := .tuple #[sv (fun _ => 0) none 0 0, .int .i64 y]) ?_ rfl ?_
    · simp [results, Try.results30, go_sem, y0, y1, y2, y3, y4, y5, y6, y7, y8]
    obtain ⟨g1, g2⟩ := HG'.out (by rw [HY.out]; exact hyn)
    unfold GetPost
    rw [g1, g2, HY.out]
    exact ⟨none, 0, rfl, DRow.nil _ _, hb07⟩
end Go.Proofs.Ytegppdobpihbnaa
