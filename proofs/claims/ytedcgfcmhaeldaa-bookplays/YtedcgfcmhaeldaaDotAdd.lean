/- Layer 6: Join, Add: the program's. -/
import Derived.Test.YtedcgfcmhaeldaaDotAll
namespace Go.Proofs.Ytedcgfcmhaeldaa
set_option linter.unusedVariables false
set_option linter.unusedSimpArgs false
open Go.ChangeShapes Go.WideShapes Go.ChangeAt Go.RowKit

set_option maxRecDepth 100000 in
set_option maxHeartbeats 2000000 in
theorem djoin_any (S S' : Nat → Prop) (U : Nat → Int) (A : Option Addr) (n c : Nat) (M : List D.Dot) (U' : Nat → Int) (A' : Option Addr) (n' c' : Nat) (M' : List D.Dot) (w : World) (hn : M.length = n) (hr : Rds w S A (dvs M)) (hl : n ≤ 1000000) (hn' : M'.length = n') (hr' : Rds w S' A' (dvs M')) (hl' : n' ≤ 1000000) :
    Calls Try.prog 37 #[sv U A n c, sv U' A' n' c'] w (SetPost (D.cU (D.join U M U' M')) (D.cM (D.join U M U' M')) w) := by
  obtain ⟨w1, hw1⟩ : ∃ W, ((w.alloc (.cells (scs U A n c) 53)).alloc (.cells (scs U' A' n' c') 53)).alloc (.cells (scs (fun _ => 0) none 0 0) 53) = W := ⟨_, rfl⟩
  have hb1 : Below w.heap.size w w1 := by rw [← hw1]; exact (b_alloc2 _ _ _).alloc (b_alloc2 _ _ _).size _
  have hz1 : w1.heap.size = w.heap.size + 3 := by rw [← hw1]; simp
  have hX : Blo w1 w.heap.size 53 (scs U A n c) := by rw [← hw1]; exact ((Blo.made _ _ _).alloc _).alloc _
  have hY : Blo w1 (w.heap.size + 1) 53 (scs U' A' n' c') := by
    rw [← hw1]
    have := (Blo.made (w.alloc (.cells (scs U A n c) 53)) 53 (scs U' A' n' c')).alloc (.cells (scs (fun _ => 0) none 0 0) 53)
    simpa using this
  have hZ : Blo w1 (w.heap.size + 2) 53 (scs (fun _ => 0) none 0 0) := by
    rw [← hw1]
    have := Blo.made ((w.alloc (.cells (scs U A n c) 53)).alloc (.cells (scs U' A' n' c') 53)) 53 (scs (fun _ => 0) none 0 0)
    simpa using this
  have hL := lay_any S U A n c M w1 hn (hr.new hb1) hl
  have hr1' := hr'.old.new hb1
  obtain ⟨z0, z1, z2, z3, z4, z5, z6, z7, z8⟩ := set9 hX
  obtain ⟨UT, hUT⟩ : ∃ V, D.cU (D.join U M U' M') = V := ⟨_, rfl⟩
  obtain ⟨MT, hMT⟩ : ∃ V, D.cM (D.join U M U' M') = V := ⟨_, rfl⟩
  have HU := Lib.hid hUT
  have HM := Lib.hid hMT
  rw [hUT, hMT]
  have HN' := Lib.hid hn'
  have HW := Lib.hid hw1
  have hmf : ∀ (fn : Fn) (first cap : Array Value) (w : World), (Instr.makeFunc fn first cap).run Try.prog w = .ok (.func fn first cap) w := fun _ _ _ _ => rfl
  clear hUT hMT hw1 hn hn'
  go_enter Try.func37, Try.ntmps37
  go_wp2_with fail
  rw [HW.out]
  go_wp2_with fail
  refine hL.mono ?_
  rintro e w2 ⟨g, rfl, ho, hg, hb2⟩
  have hY2 := hY.new hb2
  clear z0 z1 z2 z3 z4 z5 z6 z7 z8 hL
  obtain ⟨z0, z1, z2, z3, z4, z5, z6, z7, z8⟩ := set9 hY2
  have hov := over_any (K := 64) (.inl ⟨rfl, rfl⟩) U' A' n' c' M' w2 HN'.out ((hr1'.new hb2).mono fun b hb => by have := hb.2; omega) hl' ho
  go_wp2_with fail
  refine hov.mono ?_
  rintro e w3 ⟨rfl, ho3, hg3⟩
  have hl2 := closed_any w3 ho3
  have e3 : D.cU (into true U' M' (D.has U M)) = UT := HU.out
  have e4 : D.cM (into true U' M' (D.has U M)) = MT := HM.out
  rw [e3, e4] at hl2
  have hZ3 := (hZ.new hb2).grown hg3 (by simp; omega)
  clear hov z0 z1 z2 z3 z4 z5 z6 z7 z8 e3 e4
  have hsz := hb2.size
  have hb3 : Below w.heap.size w w3 := (below_new hb1 hb2).grown hg3 (by omega) (fun k hk => by injection hk with hk; omega)
  go_wp2_with fail
  refine hl2.mono ?_
  rintro e w4 ⟨B, d, rfl, hR, hb4⟩
  have hZ4 := hZ3.new hb4
  have hne := hR.blo hZ4 (by decide)
  clear hl2
  have hsz3 := hb3.size
  go_wp2_with (refine wpList_setv _ rfl 53 _ _ rfl Try.sizeSet (w.heap.size + 2) _ rfl UT B MT.length d rfl hZ4 rfl ?_)
  intro w5 hZ5 hg5
  have hR5 : DRow w5 w3.heap.size (.slice B MT.length d) MT := hR.grown hg5 (fun b hb e => hne (hb.trans e))
  have hb5 : Below w.heap.size w w5 := (below_new hb3 hb4).grown hg5 (below_new hb3 hb4).size (fun k hk => by injection hk with hk; omega)
  obtain ⟨y0, y1, y2, y3, y4, y5, y6, y7, y8⟩ := set9 hZ5
  go_wp2
  refine bodyPost_ret (v := sv UT B MT.length d) ?_ rfl ?_
  · simp [results, Try.results37, go_sem, y0, y1, y2, y3, y4, y5, y6, y7, y8]
  exact ⟨B, d, rfl, hR5.mono hsz3, hb5⟩

set_option maxRecDepth 100000 in
set_option maxHeartbeats 2000000 in
theorem dadd_any (S : Nat → Prop) (U : Nat → Int) (A : Option Addr) (n c : Nat) (M : List D.Dot) (a b : Int) (w : World) (hn : M.length = n) (hr : Rds w S A (dvs M)) (hl : n ≤ 1000000) :
    Calls Try.prog 38 #[sv U A n c, .agg #[.int .i64 a, .int .i64 b]] w (SetPost2 (D.add U M (a, b)) w) := by
  obtain ⟨w1, hw1⟩ : ∃ W, ((w.alloc (.cells (scs U A n c) 53)).alloc (.cells #[.int .i64 a, .int .i64 b] 39)).alloc (.cells (scs (fun _ => 0) none 0 0) 53) = W := ⟨_, rfl⟩
  have hb1 : Below w.heap.size w w1 := by rw [← hw1]; exact (b_alloc2 _ _ _).alloc (b_alloc2 _ _ _).size _
  have hz1 : w1.heap.size = w.heap.size + 3 := by rw [← hw1]; simp
  have hX : Blo w1 w.heap.size 53 (scs U A n c) := by rw [← hw1]; exact ((Blo.made _ _ _).alloc _).alloc _
  have hY : Blo w1 (w.heap.size + 1) 39 #[.int .i64 a, .int .i64 b] := by
    rw [← hw1]
    have := (Blo.made (w.alloc (.cells (scs U A n c) 53)) 39 #[.int .i64 a, .int .i64 b]).alloc (.cells (scs (fun _ => 0) none 0 0) 53)
    simpa using this
  have hZ : Blo w1 (w.heap.size + 2) 53 (scs (fun _ => 0) none 0 0) := by
    rw [← hw1]
    have := Blo.made ((w.alloc (.cells (scs U A n c) 53)).alloc (.cells #[.int .i64 a, .int .i64 b] 39)) 53 (scs (fun _ => 0) none 0 0)
    simpa using this
  have k0 : w1.cell? ⟨w.heap.size + 1, 0, none⟩ = some (.int .i64 a) := by simpa using hY.cell 0
  have k1 : w1.cell? ⟨w.heap.size + 1, 1, none⟩ = some (.int .i64 b) := by simpa using hY.cell 1
  have HW := Lib.hid hw1
  have HN := Lib.hid hn
  have hr1 := hr.new hb1
  have hM := maybe_any a b w1
  clear hw1 hn
  cases hm : D.may (a, b) with
  | false =>
    rw [hm] at hM
    have HA : Hid (D.add U M (a, b) = (fun _ => 0, [], 2)) := Lib.hid (by unfold D.add; rw [if_pos hm])
    rw [HA.out]
    clear hm
    go_enter Try.func38, Try.ntmps38
    go_wp2_with fail
    rw [HW.out]
    go_wp2_with fail
    refine hM.mono ?_
    rintro e w2 ⟨rfl, hb2⟩
    have hZ2 := hZ.new hb2
    clear hM k0 k1
    go_wp2_with (refine wpList_setv _ rfl 53 _ _ rfl Try.sizeSet (w.heap.size + 2) _ rfl (fun _ => 0) none 0 0 rfl hZ2 rfl ?_)
    intro w5 hZ5 hg5
    have hb5 : Below w.heap.size w w5 := (below_new hb1 hb2).grown hg5 (below_new hb1 hb2).size (fun k hk => by injection hk with hk; omega)
    obtain ⟨y0, y1, y2, y3, y4, y5, y6, y7, y8⟩ := set9 hZ5
    go_wp2
    refine bodyPost_ret (v := .tuple #[sv (fun _ => 0) none 0 0, .int .i64 2]) ?_ rfl ?_
    · simp [results, Try.results38, go_sem, y0, y1, y2, y3, y4, y5, y6, y7, y8]
    exact ⟨none, 0, rfl, DRow.nil _ _, hb5⟩
  | true =>
    rw [hm] at hM
    have Hm := Lib.hid hm
    have hm' := D.may_iff.1 hm
    simp only at hm'
    clear hm
    go_enter Try.func38, Try.ntmps38
    go_wp2_with fail
    rw [HW.out]
    go_wp2_with fail
    refine hM.mono ?_
    rintro e w2 ⟨rfl, hb2⟩
    have hX2 := hX.new hb2
    have hY2 := hY.new hb2
    have hZ2 := hZ.new hb2
    have hr2 := hr1.new hb2
    clear hM k0 k1
    obtain ⟨z0, z1, z2, z3, z4, z5, z6, z7, z8⟩ := set9 hX2
    have k0 : w2.cell? ⟨w.heap.size + 1, 0, none⟩ = some (.int .i64 a) := by simpa using hY2.cell 0
    have k1 : w2.cell? ⟨w.heap.size + 1, 1, none⟩ = some (.int .i64 b) := by simpa using hY2.cell 1
    have hH := has_any S U A n c M a b w2 HN.out hr2 hl
    have hb02 := below_new hb1 hb2
    have hsz2 := hb2.size
    cases hh : D.has U M (a, b) with
    | true =>
      rw [hh] at hH
      have HA : Hid (D.add U M (a, b) = (fun _ => 0, [], 9)) := Lib.hid (by unfold D.add; rw [if_neg (by rw [Hm.out]; decide), if_pos hh])
      clear hh
      go_wp2_with fail
      refine hH.mono ?_
      rintro e w3 ⟨rfl, hb3⟩
      have hZ3 := hZ2.new hb3
      clear hH k0 k1 z0 z1 z2 z3 z4 z5 z6 z7 z8
      go_wp2_with (refine wpList_setv _ rfl 53 _ _ rfl Try.sizeSet (w.heap.size + 2) _ rfl (fun _ => 0) none 0 0 rfl hZ3 rfl ?_)
      intro w5 hZ5 hg5
      have hb5 : Below w.heap.size w w5 := (below_new hb02 hb3).grown hg5 (below_new hb02 hb3).size (fun k hk => by injection hk with hk; omega)
      obtain ⟨y0, y1, y2, y3, y4, y5, y6, y7, y8⟩ := set9 hZ5
      go_wp2
      refine bodyPost_ret (v := .tuple #[sv (fun _ => 0) none 0 0, .int .i64 9]) ?_ rfl ?_
      · simp [results, Try.results38, go_sem, y0, y1, y2, y3, y4, y5, y6, y7, y8]
      rw [HA.out]
      exact ⟨none, 0, rfl, DRow.nil _ _, hb5⟩
    | false =>
      rw [hh] at hH
      obtain ⟨UT, hUT⟩ : ∃ V, D.cU (turn true (D.has U M) (a, b)) = V := ⟨_, rfl⟩
      obtain ⟨MT, hMT⟩ : ∃ V, D.cM (turn true (D.has U M) (a, b)) = V := ⟨_, rfl⟩
      have HA : Hid (D.add U M (a, b) = (UT, MT, 0)) := Lib.hid (by unfold D.add; rw [if_neg (by rw [Hm.out]; decide), if_neg (by rw [hh]; decide), ← hUT, ← hMT]; rfl)
      have HU := Lib.hid hUT
      have HM := Lib.hid hMT
      clear hh hUT hMT
      obtain ⟨nd, rfl⟩ := Int.eq_ofNat_of_zero_le hm'.1
      obtain ⟨sq, rfl⟩ := Int.eq_ofNat_of_zero_le (show 0 ≤ b by omega)
      go_wp2_with fail
      refine hH.mono ?_
      rintro e w3 ⟨rfl, hb3⟩
      have hX3 := hX2.new hb3
      have hY3 := hY2.new hb3
      have hZ3 := hZ2.new hb3
      have hL := lay_any S U A n c M w3 HN.out (hr2.new hb3) hl
      clear hH k0 k1 z0 z1 z2 z3 z4 z5 z6 z7 z8
      obtain ⟨z0, z1, z2, z3, z4, z5, z6, z7, z8⟩ := set9 hX3
      go_wp2_with fail
      refine hL.mono ?_
      rintro e w4 ⟨g, rfl, ho, hg, hb4⟩
      have hY4 := hY3.new hb4
      have hZ4 := hZ3.new hb4
      have k0 : w4.cell? ⟨w.heap.size + 1, 0, none⟩ = some (.int .i64 nd) := by simpa using hY4.cell 0
      have k1 : w4.cell? ⟨w.heap.size + 1, 1, none⟩ = some (.int .i64 sq) := by simpa using hY4.cell 1
      have hMk := mark_any nd sq w4 ho (by omega) (by omega) (by omega)
      clear hL z0 z1 z2 z3 z4 z5 z6 z7 z8
      go_wp2_with fail
      refine hMk.mono ?_
      rintro e w5 ⟨rfl, ho5, hg5⟩
      have hsz3 := hb3.size
      have hb04 := below_new (below_new hb02 hb3) hb4
      have hb05 : Below w.heap.size w w5 := hb04.grown hg5 hb04.size (fun k hk => by injection hk with hk; omega)
      have hZ5 := hZ4.grown hg5 (by simp; omega)
      have hcl := closed_any w5 ho5
      rw [HU.out, HM.out] at hcl
      clear hMk k0 k1
      go_wp2_with fail
      refine hcl.mono ?_
      rintro e w6 ⟨B, d, rfl, hR, hb6⟩
      have hZ6 := hZ5.new hb6
      have hne := hR.blo hZ6 (by decide)
      have hsz5 := hb05.size
      clear hcl
      go_wp2_with (refine wpList_setv _ rfl 53 _ _ rfl Try.sizeSet (w.heap.size + 2) _ rfl UT B MT.length d rfl hZ6 rfl ?_)
      intro w7 hZ7 hg7
      have hR7 : DRow w7 w5.heap.size (.slice B MT.length d) MT := hR.grown hg7 (fun b hb e => hne (hb.trans e))
      have hb06 := below_new hb05 hb6
      have hb7 : Below w.heap.size w w7 := hb06.grown hg7 hb06.size (fun k hk => by injection hk with hk; omega)
      obtain ⟨y0, y1, y2, y3, y4, y5, y6, y7, y8⟩ := set9 hZ7
      go_wp2
      refine bodyPost_ret (v := .tuple #[sv UT B MT.length d, .int .i64 0]) ?_ rfl ?_
      · simp [results, Try.results38, go_sem, y0, y1, y2, y3, y4, y5, y6, y7, y8]
      rw [HA.out]
      exact ⟨B, d, rfl, hR7.mono hsz5, hb7⟩
end Go.Proofs.Ytedcgfcmhaeldaa
