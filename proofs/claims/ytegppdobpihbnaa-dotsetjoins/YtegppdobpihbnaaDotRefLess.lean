/- Layer 6: the document's Less. -/
import Derived.Test.YtegppdobpihbnaaDotRefList
import Derived.Test.YtegppdobpihbnaaDotOf
import Derived.Test.YtegppdobpihbnaaDotMath3
import Derived.Test.YtegppdobpihbnaaDotAll
namespace Go.Proofs.Ytegppdobpihbnaa
set_option linter.unusedVariables false
set_option linter.unusedSimpArgs false
open Go.ChangeShapes Go.WideShapes Go.ChangeAt Go.RowKit

theorem contains_lst (S : D.Dot → Bool) {d : D.Dot} (hd : D.may d = true) : (D.lst S).contains d = S d := by
  rw [Bool.eq_iff_iff]
  simp only [List.contains_iff_mem, D.mem_lst, hd, true_and]
theorem contains_app (L N : List D.Dot) (d : D.Dot) : (L ++ N).contains d = (L.contains d || N.contains d) := by simp
/-- A row of dots, in a region that draws its order. -/
def dotsV (B : Nat) (L : List D.Dot) : StG := ⟨fun u w => DRow w B u L, fun _ _ _ h k => k.new h⟩
/-- A row of one dot, just made. -/
def oneV (a b : Int) : StG := ⟨fun u w => ∃ g, u = .slice (some ⟨g, 0, none⟩) 1 1 ∧ Blo w g 27 #[.int .i64 a, .int .i64 b], fun _ _ _ h ⟨g, e, k⟩ => ⟨g, e, k.new h⟩⟩

set_option maxHeartbeats 2000000 in
theorem rless_any (S S' : Nat → Prop) (U : Nat → Int) (A : Option Addr) (n c : Nat) (M : List D.Dot) (U' : Nat → Int) (A' : Option Addr) (n' c' : Nat) (M' : List D.Dot) (w : World) (hn : M.length = n) (hr : Rds w S A (dvs M)) (hl : n ≤ 1000000) (hn' : M'.length = n') (hr' : Rds w S' A' (dvs M')) (hl' : n' ≤ 1000000) :
    Calls Try.prog 27 #[sv U A n c, sv U' A' n' c'] w (DotsPost (D.lst (D.less U M U' M')) w) := by
  obtain ⟨w1, hw1⟩ : ∃ W, (w.alloc (.cells (scs U A n c) 35)).alloc (.cells (scs U' A' n' c') 35) = W := ⟨_, rfl⟩
  have hb1 : Below w.heap.size w w1 := by rw [← hw1]; exact b_alloc2 _ _ _
  have hX : Blo w1 w.heap.size 35 (scs U A n c) := by rw [← hw1]; exact (Blo.made _ _ _).alloc _
  have hY : Blo w1 (w.heap.size + 1) 35 (scs U' A' n' c') := by
    rw [← hw1]
    have := Blo.made (w.alloc (.cells (scs U A n c) 35)) 35 (scs U' A' n' c')
    simpa using this
  have hL := rlist_any S U A n c M w1 hn (hr.new hb1) hl
  obtain ⟨L, hLe⟩ : ∃ L, D.lst (D.has U M) = L := ⟨_, rfl⟩
  rw [hLe] at hL
  have hLl : L.length ≤ 768 := by rw [← hLe]; exact D.lst_len _
  have HF : Hid (D.lst (D.less U M U' M') = L.filter (fun d => !D.has U' M' d)) := Lib.hid (by
    rw [← hLe]
    unfold D.lst D.pre
    rw [List.filter_filter]
    refine List.filter_congr fun d _ => ?_
    unfold D.less
    cases D.has U' M' d <;> cases D.has U M d <;> rfl)
  obtain ⟨w1n, hw1n⟩ : ∃ k, k = w1.heap.size := ⟨_, rfl⟩
  obtain ⟨z0, z1, z2, z3, z4, z5, z6, z7, z8⟩ := set9 hX
  have HW := Lib.hid hw1
  have HN' := Lib.hid hn'
  clear hw1 hLe hn hn'
  go_enter Try.func27, Try.ntmps27
  go_wp2_with fail
  rw [HW.out]
  go_wp2_with fail
  refine hL.mono ?_
  rintro e w2 ⟨AL, cL, rfl, hRL, hb2⟩
  have hY2 := hY.new hb2
  have hr2' := (hr'.new hb1).new hb2
  have hb02 := below_new hb1 hb2
  have hrL := hRL.rds.old
  obtain ⟨N, hN⟩ : ∃ N, N = L.length := ⟨_, rfl⟩
  rw [← hN]
  have HNL := Lib.hid hN
  have hN768 : N ≤ 768 := by omega
  clear hN hL z0 z1 z2 z3 z4 z5 z6 z7 z8
  go_wp2
  go_loopw [5, 11] (fun ov iv wr => ∃ i : Nat, iv = .int .i64 i ∧ i ≤ N ∧ DRow wr w2.heap.size ov ((L.take i).filter fun d => !D.has U' M' d) ∧ Below w2.heap.size w2 wr) (fun _ iv _ => N - (intOf iv).toNat)
  case atStart => exact ⟨0, rfl, by omega, by simpa using DRow.nil _ _, Below.refl _ _⟩
  case round =>
    obtain ⟨i, rfl, hi, hR, hb⟩ := hrel
    have hbs := hb.size
    by_cases hlt : i < N
    · have hlt' : i < L.length := by rw [← HNL.out]; exact hlt
      obtain ⟨ad, rfl, _, c1, c2⟩ := (hrL.new hb).dot hlt'
      have htk := List.take_succ_eq_append_getElem hlt'
      obtain ⟨x, hx⟩ : ∃ x, x = L[i] := ⟨_, rfl⟩
      rw [← hx] at c1 c2 htk
      obtain ⟨x1, x2⟩ := x
      simp only at c1 c2
      have HTK := Lib.hid htk
      obtain ⟨w3, hw3⟩ : ∃ W, wr.alloc (.cells #[.int .i64 x1, .int .i64 x2] 27) = W := ⟨_, rfl⟩
      have hb3 : Below wr.heap.size wr w3 := by rw [← hw3]; exact b_alloc _ _
      have hD3 : Blo w3 wr.heap.size 27 #[.int .i64 x1, .int .i64 x2] := by rw [← hw3]; exact Blo.made _ _ _
      have hYr := hY2.new hb
      have hyl := hYr.lt
      obtain ⟨z0, z1, z2, z3, z4, z5, z6, z7, z8⟩ := set9 hYr
      have hH := rhas_any S' U' A' n' c' M' x1 x2 w3 HN'.out ((hr2'.new hb).new hb3) hl'
      have hR3 := hR.new hb3
      have hb03 := below_new hb hb3
      have HW3 := Lib.hid hw3
      have hfl : ((L.take i).filter fun d => !D.has U' M' d).length ≤ 768 := by have := List.length_filter_le (fun d => !D.has U' M' d) (L.take i); simp at this; omega
      clear hw3 hx htk hR
      cases hv : D.has U' M' (x1, x2) with
      | true =>
        rw [hv] at hH
        have HE : Hid (((L.take (i + 1)).filter fun d => !D.has U' M' d) = (L.take i).filter fun d => !D.has U' M' d) := Lib.hid (by rw [HTK.out, List.filter_append]; simp [hv])
        clear hv
        generalize ((L.take i).filter fun d => !D.has U' M' d) = Mq at *
        go_wp2_with fail
        rw [HW3.out]
        refine hH.mono ?_
        rintro e w4 ⟨rfl, hb4⟩
        have hR4 := hR3.new hb4
        have hb04 := below_new hb03 hb4
        clear hH z0 z1 z2 z3 z4 z5 z6 z7 z8 c1 c2
        go_wp2
        go_roundw
        case rel => exact ⟨i + 1, by go_num, by omega, by rw [HE.out]; exact hR4, hb04⟩
        case measure => simp [intOf]; omega
      | false =>
        rw [hv] at hH
        have HE : Hid (((L.take (i + 1)).filter fun d => !D.has U' M' d) = ((L.take i).filter fun d => !D.has U' M' d) ++ [(x1, x2)]) := Lib.hid (by rw [HTK.out, List.filter_append]; simp [hv])
        clear hv
        generalize ((L.take i).filter fun d => !D.has U' M' d) = Mq at *
        go_wp2_with fail
        rw [HW3.out]
        refine hH.mono ?_
        rintro e w4 ⟨rfl, hb4⟩
        have hR4 := hR3.new hb4
        have hb04 := below_new hb03 hb4
        have hs4 := hb04.size
        have hD4 := hD3.new hb4
        clear hH z0 z1 z2 z3 z4 z5 z6 z7 z8 c1 c2
        have k0 : w4.cell? ⟨wr.heap.size, 0, none⟩ = some (.int .i64 x1) := by simpa using hD4.cell 0
        have k1 : w4.cell? ⟨wr.heap.size, 1, none⟩ = some (.int .i64 x2) := by simpa using hD4.cell 1
        go_wp2_with (at_builtin; refine wpList_dapp _ rfl _ _ rfl w2.heap.size _ Mq rfl (hR4.alloc _) (fun _ => True) _ 1 1 [(x1, x2)] rfl rfl (dot_rds _ _ _ _) (by omega) (by simp; omega) ?_)
        intro v' V hown hg _
        have hbV : Below w2.heap.size w2 V := (hb04.alloc hs4 _).grown hg (by simp; omega) (fun k hk => (hR4.lt k hk).1)
        clear hg k0 k1
        go_wp2
        go_roundw
        case rel => exact ⟨i + 1, by go_num, by omega, by rw [HE.out]; exact hown, hbV⟩
        case measure => simp [intOf]; omega
    · have e8 : L.take i = L := List.take_of_length_le (by rw [← HNL.out]; omega)
      rw [e8] at hR
      clear e8
      obtain ⟨A8, c8, e, _⟩ := hR.form
      obtain ⟨N8, hN8⟩ : ∃ N, N = (L.filter fun d => !D.has U' M' d).length := ⟨_, rfl⟩
      rw [← hN8] at e
      subst e
      have HN8 := Lib.hid hN8
      have hs02 := hb02.size
      clear hN8
      go_wp2
      go_ret
      unfold DotsPost
      rw [HF.out, ← HN8.out]
      exact ⟨A8, c8, rfl, hR.mono hs02, below_new hb02 hb⟩

end Go.Proofs.Ytegppdobpihbnaa
