/- Layer 6: Has: the program's. -/
import Derived.Test.YtedcgfcmhaeldaaDotRight
namespace Go.Proofs.Ytedcgfcmhaeldaa
set_option linter.unusedVariables false
set_option linter.unusedSimpArgs false
open Go.ChangeShapes Go.WideShapes Go.ChangeAt Go.RowKit

/-- A set's nine cells. -/
theorem set9 {w : World} {r : Nat} {t : TypeId} {U : Nat → Int} {A : Option Addr} {n c : Nat} (h : Blo w r t (scs U A n c)) :
    w.cell? ⟨r, 0, none⟩ = some (.int .i64 (U 0)) ∧ w.cell? ⟨r, 1, none⟩ = some (.int .i64 (U 1)) ∧ w.cell? ⟨r, 2, none⟩ = some (.int .i64 (U 2)) ∧ w.cell? ⟨r, 3, none⟩ = some (.int .i64 (U 3)) ∧ w.cell? ⟨r, 4, none⟩ = some (.int .i64 (U 4)) ∧
      w.cell? ⟨r, 5, none⟩ = some (.int .i64 (U 5)) ∧ w.cell? ⟨r, 6, none⟩ = some (.int .i64 (U 6)) ∧ w.cell? ⟨r, 7, none⟩ = some (.int .i64 (U 7)) ∧ w.cell? ⟨r, 8, none⟩ = some (.slice A n c) :=
  ⟨by simpa using h.cell 0, by simpa using h.cell 1, by simpa using h.cell 2, by simpa using h.cell 3, by simpa using h.cell 4, by simpa using h.cell 5, by simpa using h.cell 6, by simpa using h.cell 7, by simpa using h.cell 8⟩

set_option maxHeartbeats 2000000 in
theorem has_any (S : Nat → Prop) (U : Nat → Int) (A : Option Addr) (n c : Nat) (M : List D.Dot) (a b : Int) (w : World) (hn : M.length = n) (hr : Rds w S A (dvs M)) (hl : n ≤ 1000000) :
    Calls Try.prog 36 #[sv U A n c, .agg #[.int .i64 a, .int .i64 b]] w fun e w' => e = .returned (.bool (D.has U M (a, b))) ∧ Below w.heap.size w w' := by
  have HN := Lib.hid hn
  clear hn
  obtain ⟨w1, hw1⟩ : ∃ W, (w.alloc (.cells (scs U A n c) 53)).alloc (.cells #[.int .i64 a, .int .i64 b] 39) = W := ⟨_, rfl⟩
  have hb1 : Below w.heap.size w w1 := by rw [← hw1]; exact b_alloc2 _ _ _
  have hSt : Blo w1 w.heap.size 53 (scs U A n c) := by rw [← hw1]; exact (Blo.made _ _ _).alloc _
  have hDt : Blo w1 (w.heap.size + 1) 39 #[.int .i64 a, .int .i64 b] := by
    rw [← hw1]
    have := Blo.made (w.alloc (.cells (scs U A n c) 53)) 39 #[.int .i64 a, .int .i64 b]
    simpa using this
  have HW := Lib.hid hw1
  have hM := maybe_any a b w1
  have k0 : w1.cell? ⟨w.heap.size + 1, 0, none⟩ = some (.int .i64 a) := by simpa using hDt.cell 0
  have k1 : w1.cell? ⟨w.heap.size + 1, 1, none⟩ = some (.int .i64 b) := by simpa using hDt.cell 1
  clear hw1
  cases hm : D.may (a, b) with
  | false =>
    rw [hm] at hM
    have HF := Lib.hid (D.has_no (U := U) (M := M) (d := (a, b)) (.inl hm))
    clear hm
    go_enter Try.func36, Try.ntmps36
    go_wp2_with fail
    rw [HW.out]
    go_wp2_with fail
    refine hM.mono ?_
    rintro e w2 ⟨rfl, hb2⟩
    clear hM k0 k1
    go_wp2
    go_ret
    exact ⟨ret_bool HF.out.symm, below_new hb1 hb2⟩
  | true =>
    rw [hm] at hM
    have Hm := Lib.hid hm
    have hm' := D.may_iff.1 hm
    simp only at hm'
    clear hm
    obtain ⟨nd, rfl⟩ := Int.eq_ofNat_of_zero_le hm'.1
    have hnd : nd < 8 := by omega
    have nI : (nd : Int) < 8 := by omega
    have hrw := hr.new hb1
    go_enter Try.func36, Try.ntmps36
    go_wp2_with fail
    rw [HW.out]
    go_wp2_with fail
    refine hM.mono ?_
    rintro e w2 ⟨rfl, hb2⟩
    have hSt2 := hSt.new hb2
    have hDt2 := hDt.new hb2
    obtain ⟨z0, z1, z2, z3, z4, z5, z6, z7, z8⟩ := set9 hSt2
    have hR := right_any S U A n c M w2 HN.out (hrw.new hb2) hl
    clear hM k0 k1
    go_wp2_with fail
    refine hR.mono ?_
    rintro e w3 ⟨rfl, hb3⟩
    have hSt3 := hSt2.new hb3
    have hDt3 := hDt2.new hb3
    have hr3 := (hrw.new hb2).new hb3
    have hball := below_new (below_new hb1 hb2) hb3
    clear hR z0 z1 z2 z3 z4 z5 z6 z7 z8
    cases hrt : D.rt U M with
    | false =>
      have HF := Lib.hid (D.has_no (U := U) (M := M) (d := ((nd : Int), b)) (.inr hrt))
      clear hrt
      go_wp2
      go_ret
      exact ⟨ret_bool HF.out.symm, hball⟩
    | true =>
      have HH := Lib.hid (D.has_yes (U := U) (M := M) Hm.out hrt)
      have HUn : Hid (U (((nd : Int), b) : D.Dot).1.toNat = U nd) := Lib.hid (by simp)
      have K0 : ∀ W, Grows w3 W → W.cell? ⟨w.heap.size + 1, 0, none⟩ = some (.int .i64 nd) := fun W hW => by simpa using (hDt3.new hW).cell 0
      have K1 : ∀ W, Grows w3 W → W.cell? ⟨w.heap.size + 1, 1, none⟩ = some (.int .i64 b) := fun W hW => by simpa using (hDt3.new hW).cell 1
      have KU : ∀ W, Grows w3 W → W.cell? ⟨w.heap.size, nd, none⟩ = some (.int .i64 (U nd)) := fun W hW => ((hSt3.new hW).cell nd).trans (scs_at U _ _ _ hnd)
      have K8 : ∀ W, Grows w3 W → W.cell? ⟨w.heap.size, 8, none⟩ = some (.slice A n c) := fun W hW => by simpa using (hSt3.new hW).cell 8
      have HC := Lib.hid (fun V (hV : Grows w3 V) => contains_any S A n c M (nd : Int) b V HN.out (hr3.new hV) hl)
      clear hrt
      by_cases hup : b ≤ U nd
      · have HT : Hid (D.has U M ((nd : Int), b) = true) := Lib.hid (by rw [HH.out, HUn.out]; simp [hup])
        go_wp2_with fail
        refine wp_fam (n := 14) (size := 27) (D := [13, 14, 15, 16, 17, 18, 19, 20, 21, 22, 23, 24, 25, 26]) [(13, isV (.pointer (some ⟨w.heap.size + 1, 1, none⟩))), (14, isV (.int .i64 b)), (15, isV (.pointer (some ⟨w.heap.size + 1, 0, none⟩))), (16, isV (.int .i64 nd)), (17, isV (.pointer (some ⟨w.heap.size, 0, none⟩))), (18, isV (.pointer (some ⟨w.heap.size, nd, none⟩))), (19, isV (.int .i64 (U nd))), (20, isV (.bool true)), (21, isV (.bool true)), (22, isV undef), (23, isV undef), (24, isV undef), (25, isV undef), (26, isV (.bool true))] (by kernel_rfl) (by rfl) (by kernel_rfl) ?_ ?_
        · simp only [List.take_succ_cons, List.take_zero, famAll]
          repeat' apply And.intro
          all_goals first
            | trivial
            | (intro f V hg hl
               have k0 := K0 V hg
               have k1 := K1 V hg
               have ku := KU V hg
               simp [Oper.looksAt, Op.operands, Call.operands, famAt, famOf, isV] at hl
               simp [famWants, boolIs_bool, boolIs_undef, execOp, rho, go_sem, hl, k0, k1, ku, nI, hup, famUpon, famOf, isV, Grows.refl])
        · intro u V hg hu
          have h26 : u 26 = .bool true := hu 26 (by decide)
          simp only [List.drop_succ_cons, List.drop_zero, fill, Act.put, List.setIfInBounds_toArray, List.set_cons_zero, List.set_cons_succ, h26]
          clear hu h26 K0 K1 KU K8
          go_wp2
          go_ret
          exact ⟨ret_bool HT.out.symm, below_new hball hg⟩
      · have HT : Hid (D.has U M ((nd : Int), b) = M.contains ((nd : Int), b)) := Lib.hid (by rw [HH.out, HUn.out]; simp [hup])
        obtain ⟨q, hq⟩ : ∃ q, q = M.contains ((nd : Int), b) := ⟨_, rfl⟩
        rw [← hq] at HC HT
        clear hq
        go_wp2_with fail
        refine wp_fam (n := 14) (size := 27) (D := [13, 14, 15, 16, 17, 18, 19, 20, 21, 22, 23, 24, 25, 26]) [(13, isV (.pointer (some ⟨w.heap.size + 1, 1, none⟩))), (14, isV (.int .i64 b)), (15, isV (.pointer (some ⟨w.heap.size + 1, 0, none⟩))), (16, isV (.int .i64 nd)), (17, isV (.pointer (some ⟨w.heap.size, 0, none⟩))), (18, isV (.pointer (some ⟨w.heap.size, nd, none⟩))), (19, isV (.int .i64 (U nd))), (20, isV (.bool false)), (21, isV (.bool false)), (22, isV (.pointer (some ⟨w.heap.size, 8, none⟩))), (23, isV (.slice A n c)), (24, isV (.agg #[.int .i64 nd, .int .i64 b])), (25, isV (.bool q)), (26, isV (.bool q))] (by kernel_rfl) (by rfl) (by kernel_rfl) ?_ ?_
        · simp only [List.take_succ_cons, List.take_zero, famAll]
          repeat' apply And.intro
          all_goals first
            | trivial
            | (intro f V hg hl
               have k0 := K0 V hg
               have k1 := K1 V hg
               have ku := KU V hg
               have k8 := K8 V hg
               simp [Oper.looksAt, Op.operands, Call.operands, famAt, famOf, isV] at hl
               simp [famWants, boolIs_bool, boolIs_undef, execOp, rho, go_sem, hl, k0, k1, ku, k8, nI, hup, famUpon, famOf, isV, Grows.refl]
               try exact HC.out V hg)
        · intro u V hg hu
          have h26 : u 26 = .bool q := hu 26 (by decide)
          simp only [List.drop_succ_cons, List.drop_zero, fill, Act.put, List.setIfInBounds_toArray, List.set_cons_zero, List.set_cons_succ, h26]
          clear hu h26 K0 K1 KU K8
          go_wp2
          go_ret
          exact ⟨ret_bool HT.out.symm, below_new hball hg⟩
end Go.Proofs.Ytedcgfcmhaeldaa
