/- Layer 6: the document's Has, List. -/
import Derived.Test.YtegppdobpihbnaaDotRefRight
import Derived.Test.YtegppdobpihbnaaDotFace
namespace Go.Proofs.Ytegppdobpihbnaa
set_option linter.unusedVariables false
set_option linter.unusedSimpArgs false
open Go.ChangeShapes Go.WideShapes Go.ChangeAt Go.RowKit

set_option maxHeartbeats 2000000 in
theorem rhas_any (S : Nat → Prop) (U : Nat → Int) (A : Option Addr) (n c : Nat) (M : List D.Dot) (a b : Int) (w : World) (hn : M.length = n) (hr : Rds w S A (dvs M)) (hl : n ≤ 1000000) :
    Calls Try.prog 18 #[sv U A n c, .agg #[.int .i64 a, .int .i64 b]] w fun e w' => e = .returned (.bool (D.has U M (a, b))) ∧ Below w.heap.size w w' := by
  have HN := Lib.hid hn
  clear hn
  obtain ⟨w1, hw1⟩ : ∃ W, (w.alloc (.cells (scs U A n c) 35)).alloc (.cells #[.int .i64 a, .int .i64 b] 27) = W := ⟨_, rfl⟩
  have hb1 : Below w.heap.size w w1 := by rw [← hw1]; exact b_alloc2 _ _ _
  have hSt : Blo w1 w.heap.size 35 (scs U A n c) := by rw [← hw1]; exact (Blo.made _ _ _).alloc _
  have hDt : Blo w1 (w.heap.size + 1) 27 #[.int .i64 a, .int .i64 b] := by
    rw [← hw1]
    have := Blo.made (w.alloc (.cells (scs U A n c) 35)) 27 #[.int .i64 a, .int .i64 b]
    simpa using this
  have HW := Lib.hid hw1
  have hrw := hr.new hb1
  have hR := rright_any S U A n c M w1 HN.out hrw hl
  obtain ⟨z0, z1, z2, z3, z4, z5, z6, z7, z8⟩ := set9 hSt
  clear hw1
  go_enter Try.func18, Try.ntmps18
  go_wp2_with fail
  rw [HW.out]
  go_wp2_with fail
  refine hR.mono ?_
  rintro e w2 ⟨rfl, hb2⟩
  have hSt2 := hSt.new hb2
  have hDt2 := hDt.new hb2
  have hr2 := hrw.new hb2
  have hb02 := below_new hb1 hb2
  have hM := rmay_any a b w2
  have k0 : w2.cell? ⟨w.heap.size + 1, 0, none⟩ = some (.int .i64 a) := by simpa using hDt2.cell 0
  have k1 : w2.cell? ⟨w.heap.size + 1, 1, none⟩ = some (.int .i64 b) := by simpa using hDt2.cell 1
  clear hR z0 z1 z2 z3 z4 z5 z6 z7 z8
  cases hrt : D.rt U M with
  | false =>
    have HF := Lib.hid (D.has_no (U := U) (M := M) (d := (a, b)) (.inr hrt))
    clear hrt
    go_wp2
    go_ret
    exact ⟨ret_bool HF.out.symm, hb02⟩
  | true =>
    have HT := Lib.hid hrt
    clear hrt
    cases hm : D.may (a, b) with
    | false =>
      have HF := Lib.hid (D.has_no (U := U) (M := M) (d := (a, b)) (.inl hm))
      rw [hm] at hM
      clear hm
      go_wp2_with fail
      refine hM.mono ?_
      rintro e w3 ⟨rfl, hb3⟩
      clear hM k0 k1
      go_wp2
      go_ret
      exact ⟨ret_bool HF.out.symm, below_new hb02 hb3⟩
    | true =>
      have HH := Lib.hid (D.has_yes (U := U) (M := M) hm HT.out)
      have hm' := D.may_iff.1 hm
      simp only at hm'
      rw [hm] at hM
      clear hm
      obtain ⟨nd, rfl⟩ := Int.eq_ofNat_of_zero_le hm'.1
      have hnd : nd < 8 := by omega
      have nI : (nd : Int) < 8 := by omega
      have HUn : Hid (U (((nd : Int), b) : D.Dot).1.toNat = U nd) := Lib.hid (by simp)
      go_wp2_with fail
      refine hM.mono ?_
      rintro e w3 ⟨rfl, hb3⟩
      have hSt3 := hSt2.new hb3
      have hDt3 := hDt2.new hb3
      have hr3 := hr2.new hb3
      have hb03 := below_new hb02 hb3
      clear hM k0 k1
      have k0 : w3.cell? ⟨w.heap.size + 1, 0, none⟩ = some (.int .i64 nd) := by simpa using hDt3.cell 0
      have k1 : w3.cell? ⟨w.heap.size + 1, 1, none⟩ = some (.int .i64 b) := by simpa using hDt3.cell 1
      have ku : w3.cell? ⟨w.heap.size, nd, none⟩ = some (.int .i64 (U nd)) := (hSt3.cell nd).trans (scs_at U _ _ _ hnd)
      by_cases hup : b ≤ U nd
      · have HTr : Hid (D.has U M ((nd : Int), b) = true) := Lib.hid (by rw [HH.out, HUn.out]; simp [hup])
        go_wp2_with fail
        go_quiet (fail)
        clear k0 k1 ku
        go_wp2
        go_ret
        exact ⟨ret_bool HTr.out.symm, below_drewN hb03 _⟩
      · have HTr : Hid (D.has U M ((nd : Int), b) = M.contains ((nd : Int), b)) := Lib.hid (by rw [HH.out, HUn.out]; simp [hup])
        go_wp2_with fail
        go_quiet (fail)
        obtain ⟨w4, hd, hw4⟩ : ∃ W, Drew w3 W ∧ w3.drewN nq = W := ⟨_, ⟨nq, rfl⟩, rfl⟩
        rw [hw4]
        clear k0 k1 ku hw4
        have hSt4 := hd.blo hSt3
        have hDt4 := hd.blo hDt3
        have hr4 := hd.rds hr3
        have hb04 : Below w.heap.size w w4 := hb03.trans (hd.below _)
        have k8 : w4.cell? ⟨w.heap.size, 8, none⟩ = some (.slice A n c) := by simpa using hSt4.cell 8
        go_wp2
        go_loopw [26] (fun iv wr => ∃ i : Nat, iv = .int .i64 i ∧ i ≤ n ∧ Hid (¬ ((nd : Int), b) ∈ M.take i) ∧ Below w4.heap.size w4 wr) (fun iv _ => n - (intOf iv).toNat)
        case atStart => exact ⟨0, rfl, Nat.zero_le _, Lib.hid (by simp), Below.refl _ _⟩
        case round =>
          obtain ⟨i, rfl, hi, HJ, hb⟩ := hrel
          have hbs := hb.size
          have hb04s := hb04.size
          by_cases hlt : i < n
          · have hlt' : i < M.length := by rw [HN.out]; exact hlt
            obtain ⟨ad, rfl, _, c1, c2⟩ := (hr4.new hb).dot hlt'
            obtain ⟨x, hx⟩ : ∃ x, x = M[i] := ⟨_, rfl⟩
            rw [← hx] at c1 c2
            obtain ⟨x1, x2⟩ := x
            have HX := Lib.hid hx
            clear hx
            simp only at c1 c2
            have hDtr := hDt4.new hb
            have k0 : wr.cell? ⟨w.heap.size + 1, 0, none⟩ = some (.int .i64 nd) := by simpa using hDtr.cell 0
            have k1 : wr.cell? ⟨w.heap.size + 1, 1, none⟩ = some (.int .i64 b) := by simpa using hDtr.cell 1
            have hdl := hDtr.lt
            have q1 := fun W => eql_dot x1 x2 (nd : Int) b W
            have q2 := Try.guardDot
            by_cases heq : x1 = (nd : Int) ∧ x2 = b
            · have hbb : (x1 == (nd : Int) && x2 == b) = true := by simp [heq]
              rw [hbb] at q1
              have hmem : ((nd : Int), b) ∈ M := by rw [← heq.1, ← heq.2, HX.out]; exact List.getElem_mem hlt'
              have HC : Hid (D.has U M ((nd : Int), b) = true) := Lib.hid (by rw [HTr.out]; simp [hmem])
              clear hbb hmem
              go_wp2
              go_ret
              exact ⟨ret_bool HC.out.symm, hb04.trans ((hb.mono hb04s).alloc (by omega) _)⟩
            · have hbb : (x1 == (nd : Int) && x2 == b) = false := by simpa using heq
              rw [hbb] at q1
              have HJ' := Lib.hid (not_yet hlt' HJ.out (by rw [← HX.out]; intro e; injection e with e1 e2; exact heq ⟨e1, e2⟩))
              clear hbb
              go_wp2
              go_roundw
              case rel => exact ⟨i + 1, by go_num, by omega, HJ', hb.alloc hb.size _⟩
              case measure => simp [intOf]; omega
          · have hmem : ¬ ((nd : Int), b) ∈ M := by have := HJ.out; rwa [List.take_of_length_le (by rw [HN.out]; omega)] at this
            have HC : Hid (D.has U M ((nd : Int), b) = false) := Lib.hid (by rw [HTr.out]; simp [hmem])
            clear hmem
            go_wp2
            go_ret
            exact ⟨ret_bool HC.out.symm, hb04.trans (hb.mono hb04s)⟩
end Go.Proofs.Ytegppdobpihbnaa
