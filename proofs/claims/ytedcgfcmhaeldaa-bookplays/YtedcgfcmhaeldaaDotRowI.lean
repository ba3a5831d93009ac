/- Layer 6, what is asked of one dot or two: contracts of the program's. | Arrays of eight numbers held against each other. | Layer 6, where a dot stands: rows of dots searched and held against each other. -/
import Derived.Test.YtedcgfcmhaeldaaDotMem

section
namespace Go.Proofs.Ytedcgfcmhaeldaa
set_option linter.unusedVariables false
set_option linter.unusedSimpArgs false
open Go.ChangeShapes Go.WideShapes Go.ChangeAt Go.RowKit

set_option maxHeartbeats 400000 in
theorem maybe_any (a b : Int) (w : World) :
    Calls Try.prog 61 #[.agg #[.int .i64 a, .int .i64 b]] w fun e w' => e = .returned (.bool (D.may (a, b))) ∧ Below w.heap.size w w' := by
  go_enter Try.func61, Try.ntmps61
  go_wp2
  all_goals
    go_ret
    refine ⟨ret_bool ?_, b_alloc _ _⟩
    rw [Bool.eq_iff_iff]
    simp [D.may]
    try omega

set_option maxHeartbeats 400000 in
theorem ahead_any (a b c d : Int) (w : World) :
    Calls Try.prog 76 #[.agg #[.int .i64 a, .int .i64 b], .agg #[.int .i64 c, .int .i64 d]] w fun e w' => e = .returned (.bool (D.bef (a, b) (c, d))) ∧ Below w.heap.size w w' := by
  go_enter Try.func76, Try.ntmps76
  go_wp2
  all_goals
    go_ret
    refine ⟨ret_bool ?_, b_alloc2 _ _ _⟩
    rw [Bool.eq_iff_iff]
    simp [D.bef]
    try omega
end Go.Proofs.Ytedcgfcmhaeldaa
end

section
namespace Go.Proofs.Ytedcgfcmhaeldaa
set_option linter.unusedVariables false
set_option linter.unusedSimpArgs false
open Go.ChangeShapes Go.WideShapes Go.ChangeAt Go.RowKit

theorem Try.guardArr : Try.prog.eqGuardType Try.prog.depth 23 = false := by kernel_rfl
theorem eqIn_arr (U : Nat → Int) (W : World) : (Op.equalIn 10000 23 (av U) (av U)).run Try.prog W = .ok true W := by
  obtain ⟨i0, hi, hz0, hz1, hz2⟩ := info_parts Try.rowI64
  have hc : Try.prog.cellsOf 3 = 1 := by kernel_rfl
  have hr : List.range 8 = [0, 1, 2, 3, 4, 5, 6, 7] := rfl
  rw [run_equalIn_array W 9999 _ _ Try.underlying23 hi, hc, hr]
  simp [Op.eqItems, go_sem, part]
theorem eql_arr (U : Nat → Int) (W : World) : (binOp .eql 23 (av U) (av U)).run Try.prog W = .ok (.bool true) W := by
  rw [run_eql_struct, eqIn_arr]; rfl
end Go.Proofs.Ytedcgfcmhaeldaa
end

section
namespace Go.Proofs.Ytedcgfcmhaeldaa
set_option linter.unusedVariables false
set_option linter.unusedSimpArgs false
open Go.ChangeShapes Go.WideShapes Go.ChangeAt Go.RowKit

/-- Where a dot stands first: Index answers that, or -1. -/
def IndexP (M : List D.Dot) (d : D.Dot) (w : World) (e : Ending) (w' : World) : Prop :=
  ∃ k : Int, e = .returned (.int .i64 k) ∧ decide (0 ≤ k) = M.contains d ∧ Below w.heap.size w w'
theorem not_yet {M : List D.Dot} {d : D.Dot} {i : Nat} (hi : i < M.length) (h : ¬ d ∈ M.take i) (hne : M[i] ≠ d) : ¬ d ∈ M.take (i + 1) := by
  rw [List.take_succ_eq_append_getElem hi]
  simp only [List.mem_append, List.mem_singleton]
  rintro (h1 | h1)
  · exact h h1
  · exact hne h1.symm

set_option maxHeartbeats 1000000 in
theorem index_any (S : Nat → Prop) (A : Option Addr) (n c : Nat) (M : List D.Dot) (a b : Int) (w : World) (hn : M.length = n) (hr : Rds w S A (dvs M)) (hl : n ≤ 1000000) :
    Calls Try.prog 77 #[.slice A n c, .agg #[.int .i64 a, .int .i64 b]] w (IndexP M (a, b) w) := by
  have HN := Lib.hid hn
  clear hn
  go_enter Try.func77, Try.ntmps77
  go_wp2
  go_loopw [8] (fun iv wr => ∃ i : Nat, iv = .int .i64 i ∧ i ≤ n ∧ Hid (¬ (a, b) ∈ M.take i) ∧ Drew (w.alloc (.cells #[.int .i64 a, .int .i64 b] 39)) wr) (fun iv _ => n - (intOf iv).toNat)
  case atStart => exact ⟨0, rfl, Nat.zero_le _, Lib.hid (by simp), Drew.refl _⟩
  case round =>
    obtain ⟨i, rfl, hi, HJ, hd⟩ := hrel
    by_cases hlt : i < n
    · have hlt' : i < M.length := by rw [HN.out]; exact hlt
      obtain ⟨ad, rfl, _, c1, c2⟩ := (hd.rds (hr.alloc (.cells #[.int .i64 a, .int .i64 b] 39))).dot hlt'
      obtain ⟨x, hx⟩ : ∃ x, x = M[i] := ⟨_, rfl⟩
      rw [← hx] at c1 c2
      obtain ⟨x1, x2⟩ := x
      have HX := Lib.hid hx
      clear hx
      simp only at c1 c2
      have k1 : wr.cell? ⟨w.heap.size, 0, none⟩ = some (.int .i64 a) := by obtain ⟨nn, rfl⟩ := hd; simp
      have k2 : wr.cell? ⟨w.heap.size, 1, none⟩ = some (.int .i64 b) := by obtain ⟨nn, rfl⟩ := hd; simp
      have q1 := fun W => eql_dot a b x1 x2 W
      have q2 := Try.guardDot
      by_cases heq : a = x1 ∧ b = x2
      · have hb : (a == x1 && b == x2) = true := by simp [heq]
        rw [hb] at q1
        clear hb
        go_wp2
        go_quiet (fail)
        go_wp2
        go_ret
        refine ⟨(i : Int), rfl, ?_, (b_alloc _ _).trans ((hd.more _).below _)⟩
        have hm : (a, b) ∈ M := by rw [heq.1, heq.2, HX.out]; exact List.getElem_mem hlt'
        simp [hm]
      · have hb : (a == x1 && b == x2) = false := by simpa using heq
        rw [hb] at q1
        clear hb
        go_wp2
        go_quiet (fail)
        go_wp2
        go_roundw
        case rel => exact ⟨i + 1, by go_num, by omega, Lib.hid (not_yet hlt' HJ.out (by rw [← HX.out]; intro e; injection e with e1 e2; exact heq ⟨e1.symm, e2.symm⟩)), hd.more _⟩
        case measure => simp [intOf]; omega
    · have hm : ¬ (a, b) ∈ M := by have := HJ.out; rwa [List.take_of_length_le (by rw [HN.out]; omega)] at this
      have HM := Lib.hid hm
      clear hm
      go_wp2
      go_ret
      exact ⟨-1, rfl, by simp [HM.out], (b_alloc _ _).trans (hd.below _)⟩

set_option maxHeartbeats 1000000 in
theorem contains_any (S : Nat → Prop) (A : Option Addr) (n c : Nat) (M : List D.Dot) (a b : Int) (w : World) (hn : M.length = n) (hr : Rds w S A (dvs M)) (hl : n ≤ 1000000) :
    Calls Try.prog 63 #[.slice A n c, .agg #[.int .i64 a, .int .i64 b]] w fun e w' => e = .returned (.bool (M.contains (a, b))) ∧ Below w.heap.size w w' := by
  have HN := Lib.hid hn
  clear hn
  go_enter Try.func63, Try.ntmps63
  go_wp2_with fail
  refine (index_any S A n c M a b _ HN.out (hr.alloc _) hl).mono ?_
  rintro e w1 ⟨k, rfl, hk, hb⟩
  have HK := Lib.hid hk
  clear hk
  go_wp2
  go_ret
  exact ⟨ret_bool HK.out, (b_alloc _ _).trans (hb.mono (by simp))⟩
end Go.Proofs.Ytedcgfcmhaeldaa
end

