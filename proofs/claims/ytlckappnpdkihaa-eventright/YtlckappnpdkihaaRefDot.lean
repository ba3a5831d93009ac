/- Layer 6, the document's own: what is asked of one dot or two, and of two rows of dots. -/
import Derived.Test.YtlckappnpdkihaaDotEqD
import Derived.BigQuiet
namespace Go.Proofs.Ytlckappnpdkihaa
set_option linter.unusedVariables false
set_option linter.unusedSimpArgs false
open Go.ChangeShapes Go.WideShapes Go.ChangeAt Go.RowKit

theorem ret_bool {a b : Bool} (h : a = b) : Ending.returned (.bool a) = .returned (.bool b) := by rw [h]
theorem b_alloc (w : World) (o : Obj) : Below w.heap.size w (w.alloc o) := (Below.refl _ _).alloc (Nat.le_refl _) o
theorem b_alloc2 (w : World) (o o' : Obj) : Below w.heap.size w ((w.alloc o).alloc o') := (b_alloc w o).alloc (b_alloc w o).size o'

set_option maxHeartbeats 400000 in
theorem rmay_any (a b : Int) (w : World) :
    Calls Try.prog 35 #[.agg #[.int .i64 a, .int .i64 b]] w fun e w' => e = .returned (.bool (D.may (a, b))) ∧ Below w.heap.size w w' := by
  go_enter Try.func35, Try.ntmps35
  go_wp2
  all_goals
    go_ret
    refine ⟨ret_bool ?_, b_alloc _ _⟩
    rw [Bool.eq_iff_iff]
    simp [D.may]
    try omega

set_option maxHeartbeats 400000 in
theorem rbefore_any (a b c d : Int) (w : World) :
    Calls Try.prog 36 #[.agg #[.int .i64 a, .int .i64 b], .agg #[.int .i64 c, .int .i64 d]] w fun e w' => e = .returned (.bool (D.bef (a, b) (c, d))) ∧ Below w.heap.size w w' := by
  go_enter Try.func36, Try.ntmps36
  go_wp2
  all_goals
    go_ret
    refine ⟨ret_bool ?_, b_alloc2 _ _ _⟩
    rw [Bool.eq_iff_iff]
    simp [D.bef]
    try omega

set_option maxHeartbeats 1000000 in
theorem dots_yes (S T : Nat → Prop) (A B : Option Addr) (n c d : Nat) (M : List D.Dot) (w : World) (hn : M.length = n) (hA : Rds w S A (dvs M)) (hB : Rds w T B (dvs M)) (hl : n ≤ 1000000) :
    Calls Try.prog 53 #[.slice A n c, .slice B n d] w fun e w' => e = .returned (.bool true) ∧ Drew w w' := by
  have HN := Lib.hid hn
  clear hn
  go_enter Try.func53, Try.ntmps53
  go_wp2
  go_loopw [13] (fun iv wr => ∃ i : Nat, iv = .int .i64 i ∧ i ≤ n ∧ Drew w wr) (fun iv _ => n - (intOf iv).toNat)
  case atStart => exact ⟨0, rfl, Nat.zero_le _, Drew.refl w⟩
  case round =>
    obtain ⟨i, rfl, hi, hd⟩ := hrel
    by_cases hlt : i < n
    · have hlt' : i < M.length := by rw [HN.out]; exact hlt
      obtain ⟨ad, rfl, _, c1, c2⟩ := (hd.rds hA).dot hlt'
      obtain ⟨bd, rfl, _, c3, c4⟩ := (hd.rds hB).dot hlt'
      have q1 : ∀ W, (binOp .neq 23 (.agg #[.int .i64 M[i].1, .int .i64 M[i].2]) (.agg #[.int .i64 M[i].1, .int .i64 M[i].2])).run Try.prog W = .ok (.bool false) W := fun W => by rw [neq_dot]; simp
      generalize M[i].1 = x1 at *
      generalize M[i].2 = x2 at *
      have q2 := Try.guardDot
      go_wp2
      go_quiet (fail)
      go_wp2
      go_roundw
      case rel => exact ⟨i + 1, by go_num, by omega, hd.more _⟩
      case measure => simp [intOf]; omega
    · go_wp2
      go_ret
      exact ⟨rfl, hd⟩
end Go.Proofs.Ytlckappnpdkihaa
