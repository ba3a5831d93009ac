/- Policies are like or unlike. -/
import Derived.Test.YtodlifbhpgphcaaEvMem
namespace Go.Proofs.Ytodlifbhpgphcaa
set_option linter.unusedVariables false
set_option linter.unusedSimpArgs false
open Go.ChangeShapes Go.WideShapes Go.ChangeAt Go.RowKit

theorem Try.fieldsPol : (Try.prog.fieldsOf 43).toList.map (fun f => (f.type, f.offset)) = [(3, 0), (3, 1), (3, 2), (3, 3), (3, 4), (3, 5), (3, 6)] := by kernel_rfl
theorem Try.namesPol : (Try.prog.fieldsOf 43).toList.map (fun f => f.name) = ["Min", "Max", "Goal", "Slack", "Up", "Down", "Cool"] := by kernel_rfl
theorem Try.stoodPol : Try.prog.stoodInHeld 43 = false := by kernel_rfl
theorem Try.guardPol : Try.prog.eqGuardType Try.prog.depth 43 = false := by kernel_rfl
theorem Try.structPol : Try.prog.underlying 43 = some (.struct (Try.prog.fieldsOf 43)) := by kernel_rfl
theorem seven {α : Type} : ∀ {l : List α}, l.length = 7 → ∃ f0 f1 f2 f3 f4 f5 f6, l = [f0, f1, f2, f3, f4, f5, f6]
  | [f0, f1, f2, f3, f4, f5, f6], _ => ⟨f0, f1, f2, f3, f4, f5, f6, rfl⟩
  | [], h => by simp at h
  | [_], h => by simp at h
  | [_, _], h => by simp at h
  | [_, _, _], h => by simp at h
  | [_, _, _, _], h => by simp at h
  | [_, _, _, _, _], h => by simp at h
  | [_, _, _, _, _, _], h => by simp at h
  | _ :: _ :: _ :: _ :: _ :: _ :: _ :: _ :: _, h => by simp at h
theorem eqIn_pol (F G : Nat → Int) (W : World) : (Op.equalIn 10000 43 (pv F) (pv G)).run Try.prog W = .ok (F 6 == G 6 && F 7 == G 7 && F 8 == G 8 && F 9 == G 9 && F 10 == G 10 && F 11 == G 11 && F 12 == G 12) W := by
  rw [run_equalIn_agg W 9999 43 _ _ Try.structPol Try.stoodPol]
  have hn := Try.namesPol
  have hf := Try.fieldsPol
  obtain ⟨f0, f1, f2, f3, f4, f5, f6, e⟩ := seven (l := (Try.prog.fieldsOf 43).toList) (by have := congrArg List.length hf; simpa using this)
  rw [e] at hn hf ⊢
  simp only [List.map_cons, List.map_nil, List.cons.injEq, Prod.mk.injEq, and_true] at hn hf
  obtain ⟨n0, n1, n2, n3, n4, n5, n6⟩ := hn
  obtain ⟨⟨t0, o0⟩, ⟨t1, o1⟩, ⟨t2, o2⟩, ⟨t3, o3⟩, ⟨t4, o4⟩, ⟨t5, o5⟩, t6, o6⟩ := hf
  simp [Op.eqFields, n0, n1, n2, n3, n4, n5, n6, t0, t1, t2, t3, t4, t5, t6, o0, o1, o2, o3, o4, o5, o6, go_sem, part]
  by_cases e6 : F 6 = G 6 <;> simp [e6]
  by_cases e7 : F 7 = G 7 <;> simp [e7]
  by_cases e8 : F 8 = G 8 <;> simp [e8]
  by_cases e9 : F 9 = G 9 <;> simp [e9]
  by_cases e10 : F 10 = G 10 <;> simp [e10]
  by_cases e11 : F 11 = G 11 <;> simp [e11]
  by_cases e12 : F 12 = G 12 <;> simp [e12]
theorem eql_pol0 (F : Nat → Int) (W : World) : (binOp .eql 43 (pv F) (.agg #[.int .i64 0, .int .i64 0, .int .i64 0, .int .i64 0, .int .i64 0, .int .i64 0, .int .i64 0])).run Try.prog W = .ok (.bool (E.pz F)) W := by
  have h : (Op.equalIn 10000 43 (pv F) (.agg #[.int .i64 0, .int .i64 0, .int .i64 0, .int .i64 0, .int .i64 0, .int .i64 0, .int .i64 0])).run Try.prog W = .ok (F 6 == 0 && F 7 == 0 && F 8 == 0 && F 9 == 0 && F 10 == 0 && F 11 == 0 && F 12 == 0) W := eqIn_pol F (fun _ => 0) W
  rw [run_eql_struct, h]
  have : (F 6 == 0 && F 7 == 0 && F 8 == 0 && F 9 == 0 && F 10 == 0 && F 11 == 0 && F 12 == 0) = E.pz F := by
    rw [Bool.eq_iff_iff]
    simp [E.pz, and_assoc]
  rw [this]; rfl
end Go.Proofs.Ytodlifbhpgphcaa
