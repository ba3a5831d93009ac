/- Dots held against each other. -/
import Derived.Test.YtlckappnpdkihaaDotMem
import Derived.Laws.StructEq
import Derived.ChangeKeysEq
namespace Go.Proofs.Ytlckappnpdkihaa
set_option linter.unusedVariables false
set_option linter.unusedSimpArgs false
open Go.ChangeShapes Go.WideShapes Go.ChangeAt Go.RowKit

theorem Try.fieldsDot : (Try.prog.fieldsOf 23).toList.map (fun f => (f.name, f.type, f.offset)) = [("Node", 3, 0), ("Seq", 3, 1)] := by kernel_rfl
theorem Try.stoodDot : Try.prog.stoodInHeld 23 = false := by kernel_rfl
theorem Try.guardDot : Try.prog.eqGuardType Try.prog.depth 23 = false := by kernel_rfl
theorem Try.structDot : Try.prog.underlying 23 = some (.struct (Try.prog.fieldsOf 23)) := by kernel_rfl
theorem two_fields {fs : List Field} {p q : String × TypeId × Nat} (h : fs.map (fun f => (f.name, f.type, f.offset)) = [p, q]) : ∃ f g, fs = [f, g] ∧ (f.name, f.type, f.offset) = p ∧ (g.name, g.type, g.offset) = q := by
  cases fs with
  | nil => cases h
  | cons f fs =>
    cases fs with
    | nil => simp at h
    | cons g fs =>
      cases fs with
      | nil => simp at h; exact ⟨f, g, rfl, h.1, h.2⟩
      | cons _ _ => simp at h
theorem eqIn_dot (a b x y : Int) (W : World) : (Op.equalIn 10000 23 (.agg #[.int .i64 a, .int .i64 b]) (.agg #[.int .i64 x, .int .i64 y])).run Try.prog W = .ok (a == x && b == y) W := by
  rw [run_equalIn_agg W 9999 23 _ _ Try.structDot Try.stoodDot]
  obtain ⟨f, g, e, hf, hg⟩ := two_fields Try.fieldsDot
  rw [e]
  simp only [Prod.mk.injEq] at hf hg
  obtain ⟨h1, h2, h3⟩ := hf
  obtain ⟨h4, h5, h6⟩ := hg
  simp [Op.eqFields, h1, h2, h3, h4, h5, h6, go_sem, part]
  by_cases e1 : a = x <;> by_cases e2 : b = y <;> simp [e1, e2]
theorem eql_dot (a b x y : Int) (W : World) : (binOp .eql 23 (.agg #[.int .i64 a, .int .i64 b]) (.agg #[.int .i64 x, .int .i64 y])).run Try.prog W = .ok (.bool (a == x && b == y)) W := by
  rw [run_eql_struct, eqIn_dot]; rfl
theorem neq_dot (a b x y : Int) (W : World) : (binOp .neq 23 (.agg #[.int .i64 a, .int .i64 b]) (.agg #[.int .i64 x, .int .i64 y])).run Try.prog W = .ok (.bool (!(a == x && b == y))) W := by
  rw [run_neq_struct, eqIn_dot]; rfl
end Go.Proofs.Ytlckappnpdkihaa
