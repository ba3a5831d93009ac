/- The walk of DotsetBytes: its arguments opened. -/
import Derived.Test.YtegppdobpihbnaaDotsetBytesM
namespace Go.Proofs.Ytegppdobpihbnaa
set_option linter.unusedVariables false
set_option linter.unusedSimpArgs false
open Go.ChangeShapes Go.WideShapes Go.ChangeAt Go.RowKit

set_option maxRecDepth 1000000 in
theorem dotsetBytes_walk {H : Type} (enc : TypeId × Value → H) (v0 v1 : Value) (w : World) (base : Nat) (d0 : DataW H) (p0 : List MemPlace) (d1 : DataW H) (p1 : List MemPlace) (o0 : Value.okWide Try.prog w .any base 25 v0) (k0 : DataW.Trod enc Try.prog w 0 (fun _ => true) true 25 v0 d0 p0)
    (o1 : Value.okWide Try.prog w .any base 55 v1) (k1 : DataW.Trod enc Try.prog w 0 (fun _ => true) true 55 v1 d1 p1) :
    Calls Try.prog 5 #[v0, v1] w fun e w' => e = .returned (.bool true) ∧ Below w.heap.size w w' := by
  obtain ⟨U, A, n, c, M, rfl, hS⟩ := arg_set o0 k0
  obtain ⟨a0, len0, cap0, zs, rfl, h0⟩ := arg_ints Try.underlying55 Try.underlying5 (by kernel_rfl) o1 k1
  have l0 := h0.len
  have hcap : len0 ≤ cap0 ∧ cap0 ≤ maxLen := by rcases h0 with ⟨_, h, h', _⟩ | ⟨_, _, h1, h2, h3, _⟩ <;> unfold maxLen at * <;> omega
  exact bytes_main U A n c M a0 len0 cap0 (zs.take len0) w hS l0.1.symm hcap.1 hcap.2 h0.rds h0.byt
end Go.Proofs.Ytegppdobpihbnaa
