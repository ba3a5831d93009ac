/- The walk of DotsetAsks: its arguments opened. -/
import Derived.Test.YtegppdobpihbnaaDotsetAsksM
namespace Go.Proofs.Ytegppdobpihbnaa
set_option linter.unusedVariables false
set_option linter.unusedSimpArgs false
open Go.ChangeShapes Go.WideShapes Go.ChangeAt Go.RowKit

set_option maxRecDepth 1000000 in
theorem dotsetAsks_walk {H : Type} (enc : TypeId × Value → H) (v0 v1 : Value) (w : World) (base : Nat) (d0 : DataW H) (p0 : List MemPlace) (d1 : DataW H) (p1 : List MemPlace) (o0 : Value.okWide Try.prog w .any base 25 v0) (k0 : DataW.Trod enc Try.prog w 0 (fun _ => true) true 25 v0 d0 p0)
    (o1 : Value.okWide Try.prog w .any base 27 v1) (k1 : DataW.Trod enc Try.prog w 0 (fun _ => true) true 27 v1 d1 p1) :
    Calls Try.prog 3 #[v0, v1] w fun e w' => e = .returned (.bool true) ∧ Below w.heap.size w w' := by
  obtain ⟨U, A, n, c, M, rfl, hS⟩ := arg_set o0 k0
  obtain ⟨a, b, rfl⟩ := arg_dot o1 k1
  exact asks_main U A n c M a b w hS
end Go.Proofs.Ytegppdobpihbnaa
