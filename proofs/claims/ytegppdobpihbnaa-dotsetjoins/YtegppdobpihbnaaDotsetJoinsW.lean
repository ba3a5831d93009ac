/- The walk of DotsetJoins: its argument opened. -/
import Derived.Test.YtegppdobpihbnaaDotsetJoinsM
namespace Go.Proofs.Ytegppdobpihbnaa
set_option linter.unusedVariables false
open Go.ChangeShapes Go.WideShapes Go.ChangeAt Go.RowKit

set_option maxRecDepth 1000000 in
theorem dotsetJoins_walk {H : Type} (enc : TypeId × Value → H) (v0 : Value) (w : World) (base : Nat) (d0 : DataW H) (p0 : List MemPlace) (o0 : Value.okWide Try.prog w .any base 65 v0) (k0 : DataW.Trod enc Try.prog w 0 (fun _ => true) true 65 v0 d0 p0) :
    Calls Try.prog 6 #[v0] w fun e w' => e = .returned (.bool true) ∧ Below w.heap.size w w' := by
  obtain ⟨U, A, n, c, M, U', A', n', c', M', U'', A'', n'', c'', M'', a, b, rfl, hS, hS', hS''⟩ := arg_three o0 k0
  exact joins_main U A n c M U' A' n' c' M' U'' A'' n'' c'' M'' a b w hS hS' hS''
end Go.Proofs.Ytegppdobpihbnaa
