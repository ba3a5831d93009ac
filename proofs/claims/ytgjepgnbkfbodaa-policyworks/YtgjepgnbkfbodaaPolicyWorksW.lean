/- The walk of PolicyWorks: its argument opened. -/
import Derived.Test.YtgjepgnbkfbodaaPolWorksM
namespace Go.Proofs.Ytgjepgnbkfbodaa
set_option linter.unusedVariables false
set_option linter.unusedSimpArgs false
open Go.ChangeShapes Go.WideShapes Go.ChangeAt Go.RowKit

set_option maxRecDepth 1000000 in
theorem policyWorks_walk {H : Type} (enc : TypeId × Value → H) (v0 : Value) (w : World) (base : Nat) (d0 : DataW H) (p0 : List MemPlace)
    (o0 : Value.okWide Try.prog w .any base 22 v0) (k0 : DataW.Trod enc Try.prog w 0 (fun _ => true) true 22 v0 d0 p0) (z0 : ∀ k ∈ d0.weights Try.prog 22, k ≤ reachBytes) :
    Calls Try.prog 7 #[v0] w fun e w' => e = .returned (.bool true) ∧ Below w.heap.size w w' := by
  obtain ⟨A, n, c, l, rfl, h0⟩ := arg_evs o0 k0 z0
  exact polworks_main A n c l w h0
end Go.Proofs.Ytgjepgnbkfbodaa
