/- The walk of WindowLoads: its arguments opened. -/
import Derived.Test.YtodlifbhpgphcaaWindowLoadsM
import Derived.Test.YtodlifbhpgphcaaWinArgs
namespace Go.Proofs.Ytodlifbhpgphcaa
set_option linter.unusedVariables false
set_option linter.unusedSimpArgs false
open Go.ChangeShapes Go.WideShapes Go.ChangeAt Go.RowKit

set_option maxRecDepth 1000000 in
theorem windowLoads_walk {H : Type} (enc : TypeId × Value → H) (v0 : Value) (w : World) (base : Nat) (d0 : DataW H) (p0 : List MemPlace)
    (o0 : Value.okWide Try.prog w .any base 24 v0) (k0 : DataW.Trod enc Try.prog w 0 (fun _ => true) true 24 v0 d0 p0) (z0 : ∀ k ∈ d0.weights Try.prog 24, k ≤ reachBytes) :
    Calls Try.prog 3 #[v0] w fun e w' => e = .returned (.bool true) ∧ Below w.heap.size w w' := by
  obtain ⟨A, n, c, l, k, nd, sz, rfl, h0⟩ := arg_asked o0 k0 z0
  exact winloads_main A n c l k nd sz w h0
end Go.Proofs.Ytodlifbhpgphcaa
