/- The walk of WindowMeans: its arguments opened. -/
import Derived.Test.YtodlifbhpgphcaaWindowMeansM
import Derived.Test.YtodlifbhpgphcaaWinArgs
namespace Go.Proofs.Ytodlifbhpgphcaa
set_option linter.unusedVariables false
set_option linter.unusedSimpArgs false
open Go.ChangeShapes Go.WideShapes Go.ChangeAt Go.RowKit

set_option maxRecDepth 1000000 in
theorem windowMeans_walk {H : Type} (enc : TypeId × Value → H) (v0 : Value) (w : World) (base : Nat) (d0 : DataW H) (p0 : List MemPlace)
    (o0 : Value.okWide Try.prog w .any base 51 v0) (k0 : DataW.Trod enc Try.prog w 0 (fun _ => true) true 51 v0 d0 p0) (z0 : ∀ k ∈ d0.weights Try.prog 51, k ≤ reachBytes) :
    Calls Try.prog 5 #[v0] w fun e w' => e = .returned (.bool true) ∧ Below w.heap.size w w' := by
  obtain ⟨A, n, c, vs, sz, t, dd, rfl, h1, h2, h3, h4, h5, h6, h7⟩ := arg_means o0 k0
  exact winmeans_main A n c vs sz t dd w h1 h2 h3 h5.1 h5.2 h6.1 h6.2 h7.1 h7.2 h4
end Go.Proofs.Ytodlifbhpgphcaa
