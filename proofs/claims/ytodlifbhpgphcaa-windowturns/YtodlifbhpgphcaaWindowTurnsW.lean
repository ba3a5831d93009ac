/- The walk of WindowTurns: its arguments opened. -/
import Derived.Test.YtodlifbhpgphcaaWindowTurnsM
import Derived.Test.YtodlifbhpgphcaaWinArgs
namespace Go.Proofs.Ytodlifbhpgphcaa
set_option linter.unusedVariables false
set_option linter.unusedSimpArgs false
open Go.ChangeShapes Go.WideShapes Go.ChangeAt Go.RowKit

set_option maxRecDepth 1000000 in
theorem windowTurns_walk {H : Type} (enc : TypeId × Value → H) (v0 : Value) (w : World) (base : Nat) (d0 : DataW H) (p0 : List MemPlace)
    (o0 : Value.okWide Try.prog w .any base 39 v0) (k0 : DataW.Trod enc Try.prog w 0 (fun _ => true) true 39 v0 d0 p0) (z0 : ∀ k ∈ d0.weights Try.prog 39, k ≤ reachBytes) :
    Calls Try.prog 4 #[v0] w fun e w' => e = .returned (.bool true) ∧ Below w.heap.size w w' := by
  obtain ⟨A, n, c, l, k, sz, t, rfl, h0, h1, h2⟩ := arg_turned o0 k0 z0
  obtain ⟨q, rfl⟩ := Int.eq_ofNat_of_zero_le h1
  exact winturns_main A n c l k sz q w h0 (by omega)
end Go.Proofs.Ytodlifbhpgphcaa
