/- The walk of DiskSwaps: its arguments opened. -/
import Derived.Test.YthgfjmifdeledaaDiskSwapsM
import Derived.Test.YthgfjmifdeledaaDkArgs
namespace Go.Proofs.Ythgfjmifdeledaa
set_option linter.unusedVariables false
set_option linter.unusedSimpArgs false
open Go.ChangeShapes Go.WideShapes Go.ChangeAt Go.RowKit Go.Deep

set_option maxRecDepth 1000000 in
theorem diskSwaps_walk {H : Type} (enc : TypeId × Value → H) (v0 : Value) (w : World) (base : Nat) (d0 : DataW H) (p0 : List MemPlace)
    (o0 : Value.okWide Try.prog w .any base 53 v0) (k0 : DataW.Trod enc Try.prog w 0 (fun _ => true) true 53 v0 d0 p0) (z0 : ∀ k ∈ d0.weights Try.prog 53, k ≤ reachBytes) :
    Calls Try.prog 5 #[v0] w fun e w' => e = .returned (.bool true) ∧ Below w.heap.size w w' := by
  obtain ⟨A1, c1, l1, A2, c2, l2, A3, c3, l3, keep, rfl, h1, h2, h3, hc, hk⟩ := arg_swaps o0 k0
  exact diskswaps_main A1 c1 l1 A2 c2 l2 A3 c3 l3 keep w h1 h2 h3 hc hk
end Go.Proofs.Ythgfjmifdeledaa
