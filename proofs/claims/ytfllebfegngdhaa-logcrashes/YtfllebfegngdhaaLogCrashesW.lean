/- The walk of LogCrashes: its arguments opened. -/
import Derived.Test.YtfllebfegngdhaaLogCrashesM
import Derived.Test.YtfllebfegngdhaaLgArgs
namespace Go.Proofs.Ytfllebfegngdhaa
set_option linter.unusedVariables false
set_option linter.unusedSimpArgs false
open Go.ChangeShapes Go.WideShapes Go.ChangeAt Go.RowKit Go.Deep

set_option maxRecDepth 1000000 in
theorem logCrashes_walk {H : Type} (enc : TypeId × Value → H) (v0 : Value) (w : World) (base : Nat) (d0 : DataW H) (p0 : List MemPlace)
    (o0 : Value.okWide Try.prog w .any base 53 v0) (k0 : DataW.Trod enc Try.prog w 0 (fun _ => true) true 53 v0 d0 p0) (z0 : ∀ k ∈ d0.weights Try.prog 53, k ≤ reachBytes) :
    Calls Try.prog 4 #[v0] w fun e w' => e = .returned (.bool true) ∧ Below w.heap.size w w' := by
  obtain ⟨A, c, vs, bs, B, e, xs, C, f, ys, keep, rfl, ⟨h1, h2, h3, h4⟩, ⟨g1, g2, g3⟩, ⟨q1, q2, q3⟩, hkf⟩ := arg_torn o0 k0 z0
  exact logcrashes_main A _ c vs bs B _ e xs C _ f ys keep w rfl h2 h3 h4 (by omega) rfl g2 g3 g1 rfl q2 q3 q1 hkf
end Go.Proofs.Ytfllebfegngdhaa
