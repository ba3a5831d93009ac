/- The walk of LogRewrites: its arguments opened. -/
import Derived.Test.YtfllebfegngdhaaLogRewritesM
import Derived.Test.YtfllebfegngdhaaLgArgs
namespace Go.Proofs.Ytfllebfegngdhaa
set_option linter.unusedVariables false
set_option linter.unusedSimpArgs false
open Go.ChangeShapes Go.WideShapes Go.ChangeAt Go.RowKit Go.Deep

set_option maxRecDepth 1000000 in
theorem logRewrites_walk {H : Type} (enc : TypeId × Value → H) (v0 v1 v2 : Value) (w : World) (base : Nat) (d0 : DataW H) (p0 : List MemPlace) (d1 : DataW H) (p1 : List MemPlace) (d2 : DataW H) (p2 : List MemPlace)
    (o0 : Value.okWide Try.prog w .any base 3 v0) (k0 : DataW.Trod enc Try.prog w 0 (fun _ => true) true 3 v0 d0 p0) (z0 : ∀ k ∈ d0.weights Try.prog 3, k ≤ reachBytes)
    (o1 : Value.okWide Try.prog w .any base 33 v1) (k1 : DataW.Trod enc Try.prog w 0 (fun _ => true) true 33 v1 d1 p1) (z1 : ∀ k ∈ d1.weights Try.prog 33, k ≤ reachBytes)
    (o2 : Value.okWide Try.prog w .any base 33 v2) (k2 : DataW.Trod enc Try.prog w 0 (fun _ => true) true 33 v2 d2 p2) (z2 : ∀ k ∈ d2.weights Try.prog 33, k ≤ reachBytes) :
    Calls Try.prog 5 #[v0, v1, v2] w fun e w' => e = .returned (.bool true) ∧ Below w.heap.size w w' := by
  obtain ⟨Z, rfl, _⟩ := arg_int Try.underlying3 o0 k0
  obtain ⟨A, c, vs, bs, rfl, h1, h2, h3, h4⟩ := arg_brY o1 k1 z1
  obtain ⟨B, d, us, cs, rfl, g1, g2, g3, g4⟩ := arg_brY o2 k2 z2
  exact logrewrites_main Z A _ c vs bs B _ d us cs w rfl h2 h3 h4 (by omega) rfl g2 g3 g4 (by omega)
end Go.Proofs.Ytfllebfegngdhaa
