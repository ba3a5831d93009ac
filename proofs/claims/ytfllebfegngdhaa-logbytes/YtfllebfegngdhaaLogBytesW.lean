/- The walk of LogBytes: its arguments opened. -/
import Derived.Test.YtfllebfegngdhaaLogBytesM
import Derived.Test.YtfllebfegngdhaaLgArgs
namespace Go.Proofs.Ytfllebfegngdhaa
set_option linter.unusedVariables false
set_option linter.unusedSimpArgs false
open Go.ChangeShapes Go.WideShapes Go.ChangeAt Go.RowKit Go.Deep

set_option maxRecDepth 1000000 in
theorem logBytes_walk {H : Type} (enc : TypeId × Value → H) (v0 : Value) (w : World) (base : Nat) (d0 : DataW H) (p0 : List MemPlace)
    (o0 : Value.okWide Try.prog w .any base 32 v0) (k0 : DataW.Trod enc Try.prog w 0 (fun _ => true) true 32 v0 d0 p0) (z0 : ∀ k ∈ d0.weights Try.prog 32, k ≤ reachBytes) :
    Calls Try.prog 6 #[v0] w fun e w' => e = .returned (.bool true) ∧ Below w.heap.size w w' := by
  obtain ⟨A, c, xs, rfl, h1, h2, h3⟩ := arg_bytesY o0 k0 z0
  exact logbytes_main A _ c xs w rfl h2 h3 h1
end Go.Proofs.Ytfllebfegngdhaa
