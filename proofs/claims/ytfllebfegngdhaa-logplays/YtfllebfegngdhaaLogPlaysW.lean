/- The walk of LogPlays: its arguments opened. -/
import Derived.Test.YtfllebfegngdhaaLogPlaysM
import Derived.Test.YtfllebfegngdhaaLgArgs
namespace Go.Proofs.Ytfllebfegngdhaa
set_option linter.unusedVariables false
set_option linter.unusedSimpArgs false
open Go.ChangeShapes Go.WideShapes Go.ChangeAt Go.RowKit Go.Deep

set_option maxRecDepth 1000000 in
theorem logPlays_walk {H : Type} (enc : TypeId × Value → H) (v0 v1 : Value) (w : World) (base : Nat) (d0 : DataW H) (p0 : List MemPlace) (d1 : DataW H) (p1 : List MemPlace)
    (o0 : Value.okWide Try.prog w .any base 3 v0) (k0 : DataW.Trod enc Try.prog w 0 (fun _ => true) true 3 v0 d0 p0) (z0 : ∀ k ∈ d0.weights Try.prog 3, k ≤ reachBytes)
    (o1 : Value.okWide Try.prog w .any base 22 v1) (k1 : DataW.Trod enc Try.prog w 0 (fun _ => true) true 22 v1 d1 p1) (z1 : ∀ k ∈ d1.weights Try.prog 22, k ≤ reachBytes) :
    Calls Try.prog 3 #[v0, v1] w fun e w' => e = .returned (.bool true) ∧ Below w.heap.size w w' := by
  obtain ⟨Z, rfl, _⟩ := arg_int Try.underlying3 o0 k0
  obtain ⟨A, c, l, rfl, hl, h⟩ := arg_opsG o1 k1 z1
  exact logplays_main Z A c l w h hl
end Go.Proofs.Ytfllebfegngdhaa
