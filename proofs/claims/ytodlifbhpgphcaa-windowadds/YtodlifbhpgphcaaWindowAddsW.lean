/- The walk of WindowAdds: its arguments opened. -/
import Derived.Test.YtodlifbhpgphcaaWindowAddsM
import Derived.Test.YtodlifbhpgphcaaWinArgs
namespace Go.Proofs.Ytodlifbhpgphcaa
set_option linter.unusedVariables false
set_option linter.unusedSimpArgs false
open Go.ChangeShapes Go.WideShapes Go.ChangeAt Go.RowKit

set_option maxRecDepth 1000000 in
theorem windowAdds_walk {H : Type} (enc : TypeId × Value → H) (v0 v1 v2 : Value) (w : World) (base : Nat) (d0 : DataW H) (p0 : List MemPlace) (d1 : DataW H) (p1 : List MemPlace) (d2 : DataW H) (p2 : List MemPlace)
    (o0 : Value.okWide Try.prog w .any base 22 v0) (k0 : DataW.Trod enc Try.prog w 0 (fun _ => true) true 22 v0 d0 p0) (z0 : ∀ k ∈ d0.weights Try.prog 22, k ≤ reachBytes)
    (o1 : Value.okWide Try.prog w .any base 3 v1) (k1 : DataW.Trod enc Try.prog w 0 (fun _ => true) true 3 v1 d1 p1) (z1 : ∀ k ∈ d1.weights Try.prog 3, k ≤ reachBytes)
    (o2 : Value.okWide Try.prog w .any base 49 v2) (k2 : DataW.Trod enc Try.prog w 0 (fun _ => true) true 49 v2 d2 p2) (z2 : ∀ k ∈ d2.weights Try.prog 49, k ≤ reachBytes) :
    Calls Try.prog 6 #[v0, v1, v2] w fun e w' => e = .returned (.bool true) ∧ Below w.heap.size w w' := by
  obtain ⟨A, n, c, l, rfl, h0⟩ := arg_evs o0 k0 z0
  obtain ⟨sz, rfl, _⟩ := arg_int Try.underlying3 o1 k1
  obtain ⟨v, rfl, hv⟩ := arg_int Try.underlying49 o2 k2
  have hw := wf_u16K hv
  exact winadds_main A n c l sz v w h0 hw.1 (by omega)
end Go.Proofs.Ytodlifbhpgphcaa
