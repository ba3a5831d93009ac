/- The walk of EventRight: its arguments opened. -/
import Derived.Test.YtlckappnpdkihaaEventRightM
namespace Go.Proofs.Ytlckappnpdkihaa
set_option linter.unusedVariables false
set_option linter.unusedSimpArgs false
open Go.ChangeShapes Go.WideShapes Go.ChangeAt Go.RowKit

set_option maxRecDepth 1000000 in
theorem eventRight_walk {H : Type} (enc : TypeId × Value → H) (v0 v1 : Value) (w : World) (base : Nat) (d0 : DataW H) (p0 : List MemPlace) (d1 : DataW H) (p1 : List MemPlace)
    (o0 : Value.okWide Try.prog w .any base 28 v0) (k0 : DataW.Trod enc Try.prog w 0 (fun _ => true) true 28 v0 d0 p0)
    (o1 : Value.okWide Try.prog w .any base 28 v1) (k1 : DataW.Trod enc Try.prog w 0 (fun _ => true) true 28 v1 d1 p1) :
    Calls Try.prog 3 #[v0, v1] w fun e w' => e = .returned (.bool true) ∧ Below w.heap.size w w' := by
  obtain ⟨F, A, n, c, M, rfl, h0⟩ := arg_ev o0 k0
  obtain ⟨F', A', n', c', M', rfl, h1⟩ := arg_ev o1 k1
  exact evright_main F F' A A' n c n' c' M M' w h0 h1
end Go.Proofs.Ytlckappnpdkihaa
