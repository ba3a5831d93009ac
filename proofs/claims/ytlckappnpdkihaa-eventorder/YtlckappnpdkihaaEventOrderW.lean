/- The walk of EventOrder: its arguments opened. -/
import Derived.Test.YtlckappnpdkihaaEventOrderM
namespace Go.Proofs.Ytlckappnpdkihaa
set_option linter.unusedVariables false
set_option linter.unusedSimpArgs false
open Go.ChangeShapes Go.WideShapes Go.ChangeAt Go.RowKit

set_option maxRecDepth 1000000 in
theorem eventOrder_walk {H : Type} (enc : TypeId × Value → H) (v0 v1 v2 : Value) (w : World) (base : Nat) (d0 : DataW H) (p0 : List MemPlace) (d1 : DataW H) (p1 : List MemPlace) (d2 : DataW H) (p2 : List MemPlace)
    (o0 : Value.okWide Try.prog w .any base 28 v0) (k0 : DataW.Trod enc Try.prog w 0 (fun _ => true) true 28 v0 d0 p0)
    (o1 : Value.okWide Try.prog w .any base 28 v1) (k1 : DataW.Trod enc Try.prog w 0 (fun _ => true) true 28 v1 d1 p1)
    (o2 : Value.okWide Try.prog w .any base 28 v2) (k2 : DataW.Trod enc Try.prog w 0 (fun _ => true) true 28 v2 d2 p2) :
    Calls Try.prog 7 #[v0, v1, v2] w fun e w' => e = .returned (.bool true) ∧ Below w.heap.size w w' := by
  obtain ⟨F, A, n, c, M, rfl, _⟩ := arg_ev o0 k0
  obtain ⟨F', A', n', c', M', rfl, _⟩ := arg_ev o1 k1
  obtain ⟨F'', A'', n'', c'', M'', rfl, _⟩ := arg_ev o2 k2
  exact order_main F F' F'' A A' A'' n c n' c' n'' c'' w
end Go.Proofs.Ytlckappnpdkihaa
