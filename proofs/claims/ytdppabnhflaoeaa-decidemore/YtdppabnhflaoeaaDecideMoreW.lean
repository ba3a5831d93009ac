/- The walk of DecideMore: its arguments opened. -/
import Derived.Test.YtdppabnhflaoeaaDecArgs
namespace Go.Proofs.Ytdppabnhflaoeaa
set_option linter.unusedVariables false
set_option linter.unusedSimpArgs false
open Go.ChangeShapes Go.WideShapes Go.ChangeAt Go.RowKit

theorem decideMore_walk {H : Type} (enc : TypeId × Value → H) (v0 : Value) (w : World) (base : Nat) (d0 : DataW H) (p0 : List MemPlace)
    (o0 : Value.okWide Try.prog w .any base 40 v0) (k0 : DataW.Trod enc Try.prog w 0 (fun _ => true) true 40 v0 d0 p0) :
    Calls Try.prog 6 #[v0] w fun e w' => e = .returned (.bool true) ∧ Below w.heap.size w w' := by
  obtain ⟨F, a, b, t, rfl⟩ := arg_loads o0 k0
  exact decmore_main F a b t w
end Go.Proofs.Ytdppabnhflaoeaa
