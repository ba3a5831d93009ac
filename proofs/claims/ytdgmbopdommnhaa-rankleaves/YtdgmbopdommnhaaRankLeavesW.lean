/- The walk of RankLeaves: its arguments opened. -/
import Derived.Test.YtdgmbopdommnhaaRnkLeav
import Derived.Test.YtdgmbopdommnhaaRnkArgs
namespace Go.Proofs.Ytdgmbopdommnhaa
set_option linter.unusedVariables false
set_option linter.unusedSimpArgs false
open Go.ChangeShapes Go.WideShapes Go.ChangeAt Go.RowKit

theorem rankLeaves_walk {H : Type} (enc : TypeId × Value → H) (v0 : Value) (w : World) (base : Nat) (d0 : DataW H) (p0 : List MemPlace)
    (o0 : Value.okWide Try.prog w .any base 36 v0) (k0 : DataW.Trod enc Try.prog w 0 (fun _ => true) true 36 v0 d0 p0) :
    Calls Try.prog 4 #[v0] w fun e w' => e = .returned (.bool true) ∧ Below w.heap.size w w' := by
  obtain ⟨A, n, c, ns, k, s, a, rfl, hn, hr, hs, ha⟩ := arg_gone o0 k0
  exact rnkleaves_main _ A n c ns k s a w hs ha hn hr
end Go.Proofs.Ytdgmbopdommnhaa
