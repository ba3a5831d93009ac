/- The walk of DiskLasts: its arguments opened. -/
import Derived.Test.YthgfjmifdeledaaDiskLastsM
import Derived.Test.YthgfjmifdeledaaDkArgs
namespace Go.Proofs.Ythgfjmifdeledaa
set_option linter.unusedVariables false
set_option linter.unusedSimpArgs false
open Go.ChangeShapes Go.WideShapes Go.ChangeAt Go.RowKit Go.Deep

set_option maxRecDepth 1000000 in
theorem diskLasts_walk {H : Type} (enc : TypeId × Value → H) (v0 : Value) (w : World) (base : Nat) (d0 : DataW H) (p0 : List MemPlace)
    (o0 : Value.okWide Try.prog w .any base 47 v0) (k0 : DataW.Trod enc Try.prog w 0 (fun _ => true) true 47 v0 d0 p0) (z0 : ∀ k ∈ d0.weights Try.prog 47, k ≤ reachBytes) :
    Calls Try.prog 4 #[v0] w fun e w' => e = .returned (.bool true) ∧ Below w.heap.size w w' := by
  obtain ⟨Z, A, c, l, B, cb, vs, bs, keep, rfl, h, hl, hv, hvb, hbs, hk⟩ := arg_lasts o0 k0 z0
  exact disklasts_main Z A c l B cb vs bs keep w h hl hv hvb hbs hk
end Go.Proofs.Ythgfjmifdeledaa
