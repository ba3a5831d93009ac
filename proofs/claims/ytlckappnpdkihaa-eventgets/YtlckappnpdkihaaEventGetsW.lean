/- The walk of EventGets: its argument opened. -/
import Derived.Test.YtlckappnpdkihaaEventGetsM
namespace Go.Proofs.Ytlckappnpdkihaa
set_option linter.unusedVariables false
set_option linter.unusedSimpArgs false
open Go.ChangeShapes Go.WideShapes Go.ChangeAt Go.RowKit

set_option maxRecDepth 1000000 in
theorem eventGets_walk {H : Type} (enc : TypeId × Value → H) (v0 : Value) (w : World) (base : Nat) (d0 : DataW H) (p0 : List MemPlace)
    (o0 : Value.okWide Try.prog w .any base 36 v0) (k0 : DataW.Trod enc Try.prog w 0 (fun _ => true) true 36 v0 d0 p0) :
    Calls Try.prog 5 #[v0] w fun e w' => e = .returned (.bool true) ∧ Below w.heap.size w w' := by
  obtain ⟨A, n, c, zs, rfl, h0⟩ := arg_ints Try.underlying36 Try.underlying5 (by kernel_rfl) o0 k0
  obtain ⟨hl, hnc⟩ := h0.len
  have := gets_main A c (zs.take n) w (by omega) h0.rds h0.byt
  rw [hl] at this
  exact this
end Go.Proofs.Ytlckappnpdkihaa
