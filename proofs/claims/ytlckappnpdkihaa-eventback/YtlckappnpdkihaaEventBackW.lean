/- The walk of EventBack: its arguments opened. -/
import Derived.Test.YtlckappnpdkihaaEventBackM
namespace Go.Proofs.Ytlckappnpdkihaa
set_option linter.unusedVariables false
set_option linter.unusedSimpArgs false
open Go.ChangeShapes Go.WideShapes Go.ChangeAt Go.RowKit

set_option maxRecDepth 1000000 in
theorem eventBack_walk {H : Type} (enc : TypeId × Value → H) (v0 v1 : Value) (w : World) (base : Nat) (d0 : DataW H) (p0 : List MemPlace) (d1 : DataW H) (p1 : List MemPlace)
    (o0 : Value.okWide Try.prog w .any base 31 v0) (k0 : DataW.Trod enc Try.prog w 0 (fun _ => true) true 31 v0 d0 p0) (z0 : ∀ k ∈ d0.weights Try.prog 31, k ≤ reachBytes)
    (o1 : Value.okWide Try.prog w .any base 36 v1) (k1 : DataW.Trod enc Try.prog w 0 (fun _ => true) true 36 v1 d1 p1) (z1 : ∀ k ∈ d1.weights Try.prog 36, k ≤ reachBytes) :
    Calls Try.prog 6 #[v0, v1] w fun e w' => e = .returned (.bool true) ∧ Below w.heap.size w w' := by
  obtain ⟨A, n, c, l, rfl, h0⟩ := arg_evs o0 k0 z0
  obtain ⟨B, nb, d, zs, rfl, h1⟩ := arg_ints Try.underlying36 Try.underlying5 (by kernel_rfl) o1 k1
  obtain ⟨hl, hnc⟩ := h1.len
  have := back_main A n c l B d (zs.take nb) w h0 (by omega) h1.rds h1.byt
  rw [hl] at this
  exact this
end Go.Proofs.Ytlckappnpdkihaa
