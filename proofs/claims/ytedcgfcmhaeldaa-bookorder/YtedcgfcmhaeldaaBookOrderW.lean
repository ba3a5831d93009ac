/- The walk of BookOrder: its arguments opened. -/
import Derived.Test.YtedcgfcmhaeldaaBookOrderM
namespace Go.Proofs.Ytedcgfcmhaeldaa
set_option linter.unusedVariables false
set_option linter.unusedSimpArgs false
open Go.ChangeShapes Go.WideShapes Go.ChangeAt Go.RowKit

set_option maxRecDepth 1000000 in
theorem bookOrder_walk {H : Type} (enc : TypeId × Value → H) (v0 v1 : Value) (w : World) (base : Nat) (d0 : DataW H) (p0 : List MemPlace) (d1 : DataW H) (p1 : List MemPlace)
    (o0 : Value.okWide Try.prog w .any base 22 v0) (k0 : DataW.Trod enc Try.prog w 0 (fun _ => true) true 22 v0 d0 p0) (z0 : ∀ k ∈ d0.weights Try.prog 22, k ≤ reachBytes)
    (o1 : Value.okWide Try.prog w .any base 66 v1) (k1 : DataW.Trod enc Try.prog w 0 (fun _ => true) true 66 v1 d1 p1) (z1 : ∀ k ∈ d1.weights Try.prog 66, k ≤ reachBytes) :
    Calls Try.prog 4 #[v0, v1] w fun e w' => e = .returned (.bool true) ∧ Below w.heap.size w w' := by
  obtain ⟨A, n, c, l, rfl, h0⟩ := arg_evs o0 k0 z0
  obtain ⟨B, nb, d, zs, rfl, h1⟩ := arg_ints Try.underlying66 Try.underlying5 (by kernel_rfl) o1 k1
  obtain ⟨hl, hnc⟩ := h1.len
  exact order_main A n c l B nb d (zs.take nb) w h0 hl h1.rds h1.byt (by
    rcases h1 with ⟨_, h, _⟩ | ⟨_, _, h, hc, _⟩
    · rw [h]; exact Nat.zero_le _
    · exact Nat.le_trans h hc)
end Go.Proofs.Ytedcgfcmhaeldaa
