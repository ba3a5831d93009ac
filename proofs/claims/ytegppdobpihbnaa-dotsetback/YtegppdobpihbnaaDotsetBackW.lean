/- The walk of DotsetBack: its arguments opened. -/
import Derived.Test.YtegppdobpihbnaaDotsetBackM
namespace Go.Proofs.Ytegppdobpihbnaa
set_option linter.unusedVariables false
set_option linter.unusedSimpArgs false
open Go.ChangeShapes Go.WideShapes Go.ChangeAt Go.RowKit

set_option maxRecDepth 1000000 in
theorem arg_dots {H : Type} {enc : TypeId × Value → H} {w : World} {base : Nat} {v : Value} {d : DataW H} {p : List MemPlace} (ho : Value.okWide Try.prog w .any base 23 v) (hk : DataW.Trod enc Try.prog w 0 (fun _ => true) true 23 v d p) :
    ∃ A n c, ∃ M : List D.Dot, v = .slice A n c ∧ M.length = n ∧ n ≤ c ∧ c ≤ maxLen ∧ Rds w (· < w.heap.size) A (dvs M) := by
  obtain ⟨a, len, cap, rfl⟩ := okWide_slice Try.underlying23 ho
  obtain ⟨fuel, hf⟩ := hk
  obtain ⟨A, n, c, M, e, h⟩ := open_dots hf
  exact ⟨A, n, c, M, by simpa [Value.cells] using e, h⟩

set_option maxRecDepth 1000000 in
theorem dotsetBack_walk {H : Type} (enc : TypeId × Value → H) (v0 v1 : Value) (w : World) (base : Nat) (d0 : DataW H) (p0 : List MemPlace) (d1 : DataW H) (p1 : List MemPlace) (o0 : Value.okWide Try.prog w .any base 23 v0) (k0 : DataW.Trod enc Try.prog w 0 (fun _ => true) true 23 v0 d0 p0)
    (o1 : Value.okWide Try.prog w .any base 55 v1) (k1 : DataW.Trod enc Try.prog w 0 (fun _ => true) true 55 v1 d1 p1) :
    Calls Try.prog 7 #[v0, v1] w fun e w' => e = .returned (.bool true) ∧ Below w.heap.size w w' := by
  obtain ⟨A, n, c, M, rfl, hn, _, _, hr⟩ := arg_dots o0 k0
  obtain ⟨a0, len0, cap0, zs, rfl, h0⟩ := arg_ints Try.underlying55 Try.underlying5 (by kernel_rfl) o1 k1
  have l0 := h0.len
  have hcap : len0 ≤ cap0 := by rcases h0 with ⟨_, h, h', _⟩ | ⟨_, _, h1, h2, h3, _⟩ <;> unfold maxLen at * <;> omega
  exact back_main A n c M a0 len0 cap0 (zs.take len0) w hn hr l0.1.symm hcap h0.rds h0.byt
end Go.Proofs.Ytegppdobpihbnaa
