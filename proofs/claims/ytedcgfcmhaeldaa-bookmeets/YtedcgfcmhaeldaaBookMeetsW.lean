/- The walk of BookMeets: its arguments opened. -/
import Derived.Test.YtedcgfcmhaeldaaBookMeetsM
import Derived.Deep.Grids
namespace Go.Proofs.Ytedcgfcmhaeldaa
set_option linter.unusedVariables false
set_option linter.unusedSimpArgs false
open Go.ChangeShapes Go.WideShapes Go.ChangeAt Go.RowKit Go.Deep

set_option maxRecDepth 1000000 in
theorem arg_bools {H : Type} {enc : TypeId × Value → H} {w : World} {base : Nat} {v : Value} {d : DataW H} {p : List MemPlace} (ho : Value.okWide Try.prog w .any base 70 v) (hk : DataW.Trod enc Try.prog w 0 (fun _ => true) true 70 v d p) :
    ∃ O no c, ∃ Bs : List Bool, v = .slice O no c ∧ Bs.length = no ∧ Rds w (· < w.heap.size) O (Bs.map Value.bool) := by
  obtain ⟨a, len, cap, rfl⟩ := okWide_slice Try.underlying70 ho
  obtain ⟨fuel, hf⟩ := hk
  rcases open_bools Try.underlying70 Try.underlying4 (by kernel_rfl) hf with ⟨hcs, _⟩ | ⟨x, l, c, B, hcs, _, hl, hm, _, hcell⟩
  · simp [Value.cells] at hcs
    obtain ⟨rfl, rfl, rfl⟩ := hcs
    exact ⟨none, 0, 0, [], rfl, rfl, Rds.nil⟩
  · simp [Value.cells] at hcs
    obtain ⟨rfl, rfl, rfl⟩ := hcs
    refine ⟨some x, len, cap, (List.range len).map B, rfl, by simp, fun j u hu => ?_⟩
    have hj : j < len := by
      rcases Nat.lt_or_ge j len with h | h
      · exact h
      · rw [List.getElem?_eq_none (by simpa using h)] at hu; cases hu
    have hc := hcell j (by omega)
    have hlt := Go.Proofs.Ytedcgfcmhaeldaa.M.cellLt hc
    rw [Go.Proofs.Ytedcgfcmhaeldaa.M.addBlock] at hlt
    refine ⟨x, rfl, hlt, ?_⟩
    rw [hc]
    simpa [hj] using hu
set_option maxRecDepth 1000000 in
theorem bookMeets_walk {H : Type} (enc : TypeId × Value → H) (v0 v1 : Value) (w : World) (base : Nat) (d0 : DataW H) (p0 : List MemPlace) (d1 : DataW H) (p1 : List MemPlace)
    (o0 : Value.okWide Try.prog w .any base 22 v0) (k0 : DataW.Trod enc Try.prog w 0 (fun _ => true) true 22 v0 d0 p0) (z0 : ∀ k ∈ d0.weights Try.prog 22, k ≤ reachBytes)
    (o1 : Value.okWide Try.prog w .any base 70 v1) (k1 : DataW.Trod enc Try.prog w 0 (fun _ => true) true 70 v1 d1 p1) (z1 : ∀ k ∈ d1.weights Try.prog 70, k ≤ reachBytes) :
    Calls Try.prog 5 #[v0, v1] w fun e w' => e = .returned (.bool true) ∧ Below w.heap.size w w' := by
  obtain ⟨A, n, c, l, rfl, h0⟩ := arg_evs o0 k0 z0
  obtain ⟨O, no, d, Bs, rfl, h1, h2⟩ := arg_bools o1 k1
  exact meets_main A n c l O no d Bs w h0 h1 h2
end Go.Proofs.Ytedcgfcmhaeldaa
