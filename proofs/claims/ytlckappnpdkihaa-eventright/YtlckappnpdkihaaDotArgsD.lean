/- Dots as a law's arguments. -/
import Derived.Test.YtlckappnpdkihaaDotMem
import Derived.Deep.SlicePairs
import Derived.ChangeArms
namespace Go.Proofs.Ytlckappnpdkihaa
set_option linter.unusedVariables false
set_option linter.unusedSimpArgs false
open Go.ChangeShapes Go.WideShapes Go.ChangeAt Go.RowKit Go.Deep

theorem Try.cellsInt : Try.prog.cellsOf 3 = 1 := by kernel_rfl
theorem Try.cellsDot : Try.prog.cellsOf 23 = 2 := by kernel_rfl
theorem Try.cellsDots : Try.prog.cellsOf 26 = 1 := by kernel_rfl
section
variable {H : Type} {enc : TypeId × Value → H} {w : World} {base : Nat}
theorem open_dots {fuel : Nat} {cs : List Value} {y : DataW H × List MemPlace} (hf : DataW.trod enc Try.prog w 0 (fun _ => true) true fuel 26 cs = some y) :
    ∃ A n c, ∃ M : List D.Dot, cs = [.slice A n c] ∧ M.length = n ∧ n ≤ c ∧ c ≤ maxLen ∧ Rds w (· < w.heap.size) A (dvs M) := by
  rcases open_slice_pairs Try.underlying26 Try.underlying23 Try.cellsDot rfl rfl Try.cellsInt Try.cellsInt hf with ⟨hcs, _⟩ | ⟨x, ln, cp, m, n, V0, V1, D0, D1, P0, P1, hcs, _, hl, hm, hmm, _, hcell⟩
  · exact ⟨none, 0, 0, [], hcs, rfl, Nat.le_refl _, by unfold maxLen; omega, Rds.nil⟩
  · have hm' : ln ≤ m := by rw [hmm]; split <;> omega
    refine ⟨some x, ln, cp, (List.range ln).map fun i => (intOf (V0 i), intOf (V1 i)), hcs, by simp, hl, hm, ?_⟩
    have key : ∀ i, i < ln → w.cell? (x.add (i * 2)) = some (.int .i64 (intOf (V0 i))) ∧ w.cell? (x.add (i * 2 + 1)) = some (.int .i64 (intOf (V1 i))) := fun i hi => by
      obtain ⟨e0, e1, t0, t1⟩ := hcell i (by omega)
      obtain ⟨n0, q0, _, _⟩ := DataW.trod_int Try.underlying3 t0
      obtain ⟨n1, q1, _, _⟩ := DataW.trod_int Try.underlying3 t1
      simp at q0 q1
      rw [e0, e1, q0, q1]
      exact ⟨rfl, rfl⟩
    intro j u hu
    have hj : j < ln * 2 := by
      rcases Nat.lt_or_ge j (ln * 2) with h | h
      · exact h
      · rw [List.getElem?_eq_none (by rw [dvs_len]; simpa using h)] at hu; cases hu
    have hi : j / 2 < ln := by omega
    have hat := dvs_at ((List.range ln).map fun i => (intOf (V0 i), intOf (V1 i))) (j / 2) (by simpa using hi)
    obtain ⟨k0, k1⟩ := key (j / 2) hi
    rcases Nat.mod_two_eq_zero_or_one j with e | e
    · have ej : j / 2 * 2 = j := by omega
      rw [ej] at hat k0
      rw [hat.1] at hu
      injection hu with hu
      subst hu
      have := M.cellLt k0
      rw [M.addBlock] at this
      exact ⟨x, rfl, this, by simpa using k0⟩
    · have ej : j / 2 * 2 + 1 = j := by omega
      rw [ej] at hat k1
      rw [hat.2] at hu
      injection hu with hu
      subst hu
      have := M.cellLt k1
      rw [M.addBlock] at this
      exact ⟨x, rfl, this, by simpa using k1⟩

set_option maxRecDepth 1000000 in
theorem open_dot {fuel : Nat} {cs : List Value} {y : DataW H × List MemPlace} (hf : DataW.trod enc Try.prog w 0 (fun _ => true) true fuel 23 cs = some y) : ∃ a b, cs = [.int .i64 a, .int .i64 b] := by
  obtain ⟨xs, m, _, _, hlen, hx, hg⟩ := DataW.trod_struct Try.underlying23 hf
  rw [Try.cellsDot] at hlen
  match cs, hlen with
  | [c0, c1], _ =>
    have h0 : DataW.trod enc Try.prog w 0 (fun _ => true) true m 3 (([c0, c1] : List Value).take (Try.prog.cellsOf 3)) = xs[0]? := hg 0 _ rfl
    have h1 : DataW.trod enc Try.prog w 0 (fun _ => true) true m 3 (([c1] : List Value).take (Try.prog.cellsOf 3)) = xs[1]? := hg 1 _ rfl
    rw [List.getElem?_eq_getElem (by rw [hx]; decide)] at h0 h1
    rw [Try.cellsInt] at h0 h1
    obtain ⟨n0, q0, _, _⟩ := DataW.trod_int Try.underlying3 h0
    obtain ⟨n1, q1, _, _⟩ := DataW.trod_int Try.underlying3 h1
    simp at q0 q1
    exact ⟨n0, n1, by rw [q0, q1]⟩
set_option maxRecDepth 1000000 in
theorem arg_dot {v : Value} {d : DataW H} {p : List MemPlace} (ho : Value.okWide Try.prog w .any base 23 v) (hk : DataW.Trod enc Try.prog w 0 (fun _ => true) true 23 v d p) : ∃ a b, v = .agg #[.int .i64 a, .int .i64 b] := by
  obtain ⟨cs, rfl, _⟩ := okWide_struct Try.underlying23 ho
  obtain ⟨fuel, hf⟩ := hk
  obtain ⟨a, b, e⟩ := open_dot hf
  refine ⟨a, b, ?_⟩
  have e' : cs.toList = (#[.int .i64 a, .int .i64 b] : Array Value).toList := by simpa [Value.cells] using e
  rw [show cs = #[.int .i64 a, .int .i64 b] from Array.toList_inj.1 e']
end
end Go.Proofs.Ytlckappnpdkihaa
