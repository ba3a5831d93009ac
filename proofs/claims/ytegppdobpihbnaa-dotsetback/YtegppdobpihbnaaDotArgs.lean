/- Sets and dots as a law's arguments. -/
import Derived.Test.YtegppdobpihbnaaDotMem
import Derived.ChangeArms
namespace Go.Proofs.Ytegppdobpihbnaa
set_option linter.unusedVariables false
set_option linter.unusedSimpArgs false
open Go.ChangeShapes Go.WideShapes Go.ChangeAt Go.RowKit Go.Deep

theorem Try.cellsInt : Try.prog.cellsOf 3 = 1 := by kernel_rfl
theorem Try.cellsDot : Try.prog.cellsOf 27 = 2 := by kernel_rfl
theorem Try.cellsArr : Try.prog.cellsOf 22 = 8 := by kernel_rfl
theorem Try.cellsDots : Try.prog.cellsOf 23 = 1 := by kernel_rfl
theorem Try.cellsLaw : Try.prog.cellsOf 25 = 9 := by kernel_rfl
section
variable {H : Type} {enc : TypeId × Value → H} {w : World} {base : Nat}
theorem open_dots {fuel : Nat} {cs : List Value} {y : DataW H × List MemPlace} (hf : DataW.trod enc Try.prog w 0 (fun _ => true) true fuel 23 cs = some y) :
    ∃ A n c, ∃ M : List D.Dot, cs = [.slice A n c] ∧ M.length = n ∧ n ≤ c ∧ c ≤ maxLen ∧ Rds w (· < w.heap.size) A (dvs M) := by
  rcases open_slice_pairs Try.underlying23 Try.underlying27 Try.cellsDot rfl rfl Try.cellsInt Try.cellsInt hf with ⟨hcs, _⟩ | ⟨x, ln, cp, m, n, V0, V1, D0, D1, P0, P1, hcs, _, hl, hm, hmm, _, hcell⟩
  · exact ⟨none, 0, 0, [], hcs, rfl, Nat.le_refl _, by unfold maxLen; omega, Rds.nil⟩
  · have hm' : ln ≤ m := by rw [hmm]; split <;> omega
    refine ⟨some x, ln, cp, (List.range ln).map fun i => (intOf (V0 i), intOf (V1 i)), hcs, by simp, hl, hm, ?_⟩
    have key : ∀ i, i < ln → w.cell? (x.add (i * 2)) = some (.int .i64 (intOf (V0 i))) ∧ w.cell? (x.add (i * 2 + 1)) = some (.int .i64 (intOf (V1 i))) := fun i hi => by
      obtain ⟨e0, e1, t0, t1⟩ := hcell i (by omega)
      obtain ⟨n0, q0, _, _⟩ := DataW.trod_int Try.underlying3 t0
      obtain ⟨n1, q1, _, _⟩ := DataW.trod_int Try.underlying3 t1
      simp at q0 q1
      rw [e0, e1, q0, q1]
      exact ⟨rfl, rfl⟩
    intro j u hu
    have hj : j < ln * 2 := by
      rcases Nat.lt_or_ge j (ln * 2) with h | h
      · exact h
      · rw [List.getElem?_eq_none (by rw [dvs_len]; simpa using h)] at hu; cases hu
    have hi : j / 2 < ln := by omega
    have hat := dvs_at ((List.range ln).map fun i => (intOf (V0 i), intOf (V1 i))) (j / 2) (by simpa using hi)
    obtain ⟨k0, k1⟩ := key (j / 2) hi
    rcases Nat.mod_two_eq_zero_or_one j with e | e
    · have ej : j / 2 * 2 = j := by omega
      rw [ej] at hat k0
      rw [hat.1] at hu
      injection hu with hu
      subst hu
      have := M.cellLt k0
      rw [M.addBlock] at this
      exact ⟨x, rfl, this, by simpa using k0⟩
    · have ej : j / 2 * 2 + 1 = j := by omega
      rw [ej] at hat k1
      rw [hat.2] at hu
      injection hu with hu
      subst hu
      have := M.cellLt k1
      rw [M.addBlock] at this
      exact ⟨x, rfl, this, by simpa using k1⟩

theorem open_eight {fuel : Nat} {c0 c1 c2 c3 c4 c5 c6 c7 : Value} {y : DataW H × List MemPlace} (hf : DataW.trod enc Try.prog w 0 (fun _ => true) true fuel 22 [c0, c1, c2, c3, c4, c5, c6, c7] = some y) :
    ∃ U : Nat → Int, c0 = .int .i64 (U 0) ∧ c1 = .int .i64 (U 1) ∧ c2 = .int .i64 (U 2) ∧ c3 = .int .i64 (U 3) ∧ c4 = .int .i64 (U 4) ∧ c5 = .int .i64 (U 5) ∧ c6 = .int .i64 (U 6) ∧ c7 = .int .i64 (U 7) := by
  obtain ⟨xs, m, _, _, _, hx, hi⟩ := DataW.trod_array Try.underlying22 hf
  rw [Try.cellsInt] at hi
  have at' : ∀ i (v : Value), i < 8 → (([c0, c1, c2, c3, c4, c5, c6, c7] : List Value).drop (i * 1)).take 1 = [v] → ∃ n, v = .int .i64 n := fun i v h8 e => by
    have h1 := hi i h8
    rw [e, List.getElem?_eq_getElem (by omega)] at h1
    obtain ⟨n, q, _, _⟩ := DataW.trod_int Try.underlying3 h1
    simp at q
    exact ⟨n, q⟩
  obtain ⟨n0, rfl⟩ := at' 0 c0 (by omega) rfl
  obtain ⟨n1, rfl⟩ := at' 1 c1 (by omega) rfl
  obtain ⟨n2, rfl⟩ := at' 2 c2 (by omega) rfl
  obtain ⟨n3, rfl⟩ := at' 3 c3 (by omega) rfl
  obtain ⟨n4, rfl⟩ := at' 4 c4 (by omega) rfl
  obtain ⟨n5, rfl⟩ := at' 5 c5 (by omega) rfl
  obtain ⟨n6, rfl⟩ := at' 6 c6 (by omega) rfl
  obtain ⟨n7, rfl⟩ := at' 7 c7 (by omega) rfl
  exact ⟨fun j => [n0, n1, n2, n3, n4, n5, n6, n7].getD j 0, rfl, rfl, rfl, rfl, rfl, rfl, rfl, rfl⟩

/-- A set of the law's own kind. -/
def SetIn (w : World) (U : Nat → Int) (A : Option Addr) (n c : Nat) (M : List D.Dot) : Prop := M.length = n ∧ n ≤ c ∧ c ≤ maxLen ∧ Rds w (· < w.heap.size) A (dvs M)
set_option maxRecDepth 1000000 in
theorem open_set {fuel : Nat} {cs : List Value} {y : DataW H × List MemPlace} (hf : DataW.trod enc Try.prog w 0 (fun _ => true) true fuel 25 cs = some y) :
    ∃ U A n c M, cs = (scs U A n c).toList ∧ SetIn w U A n c M := by
  obtain ⟨xs, m, _, _, hlen, hx, hg⟩ := DataW.trod_struct Try.underlying25 hf
  rw [Try.cellsLaw] at hlen
  match cs, hlen with
  | [c0, c1, c2, c3, c4, c5, c6, c7, c8], _ =>
    have h0 : DataW.trod enc Try.prog w 0 (fun _ => true) true m 22 (([c0, c1, c2, c3, c4, c5, c6, c7, c8] : List Value).take (Try.prog.cellsOf 22)) = xs[0]? := hg 0 _ rfl
    have h1 : DataW.trod enc Try.prog w 0 (fun _ => true) true m 23 (([c8] : List Value).take (Try.prog.cellsOf 23)) = xs[1]? := hg 1 _ rfl
    rw [List.getElem?_eq_getElem (by rw [hx]; decide)] at h0 h1
    rw [Try.cellsArr] at h0
    rw [Try.cellsDots] at h1
    obtain ⟨U, rfl, rfl, rfl, rfl, rfl, rfl, rfl, rfl⟩ := open_eight h0
    obtain ⟨A, n, c, M, e, h2, h3, h4, h5⟩ := open_dots h1
    simp at e
    subst e
    exact ⟨U, A, n, c, M, rfl, h2, h3, h4, h5⟩
set_option maxRecDepth 1000000 in
theorem arg_set {v : Value} {d : DataW H} {p : List MemPlace} (ho : Value.okWide Try.prog w .any base 25 v) (hk : DataW.Trod enc Try.prog w 0 (fun _ => true) true 25 v d p) : ∃ U A n c M, v = sv U A n c ∧ SetIn w U A n c M := by
  obtain ⟨cs, rfl, _⟩ := okWide_struct Try.underlying25 ho
  obtain ⟨fuel, hf⟩ := hk
  obtain ⟨U, A, n, c, M, e, h⟩ := open_set hf
  refine ⟨U, A, n, c, M, ?_, h⟩
  have e' : cs.toList = (scs U A n c).toList := by simpa [Value.cells] using e
  rw [show cs = scs U A n c from Array.toList_inj.1 e']
set_option maxRecDepth 1000000 in
theorem open_dot {fuel : Nat} {cs : List Value} {y : DataW H × List MemPlace} (hf : DataW.trod enc Try.prog w 0 (fun _ => true) true fuel 27 cs = some y) : ∃ a b, cs = [.int .i64 a, .int .i64 b] := by
  obtain ⟨xs, m, _, _, hlen, hx, hg⟩ := DataW.trod_struct Try.underlying27 hf
  rw [Try.cellsDot] at hlen
  match cs, hlen with
  | [c0, c1], _ =>
    have h0 : DataW.trod enc Try.prog w 0 (fun _ => true) true m 3 (([c0, c1] : List Value).take (Try.prog.cellsOf 3)) = xs[0]? := hg 0 _ rfl
    have h1 : DataW.trod enc Try.prog w 0 (fun _ => true) true m 3 (([c1] : List Value).take (Try.prog.cellsOf 3)) = xs[1]? := hg 1 _ rfl
    rw [List.getElem?_eq_getElem (by rw [hx]; decide)] at h0 h1
    rw [Try.cellsInt] at h0 h1
    obtain ⟨n0, q0, _, _⟩ := DataW.trod_int Try.underlying3 h0
    obtain ⟨n1, q1, _, _⟩ := DataW.trod_int Try.underlying3 h1
    simp at q0 q1
    exact ⟨n0, n1, by rw [q0, q1]⟩
set_option maxRecDepth 1000000 in
theorem arg_dot {v : Value} {d : DataW H} {p : List MemPlace} (ho : Value.okWide Try.prog w .any base 27 v) (hk : DataW.Trod enc Try.prog w 0 (fun _ => true) true 27 v d p) : ∃ a b, v = .agg #[.int .i64 a, .int .i64 b] := by
  obtain ⟨cs, rfl, _⟩ := okWide_struct Try.underlying27 ho
  obtain ⟨fuel, hf⟩ := hk
  obtain ⟨a, b, e⟩ := open_dot hf
  refine ⟨a, b, ?_⟩
  have e' : cs.toList = (#[.int .i64 a, .int .i64 b] : Array Value).toList := by simpa [Value.cells] using e
  rw [show cs = #[.int .i64 a, .int .i64 b] from Array.toList_inj.1 e']
end
end Go.Proofs.Ytegppdobpihbnaa
