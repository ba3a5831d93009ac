/- Rows of events as a law's arguments: each with its dots, none of them of a size beyond all addresses. -/
import Derived.Test.YtodlifbhpgphcaaEvGreat
import Derived.SizedLaws
namespace Go.Proofs.Ytodlifbhpgphcaa
set_option linter.unusedVariables false
set_option linter.unusedSimpArgs false
open Go.ChangeShapes Go.WideShapes Go.ChangeAt Go.RowKit Go.Deep

theorem Try.bytesDot : Try.prog.bytesOf 41 = 16 := by kernel_rfl
theorem reach_le : reachBytes ≤ 140737488355328 := by decide
theorem weights_all {H : Type} {P : Program} {e : TypeId} : ∀ {l : List (DataW H)} {d : DataW H}, d ∈ l → ∀ n ∈ d.weights P e, n ∈ DataW.weightsAll P e l
  | x :: l, d, hd, n, hn => by
    simp only [DataW.weightsAll, List.mem_append]
    rcases List.mem_cons.1 hd with rfl | hd
    · exact .inl hn
    · exact .inr (weights_all hd n hn)
instance : Inhabited EvV := ⟨⟨fun _ => 0, [], none, 0⟩⟩
section
variable {H : Type} {enc : TypeId × Value → H} {w : World} {base : Nat}
/-- How many dots a row that is met may have. -/
theorem dots_sized {fuel : Nat} {A : Option Addr} {n c : Nat} {y : DataW H × List MemPlace} (hf : DataW.trod enc Try.prog w 0 (fun _ => true) true fuel 44 [.slice A n c] = some y) (hz : ∀ k ∈ y.1.weights Try.prog 44, k ≤ reachBytes) : n ≤ 8796093022208 := by
  rcases open_slice_pairs Try.underlying44 Try.underlying41 Try.cellsDot rfl rfl Try.cellsInt Try.cellsInt hf with ⟨hcs, _⟩ | ⟨x, ln, cp, m, n', V0, V1, D0, D1, P0, P1, hcs, _, hl, hm, hmm, rfl, hcell⟩
  · simp at hcs; omega
  · simp at hcs
    obtain ⟨_, rfl, _⟩ := hcs
    have h1 := hz ((n + (m - n)) * 16) (by simp [DataW.weights, Try.underlying44, Try.bytesDot])
    have h2 := reach_le
    have h3 : n ≤ n + (m - n) := by omega
    omega
set_option maxRecDepth 1000000 in
theorem open_ev_sized {fuel : Nat} {cs : List Value} {y : DataW H × List MemPlace} (hf : DataW.trod enc Try.prog w 0 (fun _ => true) true fuel 46 cs = some y) (hz : ∀ k ∈ y.1.weights Try.prog 46, k ≤ reachBytes) :
    ∃ F A n c M, cs = (ecs F A n c).toList ∧ EvIn w A n c M ∧ n ≤ 8796093022208 := by
  obtain ⟨F, A, n, c, M, rfl, hin⟩ := open_ev hf
  refine ⟨F, A, n, c, M, rfl, hin, ?_⟩
  obtain ⟨xs, m, _, rfl, hlen, hx, hg⟩ := DataW.trod_struct Try.underlying46 hf
  have hl6 : 6 < xs.length := by rw [hx]; decide
  have h6 : DataW.trod enc Try.prog w 0 (fun _ => true) true m 44 (([.slice A n c] : List Value).take (Try.prog.cellsOf 44)) = xs[6]? := hg 6 _ rfl
  rw [List.getElem?_eq_getElem hl6, Try.cellsDots] at h6
  refine dots_sized (A := A) (c := c) h6 (fun k hk => hz k ?_)
  simp only [DataW.weights, Try.underlying46]
  exact DataW.weights_mem_each (j := 6) (t := 44) (d := xs[6].1) rfl (by rw [List.getElem?_map, List.getElem?_eq_getElem hl6]; rfl) k hk

/-- Events that came in. -/
def EvsIn (w : World) (A : Option Addr) (n c : Nat) (l : List EvV) : Prop := l.length = n ∧ n ≤ c ∧ c ≤ maxLen ∧ ERds w (· < w.heap.size) A l ∧ Meek l
set_option maxRecDepth 1000000 in
theorem open_evs {fuel : Nat} {cs : List Value} {y : DataW H × List MemPlace} (hf : DataW.trod enc Try.prog w 0 (fun _ => true) true fuel 22 cs = some y) (hz : ∀ k ∈ y.1.weights Try.prog 22, k ≤ reachBytes) :
    ∃ A n c l, cs = [.slice A n c] ∧ EvsIn w A n c l := by
  rcases open_slice Try.underlying22 hf with ⟨rfl, _⟩ | ⟨a, len, cap, m, nf, D, Pl, rfl, hb, hl, hm, hmm, rfl, hx⟩
  · exact ⟨none, 0, 0, [], rfl, rfl, Nat.le_refl _, by unfold maxLen; omega, ⟨Rds.nil, fun e he => by cases he⟩, fun e he => by cases he⟩
  · have hm' : len ≤ m := by rw [hmm]; split <;> omega
    have each : ∀ i, i < len → ∃ x : EvV, (∀ k, k < 14 → w.cell? (a.add (i * 14 + k)) = x.cells[k]?) ∧ Rds w (· < w.heap.size) x.A (dvs x.M) ∧ x.M.length ≤ 8796093022208 := by
      intro i hi
      obtain ⟨cs', h1, h2⟩ := hx i (by omega)
      rw [Try.cellsEvent] at h1
      obtain ⟨_, hlen, hcell⟩ := World.cells?_some h1
      obtain ⟨F, A, n, c, M, rfl, ⟨rfl, hnc, hcm, hr⟩, hM⟩ := open_ev_sized h2 (fun k hk => hz k (by
        simp only [DataW.weights, Try.underlying22, List.mem_cons, List.mem_append]
        exact .inr (.inl (weights_all (List.mem_map.2 ⟨i, List.mem_range.2 hi, rfl⟩) k hk))))
      refine ⟨⟨F, M, A, c⟩, fun k hk => ?_, hr, hM⟩
      have := hcell k hk
      rw [add_add] at this
      rw [this]
      simp
    obtain ⟨q, hq⟩ := choose_lt each
    refine ⟨some a, len, cap, (List.range len).map q, rfl, by simp, hl, hm, ⟨?_, ?_⟩, ?_⟩
    · intro j u hu
      have hj : j < len * 14 := by
        rcases Nat.lt_or_ge j (len * 14) with h | h
        · exact h
        · rw [List.getElem?_eq_none (by rw [evs_len]; simpa using h)] at hu; cases hu
      have hi : j / 14 < len := by omega
      have hat := evs_at ((List.range len).map q) (j / 14) (by simpa using hi) (j % 14) (by omega)
      rw [show j / 14 * 14 + j % 14 = j by omega, hu] at hat
      have hc := (hq (j / 14) hi).1 (j % 14) (by omega)
      rw [show j / 14 * 14 + j % 14 = j by omega] at hc
      have hc2 : w.cell? (a.add j) = some u := by
        rw [hc]
        simpa using hat.symm
      have hlt := Go.Proofs.Ytodlifbhpgphcaa.M.cellLt hc2
      rw [Go.Proofs.Ytodlifbhpgphcaa.M.addBlock] at hlt
      exact ⟨a, rfl, hlt, hc2⟩
    · intro e he
      obtain ⟨i, hi, rfl⟩ := List.mem_map.1 he
      exact (hq i (List.mem_range.1 hi)).2.1
    · intro e he
      obtain ⟨i, hi, rfl⟩ := List.mem_map.1 he
      exact (hq i (List.mem_range.1 hi)).2.2
set_option maxRecDepth 1000000 in
theorem arg_evs {v : Value} {d : DataW H} {p : List MemPlace} (ho : Value.okWide Try.prog w .any base 22 v) (hk : DataW.Trod enc Try.prog w 0 (fun _ => true) true 22 v d p) (hz : ∀ k ∈ d.weights Try.prog 22, k ≤ reachBytes) :
    ∃ A n c l, v = .slice A n c ∧ EvsIn w A n c l := by
  obtain ⟨a, len, cap, rfl⟩ := okWide_slice Try.underlying22 ho
  obtain ⟨fuel, hf⟩ := hk
  obtain ⟨A, n, c, l, e, h⟩ := open_evs hf hz
  refine ⟨A, n, c, l, ?_, h⟩
  simpa [Value.cells] using e
end
end Go.Proofs.Ytodlifbhpgphcaa
