/- Layer 13: what the laws are asked of: their arguments opened. -/
import Derived.Test.YthgfjmifdeledaaDkLaw
import Derived.Test.YthgfjmifdeledaaDiskLastsM
import Derived.Test.YthgfjmifdeledaaDkArg0
import Derived.SizedLaws
import Derived.Lib.SmallJoins
namespace Go.Proofs.Ythgfjmifdeledaa
set_option linter.unusedVariables false
set_option linter.unusedSimpArgs false
open Go.ChangeShapes Go.WideShapes Go.ChangeAt Go.RowKit Go.Deep

theorem Try.cellsOpK : Try.prog.cellsOf 34 = 3 := by kernel_rfl
theorem Try.bytesOpK : Try.prog.bytesOf 34 = 40 := by kernel_rfl
instance : Inhabited Dk.O := ⟨⟨0, 0, none, 0, 0, []⟩⟩
section
variable {H : Type} {enc : TypeId × Value → H} {w : World} {base : Nat}
/-- Bytes that came in, no more than there are addresses. -/
theorem cell_bytes {v : Value} {fuel : Nat} {y : DataW H × List MemPlace} (hf : DataW.trod enc Try.prog w 0 (fun _ => true) true fuel 32 [v] = some y) (hz : ∀ k ∈ y.1.weights Try.prog 32, k ≤ reachBytes) :
    ∃ A c, ∃ xs : List Int, v = .slice A xs.length c ∧ xs.length ≤ c ∧ xs.length ≤ 140737488355328 ∧ Rds w (· < w.heap.size) A (u8s xs) := by
  have h0 := cell_ints Try.underlying32 Try.underlying5 Try.cellsU8K hf
  obtain ⟨a, len, cap, zs, rfl, h⟩ := h0
  have hln : len ≤ 140737488355328 := by
    rcases open_slice Try.underlying32 hf with ⟨hcs, _⟩ | ⟨x, ln, cp, m, nf, D, Pl, hcs, hb, hl, hm, hmm, rfl, hx⟩
    · simp at hcs; omega
    · simp at hcs
      obtain ⟨_, rfl, _⟩ := hcs
      have h1 := hz ((len + (m - len)) * 1) (by simp [DataW.weights, Try.underlying32, Try.bytesU8K])
      have h2 := reach_leK
      omega
  refine ⟨a, cap, zs.take len, by rw [h.len.1], by rw [h.len.1]; exact h.len.2, by rw [h.len.1]; exact hln, h.rds⟩
set_option maxRecDepth 1000000 in
theorem open_op {fuel : Nat} {cs : List Value} {y : DataW H × List MemPlace} (hf : DataW.trod enc Try.prog w 0 (fun _ => true) true fuel 34 cs = some y) (hz : ∀ k ∈ y.1.weights Try.prog 34, k ≤ reachBytes) :
    ∃ o : Dk.O, cs = o.cells ∧ o.xs.length = o.n ∧ o.n ≤ 140737488355328 ∧ Rds w (· < w.heap.size) o.A (u8s o.xs) ∧ o.N < 9223372036854775808 := by
  obtain ⟨xs, m, _, rfl, hlen, hx, hg⟩ := DataW.trod_struct Try.underlying34 hf
  rw [Try.cellsOpK] at hlen
  match cs, hlen with
  | [c0, c1, c2], _ =>
    have h0 : DataW.trod enc Try.prog w 0 (fun _ => true) true m 3 (([c0, c1, c2] : List Value).take (Try.prog.cellsOf 3)) = xs[0]? := hg 0 _ rfl
    have h1 : DataW.trod enc Try.prog w 0 (fun _ => true) true m 3 (([c1, c2] : List Value).take (Try.prog.cellsOf 3)) = xs[1]? := hg 1 _ rfl
    have h2 : DataW.trod enc Try.prog w 0 (fun _ => true) true m 32 (([c2] : List Value).take (Try.prog.cellsOf 32)) = xs[2]? := hg 2 _ rfl
    have hl2 : 2 < xs.length := by rw [hx]; decide
    rw [List.getElem?_eq_getElem (by omega)] at h0 h1 h2
    rw [Try.cellsInt] at h0 h1
    rw [Try.cellsBytesK] at h2
    obtain ⟨a, rfl⟩ := one_int h0
    obtain ⟨b, rfl, hbw⟩ := cell_int Try.underlying3 h1
    obtain ⟨A, c, zs, rfl, _, hn, hr⟩ := cell_bytes h2 (fun k hk => hz k (by
      simp only [DataW.weights, Try.underlying34]
      exact DataW.weights_mem_each (j := 2) (t := 32) (d := xs[2].1) rfl (by rw [List.getElem?_map, List.getElem?_eq_getElem hl2]; rfl) k hk))
    exact ⟨⟨a, b, A, zs.length, c, zs⟩, rfl, rfl, hn, hr, (wf_i64 hbw).2⟩
set_option maxRecDepth 1000000 in
theorem open_ops {fuel : Nat} {cs : List Value} {y : DataW H × List MemPlace} (hf : DataW.trod enc Try.prog w 0 (fun _ => true) true fuel 22 cs = some y) (hz : ∀ k ∈ y.1.weights Try.prog 22, k ≤ reachBytes) :
    ∃ A c, ∃ l : List Dk.O, cs = [.slice A l.length c] ∧ l.length ≤ 140737488355328 ∧ ORds w (· < w.heap.size) A l := by
  rcases open_slice Try.underlying22 hf with ⟨rfl, _⟩ | ⟨a, len, cap, m, nf, D, Pl, rfl, hb, hl, hm, hmm, rfl, hx⟩
  · exact ⟨none, 0, [], rfl, by simp, ⟨fun i r hr => by simp at hr, (fun o ho => by cases ho), (fun o ho => by cases ho)⟩⟩
  · have hm' : len ≤ m := by rw [hmm]; split <;> omega
    have hln : len ≤ 140737488355328 := by
      have h1 := hz ((len + (m - len)) * 40) (by simp [DataW.weights, Try.underlying22, Try.bytesOpK])
      have h2 := reach_leK
      omega
    have each : ∀ i, i < len → ∃ o : Dk.O, (∀ k u, o.cells[k]? = some u → w.cell? (a.add (i * 3 + k)) = some u) ∧ (o.xs.length = o.n ∧ o.n ≤ 140737488355328 ∧ Rds w (· < w.heap.size) o.A (u8s o.xs)) ∧ o.N < 9223372036854775808 := by
      intro i hi
      obtain ⟨cs', h1, h2⟩ := hx i (by omega)
      rw [Try.cellsOpK] at h1
      obtain ⟨_, hlen, hcell⟩ := World.cells?_some h1
      obtain ⟨o, rfl, h3, h4, h5, h6⟩ := open_op h2 (fun k hk => hz k (by
        simp only [DataW.weights, Try.underlying22, List.mem_cons, List.mem_append]
        exact .inr (.inl (weights_allK (List.mem_map.2 ⟨i, List.mem_range.2 hi, rfl⟩) k hk))))
      refine ⟨o, fun k u hu => ?_, ⟨h3, h4, h5⟩, h6⟩
      have hk : k < 3 := by
        rcases Nat.lt_or_ge k 3 with h | h
        · exact h
        · rw [List.getElem?_eq_none (by simpa [Dk.O.cells] using h)] at hu; cases hu
      have := hcell k hk
      rw [add_add] at this
      rw [this]
      simpa using hu
    obtain ⟨q, hq⟩ := choose_lt each
    refine ⟨some a, cap, (List.range len).map q, by simp, by simpa using hln, ⟨fun i r hr => ?_, fun o ho => ?_, fun o ho => ?_⟩⟩
    · rw [List.getElem?_map, List.getElem?_map] at hr
      have hi : i < len := by
        rcases Nat.lt_or_ge i len with h | h
        · exact h
        · rw [List.getElem?_eq_none (by simpa using h)] at hr; cases hr
      rw [List.getElem?_range hi] at hr
      simp only [Option.map_some, Option.some.injEq] at hr
      subst hr
      have h0 := (hq i hi).1 0 _ rfl
      have hlt := M.cellLt h0
      rw [M.addBlock] at hlt
      exact ⟨a, rfl, hlt, (hq i hi).1⟩
    · obtain ⟨i, hi, rfl⟩ := List.mem_map.1 ho
      exact (hq i (List.mem_range.1 hi)).2.1
    · obtain ⟨i, hi, rfl⟩ := List.mem_map.1 ho
      exact (hq i (List.mem_range.1 hi)).2.2
set_option maxRecDepth 1000000 in
theorem arg_ops {v : Value} {d : DataW H} {p : List MemPlace} (ho : Value.okWide Try.prog w .any base 22 v) (hk : DataW.Trod enc Try.prog w 0 (fun _ => true) true 22 v d p) (hz : ∀ k ∈ d.weights Try.prog 22, k ≤ reachBytes) :
    ∃ A c, ∃ l : List Dk.O, v = .slice A l.length c ∧ l.length ≤ 140737488355328 ∧ ORds w (· < w.heap.size) A l := by
  obtain ⟨a, len, cap, rfl⟩ := okWide_slice Try.underlying22 ho
  obtain ⟨fuel, hf⟩ := hk
  obtain ⟨A, c, l, e, h⟩ := open_ops hf hz
  exact ⟨A, c, l, by simpa [Value.cells] using e, h⟩
set_option maxRecDepth 1000000 in
theorem arg_swaps {v : Value} {d : DataW H} {p : List MemPlace} (ho : Value.okWide Try.prog w .any base 53 v) (hk : DataW.Trod enc Try.prog w 0 (fun _ => true) true 53 v d p) :
    ∃ (A1 : Option Addr) (c1 : Nat) (l1 : List Int) (A2 : Option Addr) (c2 : Nat) (l2 : List Int) (A3 : Option Addr) (c3 : Nat) (l3 : List Int) (keep : Int), v = swv A1 l1.length c1 A2 l2.length c2 A3 l3.length c3 keep ∧
      Rds w (· < w.heap.size) A1 (u8s l1) ∧ Rds w (· < w.heap.size) A2 (u8s l2) ∧ Rds w (· < w.heap.size) A3 (u8s l3) ∧ l3.length ≤ c3 ∧ keep < 9223372036854775808 := by
  obtain ⟨u0, u1, u2, u3, y0, y1, y2, y3, n, rfl, _, _, t0, t1, t2, t3⟩ := Go.Joins.open_agg4 Try.underlying53 (by kernel_rfl) (by kernel_rfl) ho hk
  obtain ⟨A1, n1, c1, z1, rfl, h1⟩ := cell_ints Try.underlying32 Try.underlying5 Try.cellsU8K t0
  obtain ⟨A2, n2, c2, z2, rfl, h2⟩ := cell_ints Try.underlying32 Try.underlying5 Try.cellsU8K t1
  obtain ⟨A3, n3, c3, z3, rfl, h3⟩ := cell_ints Try.underlying32 Try.underlying5 Try.cellsU8K t2
  obtain ⟨k, rfl, hkw⟩ := cell_int Try.underlying3 t3
  refine ⟨A1, c1, z1.take n1, A2, c2, z2.take n2, A3, c3, z3.take n3, k, by rw [h1.len.1, h2.len.1, h3.len.1], h1.rds, h2.rds, h3.rds, by rw [h3.len.1]; exact h3.len.2, (wf_i64 hkw).2⟩
set_option maxRecDepth 1000000 in
theorem open_brows {fuel : Nat} {cs : List Value} {y : DataW H × List MemPlace} (hf : DataW.trod enc Try.prog w 0 (fun _ => true) true fuel 45 cs = some y) (hz : ∀ k ∈ y.1.weights Try.prog 45, k ≤ reachBytes) :
    ∃ A c, ∃ (vs : List Value) (bs : List (List Int)), cs = [.slice A bs.length c] ∧ Rds w (· < w.heap.size) A vs ∧ vs.length = bs.length ∧ BRows w vs bs := by
  rcases open_slice Try.underlying45 hf with ⟨rfl, _⟩ | ⟨a, len, cap, m, nf, D, Pl, rfl, hb, hl, hm, hmm, rfl, hx⟩
  · exact ⟨none, 0, [], [], rfl, Rds.nil, rfl, fun i u b hu => by simp at hu⟩
  · have hm' : len ≤ m := by rw [hmm]; split <;> omega
    have each : ∀ i, i < len → ∃ x : Value × List Int, w.cell? (a.add i) = some x.1 ∧ ∃ A c, x.1 = .slice A x.2.length c ∧ Rds w (· < w.heap.size) A (u8s x.2) ∧ x.2.length ≤ 140737488355328 := by
      intro i hi
      obtain ⟨cs', h1, h2⟩ := hx i (by omega)
      rw [Try.cellsBytesK] at h1
      obtain ⟨_, hlen, hcell⟩ := World.cells?_some h1
      have h0 := hcell 0 (by omega)
      match cs', hlen with
      | [v], _ =>
        obtain ⟨A, c, xs, rfl, _, h4, h5⟩ := cell_bytes h2 (fun k hk => hz k (by
          simp only [DataW.weights, Try.underlying45, List.mem_cons, List.mem_append]
          exact .inr (.inl (weights_allK (List.mem_map.2 ⟨i, List.mem_range.2 hi, rfl⟩) k hk))))
        refine ⟨(.slice A xs.length c, xs), ?_, A, c, rfl, h5, h4⟩
        rw [add_add] at h0
        simpa using h0
    obtain ⟨q, hq⟩ := choose_lt each
    refine ⟨some a, cap, (List.range len).map fun i => (q i).1, (List.range len).map fun i => (q i).2, by simp, fun j u hu => ?_, by simp, fun i u b hu hb' => ?_⟩
    · rw [List.getElem?_map] at hu
      have hi : j < len := by
        rcases Nat.lt_or_ge j len with h | h
        · exact h
        · rw [List.getElem?_eq_none (by simpa using h)] at hu; cases hu
      rw [List.getElem?_range hi] at hu
      simp only [Option.map_some, Option.some.injEq] at hu
      subst hu
      have h0 := (hq j hi).1
      have hlt := M.cellLt h0
      rw [M.addBlock] at hlt
      exact ⟨a, rfl, hlt, h0⟩
    · rw [List.getElem?_map] at hu hb'
      have hi : i < len := by
        rcases Nat.lt_or_ge i len with h | h
        · exact h
        · rw [List.getElem?_eq_none (by simpa using h)] at hu; cases hu
      rw [List.getElem?_range hi] at hu hb'
      simp only [Option.map_some, Option.some.injEq] at hu hb'
      subst hu
      subst hb'
      exact (hq i hi).2
set_option maxRecDepth 1000000 in
theorem arg_lasts {v : Value} {d : DataW H} {p : List MemPlace} (ho : Value.okWide Try.prog w .any base 47 v) (hk : DataW.Trod enc Try.prog w 0 (fun _ => true) true 47 v d p) (hz : ∀ k ∈ d.weights Try.prog 47, k ≤ reachBytes) :
    ∃ (Z : Int) (A : Option Addr) (c : Nat) (l : List Dk.O) (B : Option Addr) (cb : Nat) (vs : List Value) (bs : List (List Int)) (keep : Int), v = .agg #[.int .i64 Z, .slice A l.length c, .slice B bs.length cb, .int .i64 keep] ∧
      ORds w (· < w.heap.size) A l ∧ l.length ≤ 140737488355328 ∧ Rds w (· < w.heap.size) B vs ∧ vs.length = bs.length ∧ BRows w vs bs ∧ keep < 9223372036854775808 := by
  obtain ⟨u0, u1, u2, u3, y0, y1, y2, y3, n, rfl, hd, _, t0, t1, t2, t3⟩ := Go.Joins.open_agg4 Try.underlying47 (by kernel_rfl) (by kernel_rfl) ho hk
  subst hd
  obtain ⟨Z, rfl, _⟩ := cell_int Try.underlying3 t0
  obtain ⟨A, c, l, e1, h1, h2⟩ := open_ops t1 (fun k hk => hz k (by
    simp only [DataW.weights, Try.underlying47]
    exact DataW.weights_mem_each (j := 1) (t := 22) (d := y1.1) rfl rfl k hk))
  obtain ⟨B, cb, vs, bs, e2, h3, h4, h5⟩ := open_brows t2 (fun k hk => hz k (by
    simp only [DataW.weights, Try.underlying47]
    exact DataW.weights_mem_each (j := 2) (t := 45) (d := y2.1) rfl rfl k hk))
  obtain ⟨keep, rfl, hkw⟩ := cell_int Try.underlying3 t3
  simp only [List.cons.injEq, and_true] at e1 e2
  subst e1
  subst e2
  exact ⟨Z, A, c, l, B, cb, vs, bs, keep, rfl, h2, h1, h3, h4, h5, (wf_i64 hkw).2⟩
end
end Go.Proofs.Ythgfjmifdeledaa
