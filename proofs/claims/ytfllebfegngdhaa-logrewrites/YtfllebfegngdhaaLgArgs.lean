/- Layer 14: what the laws are asked of: their arguments opened. -/
import Derived.Test.YtfllebfegngdhaaLgOps
import Derived.Test.YtfllebfegngdhaaDkArg0
namespace Go.Proofs.Ytfllebfegngdhaa
set_option linter.unusedVariables false
set_option linter.unusedSimpArgs false
open Go.ChangeShapes Go.WideShapes Go.ChangeAt Go.RowKit Go.Deep

theorem Try.cellsOpG : Try.prog.cellsOf 35 = 4 := by kernel_rfl
theorem Try.bytesOpG : Try.prog.bytesOf 35 = 64 := by kernel_rfl
theorem Try.bytesSlG : Try.prog.bytesOf 32 = 24 := by kernel_rfl
theorem Try.cellsBrG : Try.prog.cellsOf 33 = 1 := by kernel_rfl
instance : Inhabited Lg.O := ⟨⟨0, 0, none, 0, 0, [], none, 0, 0, [], []⟩⟩
section
variable {H : Type} {enc : TypeId × Value → H} {w : World} {base : Nat}
/-- Bytes that came in, no more than there are addresses. -/
theorem cell_bytesY {v : Value} {fuel : Nat} {y : DataW H × List MemPlace} (hf : DataW.trod enc Try.prog w 0 (fun _ => true) true fuel 32 [v] = some y) (hz : ∀ k ∈ y.1.weights Try.prog 32, k ≤ reachBytes) :
    ∃ A c, ∃ xs : List Int, v = .slice A xs.length c ∧ xs.length ≤ 140737488355328 ∧ Rds w (· < w.heap.size) A (u8s xs) ∧ Byt xs := by
  have h0 := cell_ints Try.underlying32 Try.underlying5 Try.cellsU8K hf
  obtain ⟨a, len, cap, zs, rfl, h⟩ := h0
  have hln : len ≤ 140737488355328 := by
    rcases open_slice Try.underlying32 hf with ⟨hcs, _⟩ | ⟨x, ln, cp, m, nf, D, Pl, hcs, hb, hl, hm, hmm, rfl, hx⟩
    · simp at hcs; omega
    · simp at hcs
      obtain ⟨_, rfl, _⟩ := hcs
      have h1 := hz ((len + (m - len)) * 1) (by simp [DataW.weights, Try.underlying32, Try.bytesU8K])
      have h2 := reach_leK
      omega
  exact ⟨a, cap, zs.take len, by rw [h.len.1], by rw [h.len.1]; exact hln, h.rds, h.byt⟩
set_option maxRecDepth 1000000 in
theorem open_brY {fuel : Nat} {cs : List Value} {y : DataW H × List MemPlace} (hf : DataW.trod enc Try.prog w 0 (fun _ => true) true fuel 33 cs = some y) (hz : ∀ k ∈ y.1.weights Try.prog 33, k ≤ reachBytes) :
    ∃ A c, ∃ (vs : List Value) (bs : List (List Int)), cs = [.slice A bs.length c] ∧ bs.length ≤ 5864062014805 ∧ Rds w (· < w.heap.size) A vs ∧ BRd w (· < w.heap.size) vs bs ∧ ∀ b ∈ bs, b.length ≤ 140737488355328 ∧ Byt b := by
  rcases open_slice Try.underlying33 hf with ⟨rfl, _⟩ | ⟨a, len, cap, m, nf, D, Pl, rfl, hb, hl, hm, hmm, rfl, hx⟩
  · exact ⟨none, 0, [], [], rfl, by simp, Rds.nil, ⟨rfl, fun i u b hu => by simp at hu⟩, fun b hb => by simp at hb⟩
  · have hm' : len ≤ m := by rw [hmm]; split <;> omega
    have hln : len ≤ 5864062014805 := by
      have h1 := hz ((len + (m - len)) * 24) (by simp [DataW.weights, Try.underlying33, Try.bytesSlG])
      have h2 := reach_leK
      omega
    have each : ∀ i, i < len → ∃ x : Value × List Int, w.cell? (a.add i) = some x.1 ∧ ∃ A c, x.1 = .slice A x.2.length c ∧ Rds w (· < w.heap.size) A (u8s x.2) ∧ x.2.length ≤ 140737488355328 ∧ Byt x.2 := by
      intro i hi
      obtain ⟨cs', h1, h2⟩ := hx i (by omega)
      rw [Try.cellsBytesK] at h1
      obtain ⟨_, hlen, hcell⟩ := World.cells?_some h1
      have h0 := hcell 0 (by omega)
      match cs', hlen with
      | [v], _ =>
        obtain ⟨A, c, xs, rfl, h4, h5, h6⟩ := cell_bytesY h2 (fun k hk => hz k (by
          simp only [DataW.weights, Try.underlying33, List.mem_cons, List.mem_append]
          exact .inr (.inl (weights_allK (List.mem_map.2 ⟨i, List.mem_range.2 hi, rfl⟩) k hk))))
        refine ⟨(.slice A xs.length c, xs), ?_, A, c, rfl, h5, h4, h6⟩
        rw [add_add] at h0
        simpa using h0
    obtain ⟨q, hq⟩ := choose_lt each
    refine ⟨some a, cap, (List.range len).map fun i => (q i).1, (List.range len).map fun i => (q i).2, by simp, by simpa using hln, fun j u hu => ?_, ⟨by simp, fun i u b hu hb' => ?_⟩, fun b hb' => ?_⟩
    · rw [List.getElem?_map] at hu
      have hi : j < len := by
        rcases Nat.lt_or_ge j len with h | h
        · exact h
        · rw [List.getElem?_eq_none (by simpa using h)] at hu; cases hu
      rw [List.getElem?_range hi] at hu
      simp only [Option.map_some, Option.some.injEq] at hu
      subst hu
      have h0 := (hq j hi).1
      have hlt := M.cellLt h0
      rw [M.addBlock] at hlt
      exact ⟨a, rfl, hlt, h0⟩
    · rw [List.getElem?_map] at hu hb'
      have hi : i < len := by
        rcases Nat.lt_or_ge i len with h | h
        · exact h
        · rw [List.getElem?_eq_none (by simpa using h)] at hu; cases hu
      rw [List.getElem?_range hi] at hu hb'
      simp only [Option.map_some, Option.some.injEq] at hu hb'
      subst hu
      subst hb'
      obtain ⟨A, c, e, h5, _⟩ := (hq i hi).2
      exact ⟨A, c, e, h5⟩
    · obtain ⟨i, hi, rfl⟩ := List.mem_map.1 hb'
      obtain ⟨A, c, e, h5, h6, h7⟩ := (hq i (List.mem_range.1 hi)).2
      exact ⟨h6, h7⟩
set_option maxRecDepth 1000000 in
theorem open_opG {fuel : Nat} {cs : List Value} {y : DataW H × List MemPlace} (hf : DataW.trod enc Try.prog w 0 (fun _ => true) true fuel 35 cs = some y) (hz : ∀ k ∈ y.1.weights Try.prog 35, k ≤ reachBytes) :
    ∃ o : Lg.O, cs = o.cells ∧ o.Ok w (· < w.heap.size) := by
  obtain ⟨xs, m, _, rfl, hlen, hx, hg⟩ := DataW.trod_struct Try.underlying35 hf
  rw [Try.cellsOpG] at hlen
  match cs, hlen with
  | [c0, c1, c2, c3], _ =>
    have h0 : DataW.trod enc Try.prog w 0 (fun _ => true) true m 3 (([c0, c1, c2, c3] : List Value).take (Try.prog.cellsOf 3)) = xs[0]? := hg 0 _ rfl
    have h1 : DataW.trod enc Try.prog w 0 (fun _ => true) true m 3 (([c1, c2, c3] : List Value).take (Try.prog.cellsOf 3)) = xs[1]? := hg 1 _ rfl
    have h2 : DataW.trod enc Try.prog w 0 (fun _ => true) true m 32 (([c2, c3] : List Value).take (Try.prog.cellsOf 32)) = xs[2]? := hg 2 _ rfl
    have h3 : DataW.trod enc Try.prog w 0 (fun _ => true) true m 33 (([c3] : List Value).take (Try.prog.cellsOf 33)) = xs[3]? := hg 3 _ rfl
    have hl3 : 3 < xs.length := by rw [hx]; decide
    rw [List.getElem?_eq_getElem (by omega)] at h0 h1 h2 h3
    rw [Try.cellsInt] at h0 h1
    rw [Try.cellsBytesK] at h2
    rw [Try.cellsBrG] at h3
    obtain ⟨a, rfl⟩ := one_int h0
    obtain ⟨b, rfl, hbw⟩ := cell_int Try.underlying3 h1
    obtain ⟨A, c, zs, rfl, hn, hr, hy⟩ := cell_bytesY h2 (fun k hk => hz k (by
      simp only [DataW.weights, Try.underlying35]
      exact DataW.weights_mem_each (j := 2) (t := 32) (d := xs[2].1) rfl (by rw [List.getElem?_map, List.getElem?_eq_getElem (by omega)]; rfl) k hk))
    obtain ⟨B, d, us, bs, e, hm, hs, hb, hq⟩ := open_brY h3 (fun k hk => hz k (by
      simp only [DataW.weights, Try.underlying35]
      exact DataW.weights_mem_each (j := 3) (t := 33) (d := xs[3].1) rfl (by rw [List.getElem?_map, List.getElem?_eq_getElem (by omega)]; rfl) k hk))
    simp only [List.take_succ_cons, List.take_zero, List.cons.injEq, and_true] at e
    subst e
    exact ⟨⟨a, b, A, zs.length, c, zs, B, bs.length, d, us, bs⟩, rfl, ⟨rfl, hn, hr, hy, rfl, hm, hs, hb, hq, (wf_i64 hbw).2⟩⟩
set_option maxRecDepth 1000000 in
theorem open_opsG {fuel : Nat} {cs : List Value} {y : DataW H × List MemPlace} (hf : DataW.trod enc Try.prog w 0 (fun _ => true) true fuel 22 cs = some y) (hz : ∀ k ∈ y.1.weights Try.prog 22, k ≤ reachBytes) :
    ∃ A c, ∃ l : List Lg.O, cs = [.slice A l.length c] ∧ l.length ≤ 140737488355328 ∧ LOps w (· < w.heap.size) A l := by
  rcases open_slice Try.underlying22 hf with ⟨rfl, _⟩ | ⟨a, len, cap, m, nf, D, Pl, rfl, hb, hl, hm, hmm, rfl, hx⟩
  · exact ⟨none, 0, [], rfl, by simp, ⟨fun i r hr => by simp at hr, fun o ho => by cases ho⟩⟩
  · have hm' : len ≤ m := by rw [hmm]; split <;> omega
    have hln : len ≤ 140737488355328 := by
      have h1 := hz ((len + (m - len)) * 64) (by simp [DataW.weights, Try.underlying22, Try.bytesOpG])
      have h2 := reach_leK
      omega
    have each : ∀ i, i < len → ∃ o : Lg.O, (∀ k u, o.cells[k]? = some u → w.cell? (a.add (i * 4 + k)) = some u) ∧ o.Ok w (· < w.heap.size) := by
      intro i hi
      obtain ⟨cs', h1, h2⟩ := hx i (by omega)
      rw [Try.cellsOpG] at h1
      obtain ⟨_, hlen, hcell⟩ := World.cells?_some h1
      obtain ⟨o, rfl, h3⟩ := open_opG h2 (fun k hk => hz k (by
        simp only [DataW.weights, Try.underlying22, List.mem_cons, List.mem_append]
        exact .inr (.inl (weights_allK (List.mem_map.2 ⟨i, List.mem_range.2 hi, rfl⟩) k hk))))
      refine ⟨o, fun k u hu => ?_, h3⟩
      have hk : k < 4 := by
        rcases Nat.lt_or_ge k 4 with h | h
        · exact h
        · rw [List.getElem?_eq_none (by simpa [Lg.O.cells] using h)] at hu; cases hu
      have := hcell k hk
      rw [add_add] at this
      rw [this]
      simpa using hu
    obtain ⟨q, hq⟩ := choose_lt each
    refine ⟨some a, cap, (List.range len).map q, by simp, by simpa using hln, ⟨fun i r hr => ?_, fun o ho => ?_⟩⟩
    · rw [List.getElem?_map, List.getElem?_map] at hr
      have hi : i < len := by
        rcases Nat.lt_or_ge i len with h | h
        · exact h
        · rw [List.getElem?_eq_none (by simpa using h)] at hr; cases hr
      rw [List.getElem?_range hi] at hr
      simp only [Option.map_some, Option.some.injEq] at hr
      subst hr
      have h0 := (hq i hi).1 0 _ rfl
      have hlt := M.cellLt h0
      rw [M.addBlock] at hlt
      exact ⟨a, rfl, hlt, (hq i hi).1⟩
    · obtain ⟨i, hi, rfl⟩ := List.mem_map.1 ho
      exact (hq i (List.mem_range.1 hi)).2
set_option maxRecDepth 1000000 in
theorem arg_opsG {v : Value} {d : DataW H} {p : List MemPlace} (ho : Value.okWide Try.prog w .any base 22 v) (hk : DataW.Trod enc Try.prog w 0 (fun _ => true) true 22 v d p) (hz : ∀ k ∈ d.weights Try.prog 22, k ≤ reachBytes) :
    ∃ A c, ∃ l : List Lg.O, v = .slice A l.length c ∧ l.length ≤ 140737488355328 ∧ LOps w (· < w.heap.size) A l := by
  obtain ⟨a, len, cap, rfl⟩ := okWide_slice Try.underlying22 ho
  obtain ⟨fuel, hf⟩ := hk
  obtain ⟨A, c, l, e, h⟩ := open_opsG hf hz
  exact ⟨A, c, l, by simpa [Value.cells] using e, h⟩
set_option maxRecDepth 1000000 in
theorem arg_brY {v : Value} {d : DataW H} {p : List MemPlace} (ho : Value.okWide Try.prog w .any base 33 v) (hk : DataW.Trod enc Try.prog w 0 (fun _ => true) true 33 v d p) (hz : ∀ k ∈ d.weights Try.prog 33, k ≤ reachBytes) :
    ∃ A c, ∃ (vs : List Value) (bs : List (List Int)), v = .slice A bs.length c ∧ bs.length ≤ 5864062014805 ∧ Rds w (· < w.heap.size) A vs ∧ BRd w (· < w.heap.size) vs bs ∧ ∀ b ∈ bs, b.length ≤ 140737488355328 ∧ Byt b := by
  obtain ⟨a, len, cap, rfl⟩ := okWide_slice Try.underlying33 ho
  obtain ⟨fuel, hf⟩ := hk
  obtain ⟨A, c, vs, bs, e, h⟩ := open_brY hf hz
  exact ⟨A, c, vs, bs, by simpa [Value.cells] using e, h⟩
set_option maxRecDepth 1000000 in
theorem arg_bytesY {v : Value} {d : DataW H} {p : List MemPlace} (ho : Value.okWide Try.prog w .any base 32 v) (hk : DataW.Trod enc Try.prog w 0 (fun _ => true) true 32 v d p) (hz : ∀ k ∈ d.weights Try.prog 32, k ≤ reachBytes) :
    ∃ A c, ∃ xs : List Int, v = .slice A xs.length c ∧ xs.length ≤ 140737488355328 ∧ Rds w (· < w.heap.size) A (u8s xs) ∧ Byt xs := by
  obtain ⟨a, len, cap, rfl⟩ := okWide_slice Try.underlying32 ho
  obtain ⟨fuel, hf⟩ := hk
  exact cell_bytesY (by simpa [Value.cells] using hf) hz
set_option maxRecDepth 1000000 in
theorem arg_torn {v : Value} {d : DataW H} {p : List MemPlace} (ho : Value.okWide Try.prog w .any base 53 v) (hk : DataW.Trod enc Try.prog w 0 (fun _ => true) true 53 v d p) (hz : ∀ k ∈ d.weights Try.prog 53, k ≤ reachBytes) :
    ∃ (A : Option Addr) (c : Nat) (vs : List Value) (bs : List (List Int)) (B : Option Addr) (e : Nat) (xs : List Int) (C : Option Addr) (f : Nat) (ys : List Int) (keep : Int), v = .agg #[.slice A bs.length c, .slice B xs.length e, .slice C ys.length f, .int .i64 keep] ∧
      (bs.length ≤ 5864062014805 ∧ Rds w (· < w.heap.size) A vs ∧ BRd w (· < w.heap.size) vs bs ∧ ∀ b ∈ bs, b.length ≤ 140737488355328 ∧ Byt b) ∧
      (xs.length ≤ 140737488355328 ∧ Rds w (· < w.heap.size) B (u8s xs) ∧ Byt xs) ∧ (ys.length ≤ 140737488355328 ∧ Rds w (· < w.heap.size) C (u8s ys) ∧ Byt ys) ∧ keep < 9223372036854775808 := by
  obtain ⟨u0, u1, u2, u3, y0, y1, y2, y3, n, rfl, hd, _, t0, t1, t2, t3⟩ := Go.Joins.open_agg4 Try.underlying53 (by kernel_rfl) (by kernel_rfl) ho hk
  subst hd
  obtain ⟨A, c, vs, bs, e0, h0⟩ := open_brY t0 (fun k hk => hz k (by
    simp only [DataW.weights, Try.underlying53]
    exact DataW.weights_mem_each (j := 0) (t := 33) (d := y0.1) rfl rfl k hk))
  obtain ⟨B, e, xs, rfl, h1⟩ := cell_bytesY t1 (fun k hk => hz k (by
    simp only [DataW.weights, Try.underlying53]
    exact DataW.weights_mem_each (j := 1) (t := 32) (d := y1.1) rfl rfl k hk))
  obtain ⟨C, f, ys, rfl, h2⟩ := cell_bytesY t2 (fun k hk => hz k (by
    simp only [DataW.weights, Try.underlying53]
    exact DataW.weights_mem_each (j := 2) (t := 32) (d := y2.1) rfl rfl k hk))
  obtain ⟨keep, rfl, hkw⟩ := cell_int Try.underlying3 t3
  simp only [List.cons.injEq, and_true] at e0
  subst e0
  exact ⟨A, c, vs, bs, B, e, xs, C, f, ys, keep, rfl, h0, h1, h2, (wf_i64 hkw).2⟩
end
end Go.Proofs.Ytfllebfegngdhaa
