/- What layer 10's laws are asked of: their arguments opened. -/
import Derived.Test.YtodlifbhpgphcaaEvArgs2
import Derived.Lib.SmallJoins
namespace Go.Proofs.Ytodlifbhpgphcaa
set_option linter.unusedVariables false
set_option linter.unusedSimpArgs false
open Go.ChangeShapes Go.WideShapes Go.ChangeAt Go.RowKit

section
variable {H : Type} {enc : TypeId × Value → H} {w : World} {base : Nat}
theorem cell_evs {v : Value} {fuel : Nat} {y : DataW H × List MemPlace} (hf : DataW.trod enc Try.prog w 0 (fun _ => true) true fuel 22 [v] = some y) (hz : ∀ k ∈ y.1.weights Try.prog 22, k ≤ reachBytes) :
    ∃ A n c l, v = .slice A n c ∧ EvsIn w A n c l := by
  obtain ⟨A, n, c, l, h, hin⟩ := open_evs hf hz
  exact ⟨A, n, c, l, by simpa using h, hin⟩
set_option maxRecDepth 1000000 in
theorem arg_asked {v : Value} {d : DataW H} {p : List MemPlace} (ho : Value.okWide Try.prog w .any base 24 v) (hk : DataW.Trod enc Try.prog w 0 (fun _ => true) true 24 v d p) (hz : ∀ k ∈ d.weights Try.prog 24, k ≤ reachBytes) :
    ∃ A n c l k nd sz, v = .agg #[.slice A n c, .int .i64 k, .int .i64 nd, .int .i64 sz] ∧ EvsIn w A n c l := by
  obtain ⟨u0, u1, u2, u3, y0, y1, y2, y3, n, rfl, hd, _, t0, t1, t2, t3⟩ := Go.Joins.open_agg4 Try.underlying24 (by kernel_rfl) (by kernel_rfl) ho hk
  subst hd
  obtain ⟨A, n, c, l, rfl, h⟩ := cell_evs t0 (fun k hk => hz k (by
    simp only [DataW.weights, Try.underlying24]
    exact DataW.weights_mem_each (j := 0) (t := 22) (d := y0.1) rfl rfl k hk))
  obtain ⟨x, rfl, _⟩ := cell_int Try.underlying3 t1
  obtain ⟨y, rfl, _⟩ := cell_int Try.underlying3 t2
  obtain ⟨z, rfl, _⟩ := cell_int Try.underlying3 t3
  exact ⟨A, n, c, l, x, y, z, rfl, h⟩
set_option maxRecDepth 1000000 in
theorem arg_turned {v : Value} {d : DataW H} {p : List MemPlace} (ho : Value.okWide Try.prog w .any base 39 v) (hk : DataW.Trod enc Try.prog w 0 (fun _ => true) true 39 v d p) (hz : ∀ k ∈ d.weights Try.prog 39, k ≤ reachBytes) :
    ∃ A n c l k sz t, v = .agg #[.slice A n c, .int .i64 k, .int .i64 sz, .int .u8 t] ∧ EvsIn w A n c l ∧ 0 ≤ t ∧ t ≤ 255 := by
  obtain ⟨u0, u1, u2, u3, y0, y1, y2, y3, n, rfl, hd, _, t0, t1, t2, t3⟩ := Go.Joins.open_agg4 Try.underlying39 (by kernel_rfl) (by kernel_rfl) ho hk
  subst hd
  obtain ⟨A, n, c, l, rfl, h⟩ := cell_evs t0 (fun k hk => hz k (by
    simp only [DataW.weights, Try.underlying39]
    exact DataW.weights_mem_each (j := 0) (t := 22) (d := y0.1) rfl rfl k hk))
  obtain ⟨x, rfl, _⟩ := cell_int Try.underlying3 t1
  obtain ⟨y, rfl, _⟩ := cell_int Try.underlying3 t2
  obtain ⟨z, rfl, hw⟩ := cell_int Try.underlying5 t3
  have hw8 := wf_u8 hw
  exact ⟨A, n, c, l, x, y, z, rfl, h, hw8.1, by have := hw8.2; omega⟩
theorem wf_u16K {n : Int} (h : (Lit.int .u16 n).wf = true) : 0 ≤ n ∧ n < 65536 := by
  have e1 : IntKind.u16.min = 0 := by decide
  have e2 : IntKind.u16.max = 65535 := by decide
  simp [Lit.wf, e1, e2] at h
  omega
theorem RowIn.u16K {a : Option Addr} {len cap : Nat} {zs : List Int} (h : RowIn .u16 w a len cap zs) : ∀ x ∈ zs.take len, 0 ≤ x ∧ x < 65536 := by
  intro b hb
  have hb' := List.mem_of_mem_take hb
  rcases h with ⟨_, _, _, rfl⟩ | ⟨x, _, _, _, _, _, hw⟩
  · simp at hb'
  · exact wf_u16K (hw b hb')
theorem RowIn.maxK {k : IntKind} {a : Option Addr} {len cap : Nat} {zs : List Int} (h : RowIn k w a len cap zs) : len ≤ maxLen := by
  rcases h with ⟨_, rfl, _, _⟩ | ⟨x, _, h1, h2, _⟩
  · exact Nat.zero_le _
  · exact Nat.le_trans h1 h2
set_option maxRecDepth 1000000 in
theorem arg_means {v : Value} {d : DataW H} {p : List MemPlace} (ho : Value.okWide Try.prog w .any base 51 v) (hk : DataW.Trod enc Try.prog w 0 (fun _ => true) true 51 v d p) :
    ∃ (A : Option Addr) (n c : Nat) (vs : List Int) (sz t dd : Int), v = .agg #[.slice A n c, .int .u8 sz, .int .u8 t, .int .u16 dd] ∧ vs.length = n ∧ Rds w (· < w.heap.size) A (vs.map (Value.int .u16)) ∧ (∀ x ∈ vs, 0 ≤ x ∧ x < 65536) ∧ n ≤ maxLen ∧ (0 ≤ sz ∧ sz < 256) ∧ (0 ≤ t ∧ t < 256) ∧ (0 ≤ dd ∧ dd < 65536) := by
  obtain ⟨u0, u1, u2, u3, y0, y1, y2, y3, n, rfl, _, _, t0, t1, t2, t3⟩ := Go.Joins.open_agg4 Try.underlying51 (by kernel_rfl) (by kernel_rfl) ho hk
  obtain ⟨a, len, cap, zs, rfl, h⟩ := cell_ints Try.underlying48 Try.underlying49 (by kernel_rfl) t0
  obtain ⟨x, rfl, hx⟩ := cell_int Try.underlying5 t1
  obtain ⟨y, rfl, hy⟩ := cell_int Try.underlying5 t2
  obtain ⟨z, rfl, hz⟩ := cell_int Try.underlying49 t3
  exact ⟨a, len, cap, zs.take len, x, y, z, rfl, h.len.1, h.rds, h.u16K, h.maxK, wf_u8 hx, wf_u8 hy, wf_u16K hz⟩
end
end Go.Proofs.Ytodlifbhpgphcaa
