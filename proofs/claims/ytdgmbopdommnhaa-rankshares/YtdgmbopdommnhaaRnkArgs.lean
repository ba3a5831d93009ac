/- Layer 12: nodes, a workload, a salt and numbers as a law's argument. -/
import Derived.Test.YtdgmbopdommnhaaRnkOne
import Derived.Test.YtdgmbopdommnhaaRnkLeav
namespace Go.Proofs.Ytdgmbopdommnhaa
set_option linter.unusedVariables false
set_option linter.unusedSimpArgs false
open Go.ChangeShapes Go.WideShapes Go.ChangeAt Go.RowKit

theorem Try.cellsTwo : Try.prog.cellsOf 41 = 5 := by kernel_rfl
theorem Try.cellsRowN : Try.prog.cellsOf 22 = 1 := by kernel_rfl
theorem Try.cellsU64N : Try.prog.cellsOf 23 = 1 := by kernel_rfl
theorem Try.cellsU8N : Try.prog.cellsOf 5 = 1 := by kernel_rfl
theorem nat_u64 {n : Int} (h : (Lit.int .u64 n).wf = true) : ∃ s : Nat, n = (s : Int) ∧ s < 18446744073709551616 := by
  have := wf_u64 h
  exact ⟨n.toNat, by omega, by omega⟩
theorem nat_u8 {n : Int} (h : (Lit.int .u8 n).wf = true) : ∃ s : Nat, n = (s : Int) ∧ s < 256 := by
  have := wf_u8 h
  exact ⟨n.toNat, by omega, by omega⟩
section
variable {H : Type} {enc : TypeId × Value → H} {w : World} {base : Nat}
set_option maxRecDepth 1000000 in
theorem arg_gone {v : Value} {d : DataW H} {p : List MemPlace} (ho : Value.okWide Try.prog w .any base 36 v) (hk : DataW.Trod enc Try.prog w 0 (fun _ => true) true 36 v d p) :
    ∃ (A : Option Addr) (n c : Nat) (ns : List Int) (k : Int) (s a : Nat), v = .agg (gnV A n c k s a) ∧ ns.length = n ∧ Rds w (· < w.heap.size) A (i64s ns) ∧ s < 18446744073709551616 ∧ a < 256 := by
  obtain ⟨u0, u1, u2, u3, y0, y1, y2, y3, n, rfl, _, _, t0, t1, t2, t3⟩ := Go.Joins.open_agg4 Try.underlying36 (by kernel_rfl) (by kernel_rfl) ho hk
  obtain ⟨a, len, cap, zs, rfl, h⟩ := cell_ints Try.underlying22 Try.underlying3 (by kernel_rfl) t0
  obtain ⟨x, rfl, _⟩ := cell_int Try.underlying3 t1
  obtain ⟨y, rfl, hy⟩ := cell_int Try.underlying23 t2
  obtain ⟨z, rfl, hz⟩ := cell_int Try.underlying5 t3
  obtain ⟨s, rfl, hs⟩ := nat_u64 hy
  obtain ⟨b, rfl, hb⟩ := nat_u8 hz
  exact ⟨a, len, cap, zs.take len, x, s, b, rfl, h.len.1, h.rds, hs, hb⟩
set_option maxRecDepth 1000000 in
theorem arg_two {v : Value} {d : DataW H} {p : List MemPlace} (ho : Value.okWide Try.prog w .any base 41 v) (hk : DataW.Trod enc Try.prog w 0 (fun _ => true) true 41 v d p) :
    ∃ (A : Option Addr) (n c : Nat) (ns : List Int) (k : Int) (s a b : Nat), v = .agg (twV A n c k s a b) ∧ ns.length = n ∧ Rds w (· < w.heap.size) A (i64s ns) ∧ s < 18446744073709551616 ∧ a < 256 ∧ b < 256 := by
  obtain ⟨cs, rfl, _⟩ := okWide_struct Try.underlying41 ho
  obtain ⟨fuel, hf⟩ := hk
  obtain ⟨xs, m, _, _, hlen, hx, hg⟩ := DataW.trod_struct Try.underlying41 hf
  rw [Try.cellsTwo] at hlen
  obtain ⟨l, hl⟩ : ∃ l, l = (Value.agg cs).cells.toList := ⟨_, rfl⟩
  rw [← hl] at hlen hg
  match l, hlen, hl with
  | [c0, c1, c2, c3, c4], _, hl =>
    have h0 : DataW.trod enc Try.prog w 0 (fun _ => true) true m 22 (([c0, c1, c2, c3, c4] : List Value).take (Try.prog.cellsOf 22)) = xs[0]? := hg 0 _ rfl
    have h1 : DataW.trod enc Try.prog w 0 (fun _ => true) true m 3 (([c1, c2, c3, c4] : List Value).take (Try.prog.cellsOf 3)) = xs[1]? := hg 1 _ rfl
    have h2 : DataW.trod enc Try.prog w 0 (fun _ => true) true m 23 (([c2, c3, c4] : List Value).take (Try.prog.cellsOf 23)) = xs[2]? := hg 2 _ rfl
    have h3 : DataW.trod enc Try.prog w 0 (fun _ => true) true m 5 (([c3, c4] : List Value).take (Try.prog.cellsOf 5)) = xs[3]? := hg 3 _ rfl
    have h4 : DataW.trod enc Try.prog w 0 (fun _ => true) true m 5 (([c4] : List Value).take (Try.prog.cellsOf 5)) = xs[4]? := hg 4 _ rfl
    rw [List.getElem?_eq_getElem (by rw [hx]; decide)] at h0 h1 h2 h3 h4
    rw [Try.cellsRowN] at h0
    rw [Try.cellsInt] at h1
    rw [Try.cellsU64N] at h2
    rw [Try.cellsU8N] at h3 h4
    obtain ⟨a, len, cap, zs, rfl, h⟩ := cell_ints Try.underlying22 Try.underlying3 (by kernel_rfl) h0
    obtain ⟨x, rfl, _⟩ := cell_int Try.underlying3 h1
    obtain ⟨y, rfl, hy⟩ := cell_int Try.underlying23 h2
    obtain ⟨z, rfl, hz⟩ := cell_int Try.underlying5 h3
    obtain ⟨z', rfl, hz'⟩ := cell_int Try.underlying5 h4
    obtain ⟨s, rfl, hs⟩ := nat_u64 hy
    obtain ⟨b, rfl, hb⟩ := nat_u8 hz
    obtain ⟨b', rfl, hb'⟩ := nat_u8 hz'
    refine ⟨a, len, cap, zs.take len, x, s, b, b', ?_, h.len.1, h.rds, hs, hb, hb'⟩
    have e : cs.toList = (twV a len cap x s b b').toList := by simpa [Value.cells] using hl.symm
    rw [Array.toList_inj.1 e]
end
end Go.Proofs.Ytdgmbopdommnhaa
