/- Layer 11: a policy and three numbers as a law's argument. -/
import Derived.Test.YtdppabnhflaoeaaDecMore
import Derived.Test.YtdppabnhflaoeaaPolArgs
namespace Go.Proofs.Ytdppabnhflaoeaa
set_option linter.unusedVariables false
set_option linter.unusedSimpArgs false
open Go.ChangeShapes Go.WideShapes Go.ChangeAt Go.RowKit

theorem Try.cellsLoads : Try.prog.cellsOf 40 = 10 := by kernel_rfl
section
variable {H : Type} {enc : TypeId × Value → H} {w : World} {base : Nat}
set_option maxRecDepth 1000000 in
theorem open_loads {fuel : Nat} {cs : List Value} {y : DataW H × List MemPlace} (hf : DataW.trod enc Try.prog w 0 (fun _ => true) true fuel 40 cs = some y) :
    ∃ F a b t, cs = (lcs F a b t).toList := by
  obtain ⟨xs, m, _, _, hlen, hx, hg⟩ := DataW.trod_struct Try.underlying40 hf
  rw [Try.cellsLoads] at hlen
  match cs, hlen with
  | [c0, c1, c2, c3, c4, c5, c6, c7, c8, c9], _ =>
    have h0 : DataW.trod enc Try.prog w 0 (fun _ => true) true m 23 (([c0, c1, c2, c3, c4, c5, c6, c7, c8, c9] : List Value).take (Try.prog.cellsOf 23)) = xs[0]? := hg 0 _ rfl
    have h1 : DataW.trod enc Try.prog w 0 (fun _ => true) true m 3 (([c7, c8, c9] : List Value).take (Try.prog.cellsOf 3)) = xs[1]? := hg 1 _ rfl
    have h2 : DataW.trod enc Try.prog w 0 (fun _ => true) true m 3 (([c8, c9] : List Value).take (Try.prog.cellsOf 3)) = xs[2]? := hg 2 _ rfl
    have h3 : DataW.trod enc Try.prog w 0 (fun _ => true) true m 3 (([c9] : List Value).take (Try.prog.cellsOf 3)) = xs[3]? := hg 3 _ rfl
    rw [List.getElem?_eq_getElem (by rw [hx]; decide)] at h0 h1 h2 h3
    rw [Try.cellsInt] at h1 h2 h3
    rw [Try.cellsPol] at h0
    obtain ⟨p0, p1, p2, p3, p4, p5, p6, e⟩ := open_pol h0
    obtain ⟨a, rfl⟩ := one_int h1
    obtain ⟨b, rfl⟩ := one_int h2
    obtain ⟨t, rfl⟩ := one_int h3
    simp only [List.take_succ_cons, List.take_zero, List.cons.injEq, and_true] at e
    obtain ⟨rfl, rfl, rfl, rfl, rfl, rfl, rfl⟩ := e
    exact ⟨fun j => [0, 0, 0, 0, 0, 0, p0, p1, p2, p3, p4, p5, p6].getD j 0, a, b, t, rfl⟩
set_option maxRecDepth 1000000 in
theorem arg_loads {v : Value} {d : DataW H} {p : List MemPlace} (ho : Value.okWide Try.prog w .any base 40 v) (hk : DataW.Trod enc Try.prog w 0 (fun _ => true) true 40 v d p) : ∃ F a b t, v = .agg (lcs F a b t) := by
  obtain ⟨cs, rfl, _⟩ := okWide_struct Try.underlying40 ho
  obtain ⟨fuel, hf⟩ := hk
  obtain ⟨F, a, b, t, e⟩ := open_loads hf
  refine ⟨F, a, b, t, ?_⟩
  have e' : cs.toList = (lcs F a b t).toList := by simpa [Value.cells] using e
  rw [Array.toList_inj.1 e']
end
end Go.Proofs.Ytdppabnhflaoeaa
