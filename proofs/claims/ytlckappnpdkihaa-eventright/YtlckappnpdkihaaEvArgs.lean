/- Events as a law's arguments. -/
import Derived.Test.YtlckappnpdkihaaEvMem
import Derived.Test.YtlckappnpdkihaaDotArgsD
namespace Go.Proofs.Ytlckappnpdkihaa
set_option linter.unusedVariables false
set_option linter.unusedSimpArgs false
open Go.ChangeShapes Go.WideShapes Go.ChangeAt Go.RowKit Go.Deep

theorem Try.cellsEvent : Try.prog.cellsOf 28 = 14 := by kernel_rfl
theorem Try.cellsPol : Try.prog.cellsOf 25 = 7 := by kernel_rfl
section
variable {H : Type} {enc : TypeId × Value → H} {w : World} {base : Nat}
theorem one_int {m : Nat} {v : Value} {y : DataW H × List MemPlace} (h : DataW.trod enc Try.prog w 0 (fun _ => true) true m 3 [v] = some y) : ∃ n, v = .int .i64 n := by
  obtain ⟨n, q, _, _⟩ := DataW.trod_int Try.underlying3 h
  simp at q
  exact ⟨n, q⟩
set_option maxRecDepth 1000000 in
theorem open_pol {fuel : Nat} {cs : List Value} {y : DataW H × List MemPlace} (hf : DataW.trod enc Try.prog w 0 (fun _ => true) true fuel 25 cs = some y) :
    ∃ a b c d e f g, cs = [.int .i64 a, .int .i64 b, .int .i64 c, .int .i64 d, .int .i64 e, .int .i64 f, .int .i64 g] := by
  obtain ⟨xs, m, _, _, hlen, hx, hg⟩ := DataW.trod_struct Try.underlying25 hf
  rw [Try.cellsPol] at hlen
  match cs, hlen with
  | [c0, c1, c2, c3, c4, c5, c6], _ =>
    have h0 : DataW.trod enc Try.prog w 0 (fun _ => true) true m 3 (([c0, c1, c2, c3, c4, c5, c6] : List Value).take (Try.prog.cellsOf 3)) = xs[0]? := hg 0 _ rfl
    have h1 : DataW.trod enc Try.prog w 0 (fun _ => true) true m 3 (([c1, c2, c3, c4, c5, c6] : List Value).take (Try.prog.cellsOf 3)) = xs[1]? := hg 1 _ rfl
    have h2 : DataW.trod enc Try.prog w 0 (fun _ => true) true m 3 (([c2, c3, c4, c5, c6] : List Value).take (Try.prog.cellsOf 3)) = xs[2]? := hg 2 _ rfl
    have h3 : DataW.trod enc Try.prog w 0 (fun _ => true) true m 3 (([c3, c4, c5, c6] : List Value).take (Try.prog.cellsOf 3)) = xs[3]? := hg 3 _ rfl
    have h4 : DataW.trod enc Try.prog w 0 (fun _ => true) true m 3 (([c4, c5, c6] : List Value).take (Try.prog.cellsOf 3)) = xs[4]? := hg 4 _ rfl
    have h5 : DataW.trod enc Try.prog w 0 (fun _ => true) true m 3 (([c5, c6] : List Value).take (Try.prog.cellsOf 3)) = xs[5]? := hg 5 _ rfl
    have h6 : DataW.trod enc Try.prog w 0 (fun _ => true) true m 3 (([c6] : List Value).take (Try.prog.cellsOf 3)) = xs[6]? := hg 6 _ rfl
    rw [List.getElem?_eq_getElem (by rw [hx]; decide)] at h0 h1 h2 h3 h4 h5 h6
    rw [Try.cellsInt] at h0 h1 h2 h3 h4 h5 h6
    obtain ⟨a, rfl⟩ := one_int h0
    obtain ⟨b, rfl⟩ := one_int h1
    obtain ⟨c, rfl⟩ := one_int h2
    obtain ⟨d, rfl⟩ := one_int h3
    obtain ⟨e, rfl⟩ := one_int h4
    obtain ⟨f, rfl⟩ := one_int h5
    obtain ⟨g, rfl⟩ := one_int h6
    exact ⟨a, b, c, d, e, f, g, rfl⟩

/-- An event that came in: its dots. -/
def EvIn (w : World) (A : Option Addr) (n c : Nat) (M : List D.Dot) : Prop := M.length = n ∧ n ≤ c ∧ c ≤ maxLen ∧ Rds w (· < w.heap.size) A (dvs M)
set_option maxRecDepth 1000000 in
theorem open_ev {fuel : Nat} {cs : List Value} {y : DataW H × List MemPlace} (hf : DataW.trod enc Try.prog w 0 (fun _ => true) true fuel 28 cs = some y) :
    ∃ F A n c M, cs = (ecs F A n c).toList ∧ EvIn w A n c M := by
  obtain ⟨xs, m, _, _, hlen, hx, hg⟩ := DataW.trod_struct Try.underlying28 hf
  rw [Try.cellsEvent] at hlen
  match cs, hlen with
  | [c0, c1, c2, c3, c4, c5, c6, c7, c8, c9, c10, c11, c12, c13], _ =>
    have h0 : DataW.trod enc Try.prog w 0 (fun _ => true) true m 23 (([c0, c1, c2, c3, c4, c5, c6, c7, c8, c9, c10, c11, c12, c13] : List Value).take (Try.prog.cellsOf 23)) = xs[0]? := hg 0 _ rfl
    have h1 : DataW.trod enc Try.prog w 0 (fun _ => true) true m 3 (([c2, c3, c4, c5, c6, c7, c8, c9, c10, c11, c12, c13] : List Value).take (Try.prog.cellsOf 3)) = xs[1]? := hg 1 _ rfl
    have h2 : DataW.trod enc Try.prog w 0 (fun _ => true) true m 3 (([c3, c4, c5, c6, c7, c8, c9, c10, c11, c12, c13] : List Value).take (Try.prog.cellsOf 3)) = xs[2]? := hg 2 _ rfl
    have h3 : DataW.trod enc Try.prog w 0 (fun _ => true) true m 3 (([c4, c5, c6, c7, c8, c9, c10, c11, c12, c13] : List Value).take (Try.prog.cellsOf 3)) = xs[3]? := hg 3 _ rfl
    have h4 : DataW.trod enc Try.prog w 0 (fun _ => true) true m 3 (([c5, c6, c7, c8, c9, c10, c11, c12, c13] : List Value).take (Try.prog.cellsOf 3)) = xs[4]? := hg 4 _ rfl
    have h5 : DataW.trod enc Try.prog w 0 (fun _ => true) true m 25 (([c6, c7, c8, c9, c10, c11, c12, c13] : List Value).take (Try.prog.cellsOf 25)) = xs[5]? := hg 5 _ rfl
    have h6 : DataW.trod enc Try.prog w 0 (fun _ => true) true m 26 (([c13] : List Value).take (Try.prog.cellsOf 26)) = xs[6]? := hg 6 _ rfl
    rw [List.getElem?_eq_getElem (by rw [hx]; decide)] at h0 h1 h2 h3 h4 h5 h6
    rw [Try.cellsDot] at h0
    rw [Try.cellsInt] at h1 h2 h3 h4
    rw [Try.cellsPol] at h5
    rw [Try.cellsDots] at h6
    obtain ⟨n0, n1, e0⟩ := open_dot h0
    obtain ⟨n2, rfl⟩ := one_int h1
    obtain ⟨n3, rfl⟩ := one_int h2
    obtain ⟨n4, rfl⟩ := one_int h3
    obtain ⟨n5, rfl⟩ := one_int h4
    obtain ⟨n6, n7, n8, n9, n10, n11, n12, e5⟩ := open_pol h5
    obtain ⟨A, n, c, M, e6, hM⟩ := open_dots h6
    simp at e0 e5 e6
    obtain ⟨rfl, rfl⟩ := e0
    obtain ⟨rfl, rfl, rfl, rfl, rfl, rfl, rfl⟩ := e5
    subst e6
    exact ⟨fun j => [n0, n1, n2, n3, n4, n5, n6, n7, n8, n9, n10, n11, n12].getD j 0, A, n, c, M, rfl, hM⟩
set_option maxRecDepth 1000000 in
theorem arg_ev {v : Value} {d : DataW H} {p : List MemPlace} (ho : Value.okWide Try.prog w .any base 28 v) (hk : DataW.Trod enc Try.prog w 0 (fun _ => true) true 28 v d p) : ∃ F A n c M, v = ev F A n c ∧ EvIn w A n c M := by
  obtain ⟨cs, rfl, _⟩ := okWide_struct Try.underlying28 ho
  obtain ⟨fuel, hf⟩ := hk
  obtain ⟨F, A, n, c, M, e, h⟩ := open_ev hf
  refine ⟨F, A, n, c, M, ?_, h⟩
  have e' : cs.toList = (ecs F A n c).toList := by simpa [Value.cells] using e
  rw [show cs = ecs F A n c from Array.toList_inj.1 e']
end
end Go.Proofs.Ytlckappnpdkihaa
