/- Three sets and a dot as a law's argument. -/
import Derived.Test.YtegppdobpihbnaaDotArgs
namespace Go.Proofs.Ytegppdobpihbnaa
set_option linter.unusedVariables false
set_option linter.unusedSimpArgs false
open Go.ChangeShapes Go.WideShapes Go.ChangeAt Go.RowKit Go.Deep

theorem Try.cellsThree : Try.prog.cellsOf 65 = 29 := by kernel_rfl
/-- The cells of three sets and a dot. -/
abbrev scs3d (U : Nat → Int) (A : Option Addr) (n c : Nat) (U' : Nat → Int) (A' : Option Addr) (n' c' : Nat) (U'' : Nat → Int) (A'' : Option Addr) (n'' c'' : Nat) (a b : Int) : Array Value := #[.int .i64 (U 0), .int .i64 (U 1), .int .i64 (U 2), .int .i64 (U 3), .int .i64 (U 4), .int .i64 (U 5), .int .i64 (U 6), .int .i64 (U 7), .slice A n c,
  .int .i64 (U' 0), .int .i64 (U' 1), .int .i64 (U' 2), .int .i64 (U' 3), .int .i64 (U' 4), .int .i64 (U' 5), .int .i64 (U' 6), .int .i64 (U' 7), .slice A' n' c',
  .int .i64 (U'' 0), .int .i64 (U'' 1), .int .i64 (U'' 2), .int .i64 (U'' 3), .int .i64 (U'' 4), .int .i64 (U'' 5), .int .i64 (U'' 6), .int .i64 (U'' 7), .slice A'' n'' c'',
  .int .i64 a, .int .i64 b]
section
variable {H : Type} {enc : TypeId × Value → H} {w : World} {base : Nat}
set_option maxRecDepth 1000000 in
set_option maxHeartbeats 1000000 in
theorem open_three {fuel : Nat} {cs : List Value} {y : DataW H × List MemPlace} (hf : DataW.trod enc Try.prog w 0 (fun _ => true) true fuel 65 cs = some y) :
    ∃ U A n c M U' A' n' c' M' U'' A'' n'' c'' M'' a b, cs = (scs3d U A n c U' A' n' c' U'' A'' n'' c'' a b).toList ∧ SetIn w U A n c M ∧ SetIn w U' A' n' c' M' ∧ SetIn w U'' A'' n'' c'' M'' := by
  obtain ⟨xs, m, _, _, hlen, hx, hg⟩ := DataW.trod_struct Try.underlying65 hf
  rw [Try.cellsThree] at hlen
  match cs, hlen with
  | [c0, c1, c2, c3, c4, c5, c6, c7, c8, c9, c10, c11, c12, c13, c14, c15, c16, c17, c18, c19, c20, c21, c22, c23, c24, c25, c26, c27, c28], _ =>
    have h0 : DataW.trod enc Try.prog w 0 (fun _ => true) true m 25 (([c0, c1, c2, c3, c4, c5, c6, c7, c8, c9, c10, c11, c12, c13, c14, c15, c16, c17, c18, c19, c20, c21, c22, c23, c24, c25, c26, c27, c28] : List Value).take (Try.prog.cellsOf 25)) = xs[0]? := hg 0 _ rfl
    have h1 : DataW.trod enc Try.prog w 0 (fun _ => true) true m 25 (([c9, c10, c11, c12, c13, c14, c15, c16, c17, c18, c19, c20, c21, c22, c23, c24, c25, c26, c27, c28] : List Value).take (Try.prog.cellsOf 25)) = xs[1]? := hg 1 _ rfl
    have h2 : DataW.trod enc Try.prog w 0 (fun _ => true) true m 25 (([c18, c19, c20, c21, c22, c23, c24, c25, c26, c27, c28] : List Value).take (Try.prog.cellsOf 25)) = xs[2]? := hg 2 _ rfl
    have h3 : DataW.trod enc Try.prog w 0 (fun _ => true) true m 27 (([c27, c28] : List Value).take (Try.prog.cellsOf 27)) = xs[3]? := hg 3 _ rfl
    rw [List.getElem?_eq_getElem (by rw [hx]; decide)] at h0 h1 h2 h3
    rw [Try.cellsLaw] at h0 h1 h2
    rw [Try.cellsDot] at h3
    obtain ⟨U, A, n, c, M, e0, hS0⟩ := open_set h0
    obtain ⟨U', A', n', c', M', e1, hS1⟩ := open_set h1
    obtain ⟨U'', A'', n'', c'', M'', e2, hS2⟩ := open_set h2
    obtain ⟨a, b, e3⟩ := open_dot h3
    simp at e0 e1 e2 e3
    obtain ⟨rfl, rfl, rfl, rfl, rfl, rfl, rfl, rfl, rfl⟩ := e0
    obtain ⟨rfl, rfl, rfl, rfl, rfl, rfl, rfl, rfl, rfl⟩ := e1
    obtain ⟨rfl, rfl, rfl, rfl, rfl, rfl, rfl, rfl, rfl⟩ := e2
    obtain ⟨rfl, rfl⟩ := e3
    exact ⟨U, A, n, c, M, U', A', n', c', M', U'', A'', n'', c'', M'', a, b, rfl, hS0, hS1, hS2⟩
set_option maxRecDepth 1000000 in
theorem arg_three {v : Value} {d : DataW H} {p : List MemPlace} (ho : Value.okWide Try.prog w .any base 65 v) (hk : DataW.Trod enc Try.prog w 0 (fun _ => true) true 65 v d p) :
    ∃ U A n c M U' A' n' c' M' U'' A'' n'' c'' M'' a b, v = .agg (scs3d U A n c U' A' n' c' U'' A'' n'' c'' a b) ∧ SetIn w U A n c M ∧ SetIn w U' A' n' c' M' ∧ SetIn w U'' A'' n'' c'' M'' := by
  obtain ⟨cs, rfl, _⟩ := okWide_struct Try.underlying65 ho
  obtain ⟨fuel, hf⟩ := hk
  obtain ⟨U, A, n, c, M, U', A', n', c', M', U'', A'', n'', c'', M'', a, b, e, h⟩ := open_three hf
  refine ⟨U, A, n, c, M, U', A', n', c', M', U'', A'', n'', c'', M'', a, b, ?_, h⟩
  have e' : cs.toList = (scs3d U A n c U' A' n' c' U'' A'' n'' c'' a b).toList := by simpa [Value.cells] using e
  rw [show cs = scs3d U A n c U' A' n' c' U'' A'' n'' c'' a b from Array.toList_inj.1 e']
end
end Go.Proofs.Ytegppdobpihbnaa
