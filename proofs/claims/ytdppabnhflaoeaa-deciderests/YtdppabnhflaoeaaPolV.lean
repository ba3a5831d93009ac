/- Policies as values: seven numbers. -/
import Derived.Test.YtdppabnhflaoeaaMem
import Derived.Test.YtdppabnhflaoeaaEvMath
namespace Go.Proofs.Ytdppabnhflaoeaa
set_option linter.unusedVariables false
set_option linter.unusedSimpArgs false
open Go.ChangeShapes Go.WideShapes Go.ChangeAt Go.RowKit

abbrev pv (F : Nat → Int) : Value := .agg #[.int .i64 (F 6), .int .i64 (F 7), .int .i64 (F 8), .int .i64 (F 9), .int .i64 (F 10), .int .i64 (F 11), .int .i64 (F 12)]
theorem Try.cellsPol : Try.prog.cellsOf 23 = 7 := by kernel_rfl
section
variable {H : Type} {enc : TypeId × Value → H} {w : World} {base : Nat}
set_option maxRecDepth 1000000 in
theorem open_pol {fuel : Nat} {cs : List Value} {y : DataW H × List MemPlace} (hf : DataW.trod enc Try.prog w 0 (fun _ => true) true fuel 23 cs = some y) :
    ∃ a b c d e f g, cs = [.int .i64 a, .int .i64 b, .int .i64 c, .int .i64 d, .int .i64 e, .int .i64 f, .int .i64 g] := by
  obtain ⟨xs, m, _, _, hlen, hx, hg⟩ := DataW.trod_struct Try.underlying23 hf
  rw [Try.cellsPol] at hlen
  match cs, hlen with
  | [c0, c1, c2, c3, c4, c5, c6], _ =>
    have h0 : DataW.trod enc Try.prog w 0 (fun _ => true) true m 3 (([c0, c1, c2, c3, c4, c5, c6] : List Value).take (Try.prog.cellsOf 3)) = xs[0]? := hg 0 _ rfl
    have h1 : DataW.trod enc Try.prog w 0 (fun _ => true) true m 3 (([c1, c2, c3, c4, c5, c6] : List Value).take (Try.prog.cellsOf 3)) = xs[1]? := hg 1 _ rfl
    have h2 : DataW.trod enc Try.prog w 0 (fun _ => true) true m 3 (([c2, c3, c4, c5, c6] : List Value).take (Try.prog.cellsOf 3)) = xs[2]? := hg 2 _ rfl
    have h3 : DataW.trod enc Try.prog w 0 (fun _ => true) true m 3 (([c3, c4, c5, c6] : List Value).take (Try.prog.cellsOf 3)) = xs[3]? := hg 3 _ rfl
    have h4 : DataW.trod enc Try.prog w 0 (fun _ => true) true m 3 (([c4, c5, c6] : List Value).take (Try.prog.cellsOf 3)) = xs[4]? := hg 4 _ rfl
    have h5 : DataW.trod enc Try.prog w 0 (fun _ => true) true m 3 (([c5, c6] : List Value).take (Try.prog.cellsOf 3)) = xs[5]? := hg 5 _ rfl
    have h6 : DataW.trod enc Try.prog w 0 (fun _ => true) true m 3 (([c6] : List Value).take (Try.prog.cellsOf 3)) = xs[6]? := hg 6 _ rfl
    rw [List.getElem?_eq_getElem (by rw [hx]; decide)] at h0 h1 h2 h3 h4 h5 h6
    rw [Try.cellsInt] at h0 h1 h2 h3 h4 h5 h6
    obtain ⟨a, rfl⟩ := one_int h0
    obtain ⟨b, rfl⟩ := one_int h1
    obtain ⟨c, rfl⟩ := one_int h2
    obtain ⟨d, rfl⟩ := one_int h3
    obtain ⟨e, rfl⟩ := one_int h4
    obtain ⟨f, rfl⟩ := one_int h5
    obtain ⟨g, rfl⟩ := one_int h6
    exact ⟨a, b, c, d, e, f, g, rfl⟩
end
end Go.Proofs.Ytdppabnhflaoeaa
