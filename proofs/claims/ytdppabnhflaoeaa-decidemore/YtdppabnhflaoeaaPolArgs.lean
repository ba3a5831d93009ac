/- Layer 9: a policy as a law's argument. -/
import Derived.Test.YtdppabnhflaoeaaPolV
namespace Go.Proofs.Ytdppabnhflaoeaa
set_option linter.unusedVariables false
set_option linter.unusedSimpArgs false
open Go.ChangeShapes Go.WideShapes Go.ChangeAt Go.RowKit

section
variable {H : Type} {enc : TypeId × Value → H} {w : World} {base : Nat}
set_option maxRecDepth 1000000 in
theorem arg_pol {v : Value} {d : DataW H} {p : List MemPlace} (ho : Value.okWide Try.prog w .any base 23 v) (hk : DataW.Trod enc Try.prog w 0 (fun _ => true) true 23 v d p) : ∃ F, v = pv F := by
  obtain ⟨cs, rfl, _⟩ := okWide_struct Try.underlying23 ho
  obtain ⟨fuel, hf⟩ := hk
  obtain ⟨a, b, c, d, e, f, g, e'⟩ := open_pol hf
  refine ⟨fun j => [0, 0, 0, 0, 0, 0, a, b, c, d, e, f, g].getD j 0, ?_⟩
  have e'' : cs.toList = [.int .i64 a, .int .i64 b, .int .i64 c, .int .i64 d, .int .i64 e, .int .i64 f, .int .i64 g] := by simpa [Value.cells] using e'
  have : cs = #[.int .i64 a, .int .i64 b, .int .i64 c, .int .i64 d, .int .i64 e, .int .i64 f, .int .i64 g] := Array.toList_inj.1 e''
  rw [this]
  rfl
end
end Go.Proofs.Ytdppabnhflaoeaa
