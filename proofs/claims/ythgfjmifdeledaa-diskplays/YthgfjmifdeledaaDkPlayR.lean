/- Layer 13: Room of a disk that lies apart. -/
import Derived.Test.YthgfjmifdeledaaDkPlay
import Derived.Test.YthgfjmifdeledaaDkP
import Derived.Test.YthgfjmifdeledaaDkLaw
namespace Go.Proofs.Ythgfjmifdeledaa
set_option linter.unusedVariables false
set_option linter.unusedSimpArgs false
open Go.ChangeShapes Go.WideShapes Go.ChangeAt Go.RowKit Go.Deep

theorem DPM.room {w0 W : World} {Bo Vs g gm : Nat} {Z : Int} {L : List Int} {us : List Dk.U} (h : DPM w0 W Bo Vs g gm Z L us L us) (hO : Dk.Ok Z L us) (hl : us.length ≤ 900000000) : Calls Try.prog 17 #[.pointer (some ⟨g, 0, none⟩)] W fun e w' => e = .returned (.int .i64 (Z - (Dk.aft L us).length)) ∧ Below W.heap.size W w' := by
  obtain ⟨fp, fq, h1, h2, h3, h4, h5⟩ := h
  exact proom_any h1 hO hl
end Go.Proofs.Ythgfjmifdeledaa
