/- A policy in a box. -/
import Derived.Test.YtdppabnhflaoeaaPolV
namespace Go.Proofs.Ytdppabnhflaoeaa
set_option linter.unusedVariables false
set_option linter.unusedSimpArgs false
open Go.ChangeShapes Go.WideShapes Go.ChangeAt Go.RowKit

abbrev pcs (F : Nat → Int) : Array Value := #[.int .i64 (F 6), .int .i64 (F 7), .int .i64 (F 8), .int .i64 (F 9), .int .i64 (F 10), .int .i64 (F 11), .int .i64 (F 12)]
theorem Try.sizePol : (Try.prog.info? 23).map (·.size) = some 7 := by kernel_rfl
theorem pcs_one (F : Nat → Int) : ∀ v ∈ (pcs F).toList, v.oneCell' = true := by
  intro v hv
  simp at hv
  rcases hv with rfl | rfl | rfl | rfl | rfl | rfl | rfl <;> rfl
theorem pol_box {w : World} {g : Nat} (F : Nat → Int) (h : Blo w g 23 (pcs F)) : w.cell? ⟨g, 0, none⟩ = some (.int .i64 (F 6)) ∧ w.cell? ⟨g, 1, none⟩ = some (.int .i64 (F 7)) ∧ w.cell? ⟨g, 2, none⟩ = some (.int .i64 (F 8)) ∧ w.cell? ⟨g, 3, none⟩ = some (.int .i64 (F 9)) ∧ w.cell? ⟨g, 4, none⟩ = some (.int .i64 (F 10)) ∧ w.cell? ⟨g, 5, none⟩ = some (.int .i64 (F 11)) ∧ w.cell? ⟨g, 6, none⟩ = some (.int .i64 (F 12)) :=
  ⟨by simpa using h.cell 0, by simpa using h.cell 1, by simpa using h.cell 2, by simpa using h.cell 3, by simpa using h.cell 4, by simpa using h.cell 5, by simpa using h.cell 6⟩

end Go.Proofs.Ytdppabnhflaoeaa
