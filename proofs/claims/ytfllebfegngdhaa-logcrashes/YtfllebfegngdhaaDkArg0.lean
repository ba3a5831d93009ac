/- Rows that came in, with what they weigh: what serves every layer. -/
import Derived.Test.YtfllebfegngdhaaMem
import Derived.SizedLaws
import Derived.Lib.SmallJoins
namespace Go.Proofs.Ytfllebfegngdhaa
set_option linter.unusedVariables false
set_option linter.unusedSimpArgs false
open Go.ChangeShapes Go.WideShapes Go.ChangeAt Go.RowKit Go.Deep

theorem Try.bytesU8K : Try.prog.bytesOf 5 = 1 := by kernel_rfl
theorem Try.cellsU8K : Try.prog.cellsOf 5 = 1 := by kernel_rfl
theorem Try.cellsBytesK : Try.prog.cellsOf 32 = 1 := by kernel_rfl
theorem reach_leK : reachBytes ≤ 140737488355328 := by decide
theorem weights_allK {H : Type} {P : Program} {e : TypeId} : ∀ {l : List (DataW H)} {d : DataW H}, d ∈ l → ∀ n ∈ d.weights P e, n ∈ DataW.weightsAll P e l
  | x :: l, d, hd, n, hn => by
    simp only [DataW.weightsAll, List.mem_append]
    rcases List.mem_cons.1 hd with rfl | hd
    · exact .inl hn
    · exact .inr (weights_allK hd n hn)
end Go.Proofs.Ytfllebfegngdhaa
