/- Parts of rows of ints. -/
import Derived.Test.YtdgmbopdommnhaaMem
namespace Go.Proofs.Ytdgmbopdommnhaa
set_option linter.unusedVariables false
set_option linter.unusedSimpArgs false
open Go.ChangeShapes Go.WideShapes Go.ChangeAt Go.RowKit

theorem Try.rowIntK : (Try.prog.info? 3).map (fun i => (i.zero, i.size, i.bytes)) = some (some (.int .i64 0), 1, 8) := by kernel_rfl
theorem Try.sizeIntK : (Try.prog.info? 3).map (·.size) = some 1 := by kernel_rfl
theorem run_ito (A : Option Addr) (n c p : Nat) (h1 : p ≤ c) (W : World) :
    (Instr.slice 22 (.slice A n c) none (some (.int .i64 (p : Int))) none).run Try.prog W = .ok (.slice A p c) W := by
  have hel : Try.prog.elem 22 = 3 := by simp [Program.elem, Try.underlying22]
  have hz : (sizeOf 3).run Try.prog W = .ok 1 W := by
    cases hi : Try.prog.info? 3 with
    | none => have := Try.sizeIntK; rw [hi] at this; cases this
    | some i => have := Try.sizeIntK; rw [hi] at this; simp at this; simp [sizeOf, typeInfo, hi, this]
  rw [run_slice_h W 22 A n c (by rw [hel]; exact Try.underlying22) .i64 _ (by omega) (by omega), hel, hz]
  simp [sliced]
  intro _
  cases A <;> simp [Addr.add]
theorem run_ifrom (A : Option Addr) (n c p : Nat) (h1 : p ≤ n) (W : World) :
    (Instr.slice 22 (.slice A n c) (some (.int .i64 (p : Int))) none none).run Try.prog W = .ok (.slice (if c = p then A else A.map (·.add p)) (n - p) (c - p)) W :=
  run_from 22 3 Try.underlying22 Try.sizeIntK A n c p h1 W
theorem run_atI {x v : Value} {lo hi mx : Option Value} {W : World} (h : (Instr.slice 22 x lo hi mx).run Try.prog W = .ok v W) : (Instr.sliceAt 22 x lo hi mx).run Try.prog W = .ok v W := by
  unfold Instr.sliceAt
  rw [Sem.run_bind, run_underlying Try.underlying22]
  simpa using h
end Go.Proofs.Ytdgmbopdommnhaa
