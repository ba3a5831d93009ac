/- Layer 13: a step of a disk, as plain mathematics. -/
import Derived.Test.YtfllebfegngdhaaDkRef2
namespace Go.Proofs.Ytfllebfegngdhaa
set_option linter.unusedVariables false
set_option linter.unusedSimpArgs false
open Go.ChangeShapes Go.WideShapes Go.ChangeAt Go.RowKit Go.Deep

/-- What a step answers, and the disk behind it. -/
def Dk.stp (Z : Int) (L : List Int) (us : List Dk.U) (k N : Int) (xs : List Int) : Int × List Int × List Dk.U :=
  if k = 1 then (Dk.apE Z L us xs, L, Dk.apU Z L us xs)
  else if k = 2 then (Dk.swE Z xs, L, Dk.swU Z us xs)
  else if k = 3 then (0, Dk.aft L us, [])
  else if k = 4 then (0, Dk.aft L (us.take (Dk.cut N us.length)), [])
  else (0, L, us)
theorem Dk.apU_ok {Z : Int} {L : List Int} {us : List Dk.U} (h : Dk.Ok Z L us) (xs : List Int) : Dk.Ok Z L (Dk.apU Z L us xs) := by
  unfold Dk.apU
  split
  · exact h
  · exact h.bytes xs (by omega)
theorem Dk.swU_ok {Z : Int} {L : List Int} {us : List Dk.U} (h : Dk.Ok Z L us) (xs : List Int) : Dk.Ok Z L (Dk.swU Z us xs) := by
  unfold Dk.swU
  split
  · exact h
  · exact h.swap xs (by omega)
theorem Dk.stp_ok {Z : Int} {L : List Int} {us : List Dk.U} (h : Dk.Ok Z L us) (k N : Int) (xs : List Int) : Dk.Ok Z (Dk.stp Z L us k N xs).2.1 (Dk.stp Z L us k N xs).2.2 := by
  unfold Dk.stp
  repeat' split
  · exact Dk.apU_ok h xs
  · exact Dk.swU_ok h xs
  · have := h.crash us.length
    rwa [List.take_length] at this
  · exact h.crash _
  · exact h
theorem Dk.apU_len {Z : Int} {L : List Int} {us : List Dk.U} (h : Dk.Ok Z L us) (xs : List Int) : (Dk.apU Z L us xs).length ≤ us.length + 16384 := by
  have := h.hi
  unfold Dk.apU
  split
  · omega
  · simp; omega
theorem Dk.swU_len (Z : Int) (us : List Dk.U) (xs : List Int) : (Dk.swU Z us xs).length ≤ us.length + 16384 := by
  unfold Dk.swU
  split
  · omega
  · simp
theorem Dk.stp_len {Z : Int} {L : List Int} {us : List Dk.U} (h : Dk.Ok Z L us) (k N : Int) (xs : List Int) : (Dk.stp Z L us k N xs).2.2.length ≤ us.length + 16384 := by
  unfold Dk.stp
  repeat' split
  · exact Dk.apU_len h xs
  · exact Dk.swU_len Z us xs
  · simp
  · simp
  · simp

end Go.Proofs.Ytfllebfegngdhaa
