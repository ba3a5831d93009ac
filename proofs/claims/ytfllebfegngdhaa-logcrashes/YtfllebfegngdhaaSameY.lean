/- The document's own Same (murmurref02): its contract. -/
import Derived.Test.YtfllebfegngdhaaMem
import Derived.BigQuiet
namespace Go.Proofs.Ytfllebfegngdhaa
open Go.ChangeShapes Go.WideShapes Go.ChangeAt Go.RowKit

set_option maxHeartbeats 400000 in
/-- Two slices that read as the same bytes are the same. -/
theorem same_yes (S T : Nat → Prop) (A B : Option Addr) (c d : Nat) (l : List Int) (w : World) (hA : Rds w S A (u8s l)) (hB : Rds w T B (u8s l)) (hl : l.length ≤ 1000000) :
    Calls Try.prog 26 #[.slice A l.length c, .slice B l.length d] w fun e w' => e = .returned (.bool true) ∧ Drew w w' := by
  go_enter Try.func26, Try.ntmps26
  go_wp2
  go_loopw [13] (fun iv wr => ∃ i : Nat, iv = .int .i64 i ∧ i ≤ l.length ∧ Drew w wr) (fun iv _ => l.length - (intOf iv).toNat)
  case atStart => exact ⟨0, rfl, Nat.zero_le _, Drew.refl w⟩
  case round =>
    obtain ⟨i, rfl, hi, hd⟩ := hrel
    by_cases hlt : i < l.length
    · obtain ⟨a, rfl, _, ha⟩ := (hd.rds hA).int hlt
      obtain ⟨b, rfl, _, hb⟩ := (hd.rds hB).int hlt
      go_wp2
      go_quiet (fail)
      go_wp2
      go_roundw
      case rel => exact ⟨i + 1, by go_num, by omega, hd.more _⟩
      case measure => simp [intOf]; omega
    · go_wp2
      go_ret
      exact ⟨rfl, hd⟩

end Go.Proofs.Ytfllebfegngdhaa
