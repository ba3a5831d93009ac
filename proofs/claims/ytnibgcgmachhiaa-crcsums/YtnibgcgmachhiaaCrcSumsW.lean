/- The walk of CrcSums. -/
import Derived.Test.YtnibgcgmachhiaaCrcArgs
namespace Go.Proofs.Ytnibgcgmachhiaa
open Go.ChangeShapes Go.WideShapes Go.ChangeAt Go.RowKit

set_option maxHeartbeats 400000 in
theorem crcSums_big (a : Option Addr) (len cap : Nat) (s : Int) (w : World) (hl : 5000 < len) (hm : len ≤ maxLen) :
    Calls Try.prog 3 #[.slice a len cap, .int .u32 s] w fun e w' => e = .returned (.bool true) ∧ Below w.heap.size w w' := by
  unfold maxLen at hm
  go_enter Try.func3, Try.ntmps3
  go_wp2_with fail
  refine (crc_alive w).mono ?_
  rintro e w1 ⟨rfl, hb⟩
  go_wp2
  go_ret
  exact ⟨rfl, hb⟩

set_option maxHeartbeats 400000 in
theorem crcSums_yes (a : Option Addr) (cap : Nat) (l : List Nat) (s : Nat) (w : World) (hl : l.length ≤ 5000) (hr : Rds w (· < w.heap.size) a (nby l)) (hb : Small l) (hs : s < 4294967296) :
    Calls Try.prog 3 #[.slice a l.length cap, .int .u32 (s : Int)] w fun e w' => e = .returned (.bool true) ∧ Below w.heap.size w w' := by
  go_enter Try.func3, Try.ntmps3
  go_wp2_with fail
  refine (crc_alive w).mono ?_
  rintro e w1 ⟨rfl, hB⟩
  have hr1 := hr.new hB
  go_wp2_with fail
  refine (sum_any _ a cap l w1 hr1 (by omega) hb).mono ?_
  rintro e w2 ⟨rfl, rfl⟩
  go_wp2_with fail
  refine (rsum_any _ a cap l w1 hr1 (by omega) hb).mono ?_
  rintro e w2 ⟨rfl, rfl⟩
  go_wp2_with fail
  refine (more_any _ a cap l s hs w1 hr1 (by omega) hb).mono ?_
  rintro e w2 ⟨rfl, rfl⟩
  go_wp2_with fail
  refine (rmore_any _ a cap l s hs w1 hr1 (by omega) hb).mono ?_
  rintro e w2 ⟨rfl, rfl⟩
  go_wp2
  go_ret
  exact ⟨rfl, hB⟩

theorem crcSums_walk (a : Option Addr) (len cap : Nat) (zs : List Int) (s : Int) (w : World) (h : RowIn .u8 w a len cap zs) (hs : (Lit.int .u32 s).wf = true) :
    Calls Try.prog 3 #[.slice a len cap, .int .u32 s] w fun e w' => e = .returned (.bool true) ∧ Below w.heap.size w w' := by
  by_cases hl : 5000 < len
  · exact crcSums_big a len cap s w hl h.max
  · obtain ⟨l, rfl, hr, hb⟩ := h.nat
    have e1 : IntKind.u32.min = 0 := by decide
    have e2 : IntKind.u32.max = 4294967295 := by decide
    simp [Lit.wf, e1, e2] at hs
    obtain ⟨n, rfl⟩ := Int.eq_ofNat_of_zero_le hs.1
    exact crcSums_yes a cap l n w (by omega) hr hb (by omega)
end Go.Proofs.Ytnibgcgmachhiaa
