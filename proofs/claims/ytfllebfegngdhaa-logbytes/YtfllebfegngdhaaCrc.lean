/- Contracts of layer 3 (crc) and of the document's own. -/
import Derived.Test.YtfllebfegngdhaaNby
import Derived.Test.YtfllebfegngdhaaCrcMath
import Derived.Laws.BitsAll
import Derived.Lib.SlBytesConst
namespace Go.Proofs.Ytfllebfegngdhaa
open Go.ChangeShapes Go.WideShapes Go.ChangeAt Go.RowKit

theorem C.step_odd {r : Nat} (h : r % 2 = 1) : C.t1 r = (r / 2) ^^^ 3988292384 := by unfold C.t1; rw [if_pos h]
theorem C.step_even {r : Nat} (h : r % 2 = 0) : C.t1 r = r / 2 := by unfold C.t1; rw [if_neg (by omega)]
theorem C.t_odd {r r' : Nat} {i : Nat} (hi : i < 8) (H : C.tn 8 r = C.tn (8 - i) r') (h : r' % 2 = 1) : C.tn 8 r = C.tn (8 - (i + 1)) ((r' / 2) ^^^ 3988292384) := by
  rw [H, show 8 - i = (8 - (i + 1)) + 1 by omega, ← C.step_odd h]; rfl
theorem C.t_even {r r' : Nat} {i : Nat} (hi : i < 8) (H : C.tn 8 r = C.tn (8 - i) r') (h : r' % 2 = 0) : C.tn 8 r = C.tn (8 - (i + 1)) (r' / 2) := by
  rw [H, show 8 - i = (8 - (i + 1)) + 1 by omega, ← C.step_even h]; rfl

set_option maxHeartbeats 400000 in
theorem turn_any (r : Nat) (hr : r < 4294967296) (w : World) : Calls Try.prog 70 #[.int .u32 (r : Int)] w fun e w' => e = .returned (.int .u32 (C.tn 8 r : Nat)) ∧ w = w' := by
  go_enter Try.func70, Try.ntmps70
  go_wp2
  go_loop [4, 0] (fun iv rv => ∃ i r' : Nat, iv = .int .i64 i ∧ rv = .int .u32 (r' : Int) ∧ i ≤ 8 ∧ r' < 4294967296 ∧ Hid (C.tn 8 r = C.tn (8 - i) r')) (fun iv _ => 8 - (intOf iv).toNat)
  case atStart => exact ⟨0, r, rfl, rfl, by omega, hr, rfl⟩
  case round =>
    obtain ⟨i, r', rfl, rfl, hi, hr', H⟩ := hrel
    by_cases hlt : i < 8
    · have h1 : bits .and .u32 (r' : Int) 1 = ((r' % 2 : Nat) : Int) := by rw [show (1 : Int) = ((1 : Nat) : Int) from rfl, u32_and_nat r' 1 hr' (by omega), Nat.and_one_is_mod]
      have h2 : bits .xor .u32 ((r' : Int) / 2) 3988292384 = (((r' / 2) ^^^ 3988292384 : Nat) : Int) := u32_xor_nat (r' / 2) 3988292384 (by omega) (by omega)
      by_cases hodd : r' % 2 = 1
      · have R := Lib.hid (C.t_odd hlt H.out hodd)
        go_wp2
        go_round
        case rel => exact ⟨i + 1, (r' / 2) ^^^ 3988292384, by go_num, rfl, by omega, C.xor_lt (by omega) (by omega), R⟩
        case measure => simp [intOf]; omega
      · have R := Lib.hid (C.t_even hlt H.out (by omega))
        go_wp2
        go_round
        case rel => exact ⟨i + 1, r' / 2, by go_num, by go_num, by omega, by omega, R⟩
        case measure => simp [intOf]; omega
    · obtain rfl : i = 8 := by omega
      go_wp2
      go_ret
      exact ⟨ret_int (by rw [H.out]; rfl), rfl⟩

set_option maxHeartbeats 400000 in
theorem rturn_any (r c : Nat) (hr : r < 4294967296) (hc : c < 256) (w : World) : Calls Try.prog 65 #[.int .u32 (r : Int), .int .u8 (c : Int)] w fun e w' => e = .returned (.int .u32 (C.up r c : Nat)) ∧ w = w' := by
  have h0 : bits .xor .u32 (r : Int) (c : Int) = ((r ^^^ c : Nat) : Int) := u32_xor_nat r c hr (by omega)
  have hx : r ^^^ c < 4294967296 := C.xor_lt hr (by omega)
  go_enter Try.func65, Try.ntmps65
  go_wp2
  go_loop [5, 0] (fun iv rv => ∃ i r' : Nat, iv = .int .i64 i ∧ rv = .int .u32 (r' : Int) ∧ i ≤ 8 ∧ r' < 4294967296 ∧ Hid (C.tn 8 (r ^^^ c) = C.tn (8 - i) r')) (fun iv _ => 8 - (intOf iv).toNat)
  case atStart => exact ⟨0, r ^^^ c, rfl, rfl, by omega, hx, rfl⟩
  case round =>
    obtain ⟨i, r', rfl, rfl, hi, hr', H⟩ := hrel
    by_cases hlt : i < 8
    · have h2 : bits .xor .u32 ((r' : Int) / 2) 3988292384 = (((r' / 2) ^^^ 3988292384 : Nat) : Int) := u32_xor_nat (r' / 2) 3988292384 (by omega) (by omega)
      by_cases hodd : r' % 2 = 1
      · have R := Lib.hid (C.t_odd hlt H.out hodd)
        go_wp2
        go_round
        case rel => exact ⟨i + 1, (r' / 2) ^^^ 3988292384, by go_num, rfl, by omega, C.xor_lt (by omega) (by omega), R⟩
        case measure => simp [intOf]; omega
      · have R := Lib.hid (C.t_even hlt H.out (by omega))
        go_wp2
        go_round
        case rel => exact ⟨i + 1, r' / 2, by go_num, by go_num, by omega, by omega, R⟩
        case measure => simp [intOf]; omega
    · obtain rfl : i = 8 := by omega
      go_wp2
      go_ret
      exact ⟨ret_int (by unfold C.up; rw [H.out]; rfl), rfl⟩

theorem C.run_more {l : List Nat} {i s r : Nat} (hi : i < l.length) (H : C.run s l = C.run r (l.drop i)) : C.run s l = C.run (C.up r l[i]) (l.drop (i + 1)) := by
  rw [H, List.drop_eq_getElem_cons hi]; rfl
theorem C.run_end {l : List Nat} {i s r : Nat} (hi : ¬ i < l.length) (H : C.run s l = C.run r (l.drop i)) : C.run s l = r := by
  rw [H, List.drop_eq_nil_of_le (by omega)]; rfl
theorem umax : IntKind.u32.max = ((4294967295 : Nat) : Int) := by decide

set_option maxHeartbeats 400000 in
theorem more_any (S : Nat → Prop) (A : Option Addr) (cap : Nat) (l : List Nat) (s : Nat) (hs : s < 4294967296) (w : World) (hr : Rds w S A (nby l)) (hl : l.length ≤ 1000000) (hb : Small l) :
    Calls Try.prog 66 #[.int .u32 (s : Int), .slice A l.length cap] w fun e w' => e = .returned (.int .u32 (C.more s l : Nat)) ∧ w = w' := by
  have h0 : bits .xor .u32 IntKind.u32.max (s : Int) = ((s ^^^ 4294967295 : Nat) : Int) := by rw [umax, u32_xor_nat _ s (by omega) hs, Nat.xor_comm]
  have hx : s ^^^ 4294967295 < 4294967296 := C.xor_lt hs (by omega)
  go_enter Try.func66, Try.ntmps66
  go_wp2
  go_loop [12, 5] (fun iv rv => ∃ i r : Nat, iv = .int .i64 i ∧ rv = .int .u32 (r : Int) ∧ i ≤ l.length ∧ r < 4294967296 ∧ Hid (C.run (s ^^^ 4294967295) l = C.run r (l.drop i))) (fun iv _ => l.length - (intOf iv).toNat)
  case atStart => exact ⟨0, s ^^^ 4294967295, rfl, rfl, by omega, hx, rfl⟩
  case round =>
    obtain ⟨i, r, rfl, rfl, hi, hr', H⟩ := hrel
    by_cases hlt : i < l.length
    · obtain ⟨ad, rfl, _, hc⟩ := hr.byte hlt
      have hc8 := hb.at hlt
      have h1 : bits .xor .u32 (r : Int) ((l[i] : Nat) : Int) = ((r ^^^ l[i] : Nat) : Int) := u32_xor_nat r _ hr' (by omega)
      have hx1 : r ^^^ l[i] < 4294967296 := C.xor_lt hr' (by omega)
      have R := Lib.hid (C.run_more hlt H.out)
      have hu := C.up_lt hr' hc8
      go_wp2_with fail
      refine (turn_any _ hx1 w).mono ?_
      rintro e w1 ⟨rfl, rfl⟩
      go_wp2
      go_round
      case rel => exact ⟨i + 1, C.up r l[i], by go_num, rfl, by omega, hu, R⟩
      case measure => simp [intOf]; omega
    · have R := Lib.hid (C.run_end hlt H.out)
      have h1 : bits .xor .u32 IntKind.u32.max (r : Int) = ((r ^^^ 4294967295 : Nat) : Int) := by rw [umax, u32_xor_nat _ r (by omega) hr', Nat.xor_comm]
      go_wp2
      go_ret
      exact ⟨ret_int (by unfold C.more; rw [R.out]), rfl⟩

set_option maxHeartbeats 400000 in
theorem rmore_any (S : Nat → Prop) (A : Option Addr) (cap : Nat) (l : List Nat) (s : Nat) (hs : s < 4294967296) (w : World) (hr : Rds w S A (nby l)) (hl : l.length ≤ 1000000) (hb : Small l) :
    Calls Try.prog 59 #[.int .u32 (s : Int), .slice A l.length cap] w fun e w' => e = .returned (.int .u32 (C.more s l : Nat)) ∧ w = w' := by
  have h0 : bits .xor .u32 (s : Int) 4294967295 = ((s ^^^ 4294967295 : Nat) : Int) := u32_xor_nat s 4294967295 hs (by omega)
  have hx : s ^^^ 4294967295 < 4294967296 := C.xor_lt hs (by omega)
  go_enter Try.func59, Try.ntmps59
  go_wp2
  go_loop [12, 5] (fun iv rv => ∃ i r : Nat, iv = .int .i64 i ∧ rv = .int .u32 (r : Int) ∧ i ≤ l.length ∧ r < 4294967296 ∧ Hid (C.run (s ^^^ 4294967295) l = C.run r (l.drop i))) (fun iv _ => l.length - (intOf iv).toNat)
  case atStart => exact ⟨0, s ^^^ 4294967295, rfl, rfl, by omega, hx, rfl⟩
  case round =>
    obtain ⟨i, r, rfl, rfl, hi, hr', H⟩ := hrel
    by_cases hlt : i < l.length
    · obtain ⟨ad, rfl, _, hc⟩ := hr.byte hlt
      have hc8 := hb.at hlt
      have R := Lib.hid (C.run_more hlt H.out)
      have hu := C.up_lt hr' hc8
      go_wp2_with fail
      refine (rturn_any _ _ hr' hc8 w).mono ?_
      rintro e w1 ⟨rfl, rfl⟩
      go_wp2
      go_round
      case rel => exact ⟨i + 1, C.up r l[i], by go_num, rfl, by omega, hu, R⟩
      case measure => simp [intOf]; omega
    · have R := Lib.hid (C.run_end hlt H.out)
      have h1 : bits .xor .u32 (r : Int) 4294967295 = ((r ^^^ 4294967295 : Nat) : Int) := u32_xor_nat r 4294967295 hr' (by omega)
      go_wp2
      go_ret
      exact ⟨ret_int (by unfold C.more; rw [R.out]), rfl⟩

set_option maxHeartbeats 400000 in
theorem sum_any (S : Nat → Prop) (A : Option Addr) (cap : Nat) (l : List Nat) (w : World) (hr : Rds w S A (nby l)) (hl : l.length ≤ 1000000) (hb : Small l) :
    Calls Try.prog 61 #[.slice A l.length cap] w fun e w' => e = .returned (.int .u32 (C.more 0 l : Nat)) ∧ w = w' := by
  go_enter Try.func61, Try.ntmps61
  go_wp2_with fail
  refine (more_any S A cap l 0 (by omega) w hr hl hb).mono ?_
  rintro e w1 ⟨rfl, rfl⟩
  go_wp2
  go_ret
  exact ⟨rfl, rfl⟩

set_option maxHeartbeats 400000 in
theorem rsum_any (S : Nat → Prop) (A : Option Addr) (cap : Nat) (l : List Nat) (w : World) (hr : Rds w S A (nby l)) (hl : l.length ≤ 1000000) (hb : Small l) :
    Calls Try.prog 50 #[.slice A l.length cap] w fun e w' => e = .returned (.int .u32 (C.more 0 l : Nat)) ∧ w = w' := by
  go_enter Try.func50, Try.ntmps50
  go_wp2_with fail
  refine (rmore_any S A cap l 0 (by omega) w hr hl hb).mono ?_
  rintro e w1 ⟨rfl, rfl⟩
  go_wp2
  go_ret
  exact ⟨rfl, rfl⟩

end Go.Proofs.Ytfllebfegngdhaa
