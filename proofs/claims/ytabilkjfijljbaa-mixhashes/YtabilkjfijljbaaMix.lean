/- Contracts of layer 5 (mix) and of the document's own: to stir, the Hash, the Draw. -/
import Derived.Test.YtabilkjfijljbaaNby
import Derived.Test.YtabilkjfijljbaaMixMath
import Derived.Laws.BitsAll
namespace Go.Proofs.Ytabilkjfijljbaa
open Go.ChangeShapes Go.WideShapes Go.ChangeAt Go.RowKit

theorem X.wrap (a f : Nat) : IntKind.u64.wrap ((a : Int) * (f : Int)) = ((a * f % 18446744073709551616 : Nat) : Int) := by
  rw [show IntKind.u64.wrap ((a : Int) * (f : Int)) = ((a : Int) * (f : Int)) % 18446744073709551616 by simp [IntKind.wrap, IntKind.bits, IntKind.signed]]
  simp
theorem X.wrapAdd (a f : Nat) : IntKind.u64.wrap ((a : Int) + (f : Int)) = (((a + f) % 18446744073709551616 : Nat) : Int) := by
  rw [show IntKind.u64.wrap ((a : Int) + (f : Int)) = ((a : Int) + (f : Int)) % 18446744073709551616 by simp [IntKind.wrap, IntKind.bits, IntKind.signed]]
  simp
theorem X.part (d x : Nat) (hx : x < 18446744073709551616) : bits .xor .u64 (x : Int) ((x : Int) / (d : Int)) = ((x ^^^ (x / d) : Nat) : Int) := by
  have := Nat.div_le_self x d
  rw [show (x : Int) / (d : Int) = ((x / d : Nat) : Int) by simp, u64_xor_nat x _ hx (by omega)]
theorem X.step (d f x : Nat) (hx : x < 18446744073709551616) : IntKind.u64.wrap (bits .xor .u64 (x : Int) ((x : Int) / (d : Int)) * (f : Int)) = ((X.one d f x : Nat) : Int) := by
  rw [X.part d x hx, X.wrap]
  rfl
theorem X.all (x : Nat) (hx : x < 18446744073709551616) (a b c f g : Int) (ha : 1073741824 = a) (hb : 134217728 = b) (hc : 2147483648 = c) (hf : 13787848793156543929 = f) (hg : 10723151780598845931 = g) :
    bits .xor .u64 (IntKind.u64.wrap (bits .xor .u64 (IntKind.u64.wrap (bits .xor .u64 (x : Int) ((x : Int) / a) * f)) (IntKind.u64.wrap (bits .xor .u64 (x : Int) ((x : Int) / a) * f) / b) * g))
      (IntKind.u64.wrap (bits .xor .u64 (IntKind.u64.wrap (bits .xor .u64 (x : Int) ((x : Int) / a) * f)) (IntKind.u64.wrap (bits .xor .u64 (x : Int) ((x : Int) / a) * f) / b) * g) / c) = ((X.stir x : Nat) : Int) := by
  obtain rfl : a = ((1073741824 : Nat) : Int) := ha.symm
  obtain rfl : b = ((134217728 : Nat) : Int) := hb.symm
  obtain rfl : c = ((2147483648 : Nat) : Int) := hc.symm
  obtain rfl : f = ((13787848793156543929 : Nat) : Int) := hf.symm
  obtain rfl : g = ((10723151780598845931 : Nat) : Int) := hg.symm
  rw [X.step _ _ x hx, X.step _ _ _ (X.one_lt _ _ _), X.part _ _ (X.one_lt _ _ _)]
  rfl

set_option maxHeartbeats 400000 in
theorem stir_any (x : Nat) (hx : x < 18446744073709551616) (w : World) : Calls Try.prog 13 #[.int .u64 (x : Int)] w fun e w' => e = .returned (.int .u64 (X.stir x : Nat)) ∧ w = w' := by
  have H := Lib.hid (X.all x hx _ _ _ _ _ rfl rfl rfl rfl rfl)
  go_enter Try.func13, Try.ntmps13
  go_wp2
  go_ret
  exact ⟨ret_int H.out, rfl⟩

set_option maxHeartbeats 400000 in
theorem rstir_any (x : Nat) (hx : x < 18446744073709551616) (w : World) : Calls Try.prog 14 #[.int .u64 (x : Int)] w fun e w' => e = .returned (.int .u64 (X.stir x : Nat)) ∧ w = w' := by
  have H := Lib.hid (X.all x hx _ _ _ _ _ rfl rfl rfl rfl rfl)
  go_enter Try.func14, Try.ntmps14
  go_wp2
  go_ret
  exact ⟨ret_int H.out, rfl⟩

set_option maxHeartbeats 400000 in
theorem hash_any (S : Nat → Prop) (A : Option Addr) (n cap : Nat) (l : List Nat) (w : World) (hn : n = l.length) (hr : Rds w S A (nby l)) (hl : l.length ≤ 1000000) (hb : Small l) :
    Calls Try.prog 7 #[.slice A n cap] w fun e w' => e = .returned (.int .u64 (X.hash l : Nat)) ∧ w = w' := by
  subst hn
  go_enter Try.func7, Try.ntmps7
  go_wp2
  go_loop [8, 3] (fun iv rv => ∃ i r : Nat, iv = .int .i64 i ∧ rv = .int .u64 (r : Int) ∧ i ≤ l.length ∧ r < 18446744073709551616 ∧ Hid (X.run 14695981039346656037 l = X.run r (l.drop i))) (fun iv _ => l.length - (intOf iv).toNat)
  case atStart => exact ⟨0, 14695981039346656037, rfl, rfl, by omega, by omega, rfl⟩
  case round =>
    obtain ⟨i, r, rfl, rfl, hi, hr', H⟩ := hrel
    by_cases hlt : i < l.length
    · obtain ⟨ad, rfl, _, hc⟩ := hr.byte hlt
      have hc8 := hb.at hlt
      have h1 : bits .xor .u64 (r : Int) ((l[i] : Nat) : Int) = ((r ^^^ l[i] : Nat) : Int) := u64_xor_nat r _ hr' (by omega)
      have h2 : IntKind.u64.wrap (((r ^^^ l[i] : Nat) : Int) * 1099511628211) = ((X.up r l[i] : Nat) : Int) := X.wrap _ _
      have R := Lib.hid (X.run_more hlt H.out)
      have hu := X.up_lt r l[i]
      go_wp2
      go_round
      case rel => exact ⟨i + 1, X.up r l[i], by go_num, rfl, by omega, hu, R⟩
      case measure => simp [intOf]; omega
    · have R := Lib.hid (X.run_end hlt H.out)
      go_wp2_with fail
      refine (stir_any _ hr' w).mono ?_
      rintro e w1 ⟨rfl, rfl⟩
      go_wp2
      go_ret
      exact ⟨ret_int (by unfold X.hash; rw [R.out]), rfl⟩

set_option maxHeartbeats 400000 in
theorem rhash_any (S : Nat → Prop) (A : Option Addr) (n cap : Nat) (l : List Nat) (w : World) (hn : n = l.length) (hr : Rds w S A (nby l)) (hl : l.length ≤ 1000000) (hb : Small l) :
    Calls Try.prog 8 #[.slice A n cap] w fun e w' => e = .returned (.int .u64 (X.hash l : Nat)) ∧ w = w' := by
  subst hn
  go_enter Try.func8, Try.ntmps8
  go_wp2
  go_loop [8, 3] (fun iv rv => ∃ i r : Nat, iv = .int .i64 i ∧ rv = .int .u64 (r : Int) ∧ i ≤ l.length ∧ r < 18446744073709551616 ∧ Hid (X.run 14695981039346656037 l = X.run r (l.drop i))) (fun iv _ => l.length - (intOf iv).toNat)
  case atStart => exact ⟨0, 14695981039346656037, rfl, rfl, by omega, by omega, rfl⟩
  case round =>
    obtain ⟨i, r, rfl, rfl, hi, hr', H⟩ := hrel
    by_cases hlt : i < l.length
    · obtain ⟨ad, rfl, _, hc⟩ := hr.byte hlt
      have hc8 := hb.at hlt
      have h1 : bits .xor .u64 (r : Int) ((l[i] : Nat) : Int) = ((r ^^^ l[i] : Nat) : Int) := u64_xor_nat r _ hr' (by omega)
      have h2 : IntKind.u64.wrap (((r ^^^ l[i] : Nat) : Int) * 1099511628211) = ((X.up r l[i] : Nat) : Int) := X.wrap _ _
      have R := Lib.hid (X.run_more hlt H.out)
      have hu := X.up_lt r l[i]
      go_wp2
      go_round
      case rel => exact ⟨i + 1, X.up r l[i], by go_num, rfl, by omega, hu, R⟩
      case measure => simp [intOf]; omega
    · have R := Lib.hid (X.run_end hlt H.out)
      go_wp2_with fail
      refine (rstir_any _ hr' w).mono ?_
      rintro e w1 ⟨rfl, rfl⟩
      go_wp2
      go_ret
      exact ⟨ret_int (by unfold X.hash; rw [R.out]), rfl⟩

set_option maxHeartbeats 400000 in
theorem draw_any (s : Nat) (n : Int) (w : World) (h1 : n < 9223372036854775808) (h0 : -9223372036854775808 ≤ n) :
    Calls Try.prog 11 #[.int .u64 (s : Int), .int .i64 n] w fun e w' => e = .returned (.tuple #[.int .u64 (X.next s : Nat), .int .i64 (X.draw s n : Nat)]) ∧ Drew w w' := by
  have hs : IntKind.u64.wrap ((s : Int) + 11400714819323198485) = ((X.next s : Nat) : Int) := X.wrapAdd _ _
  have hx := X.next_lt s
  by_cases hn : n ≤ 0
  · have hd : X.draw s n = 0 := by unfold X.draw; rw [if_pos hn]
    go_enter Try.func11, Try.ntmps11
    go_wp2
    go_ret2
    rw [hd]
    exact ⟨rfl, Drew.refl w⟩
  · have hd : ((X.draw s n : Nat) : Int) = ((X.stir (X.next s) : Nat) : Int) % n := by unfold X.draw; rw [if_neg hn, Int.natCast_emod, Int.toNat_of_nonneg (by omega)]
    have h2 : 0 < n := by omega
    have e1 : IntKind.u64.wrap n = n := by simp [IntKind.wrap, IntKind.bits, IntKind.signed]; omega
    rw [hd]
    clear hd h0 hn
    generalize X.next s = t at *
    have hst := X.stir_lt t
    have ST := stir_any t hx
    generalize X.stir t = q at *
    have z0 : n ≠ 0 := by omega
    have z2 := Int.emod_lt_of_pos (q : Int) h2
    have z3 := Int.emod_nonneg (q : Int) (show n ≠ 0 by omega)
    have z4 : IntKind.i64.wrap ((q : Int) % n) = (q : Int) % n := IntWalk.i64_in _ ⟨by omega, by omega⟩
    have z5 : IntKind.u64.wrap ((q : Int) % n) = (q : Int) % n := by simp only [IntKind.wrap, IntKind.bits, IntKind.signed]; simp; omega
    have z6 : Int.tmod (q : Int) n = (q : Int) % n := Int.tmod_eq_emod_of_nonneg (by omega)
    go_enter Try.func11, Try.ntmps11
    go_wp2
    go_quiet ((go_at_call 13; exact quiet_same (ST _)))
    go_wp2
    go_ret2
    exact ⟨rfl, nq, rfl⟩

set_option maxHeartbeats 400000 in
theorem rdraw_any (s : Nat) (n : Int) (w : World) (h1 : n < 9223372036854775808) (h0 : -9223372036854775808 ≤ n) :
    Calls Try.prog 12 #[.int .u64 (s : Int), .int .i64 n] w fun e w' => e = .returned (.tuple #[.int .u64 (X.next s : Nat), .int .i64 (X.draw s n : Nat)]) ∧ Drew w w' := by
  have hs : IntKind.u64.wrap ((s : Int) + 11400714819323198485) = ((X.next s : Nat) : Int) := X.wrapAdd _ _
  have hx := X.next_lt s
  by_cases hn : n ≤ 0
  · have hd : X.draw s n = 0 := by unfold X.draw; rw [if_pos hn]
    go_enter Try.func12, Try.ntmps12
    go_wp2
    go_ret2
    rw [hd]
    exact ⟨rfl, Drew.refl w⟩
  · have hd : ((X.draw s n : Nat) : Int) = ((X.stir (X.next s) : Nat) : Int) % n := by unfold X.draw; rw [if_neg hn, Int.natCast_emod, Int.toNat_of_nonneg (by omega)]
    have h2 : 0 < n := by omega
    have e1 : IntKind.u64.wrap n = n := by simp [IntKind.wrap, IntKind.bits, IntKind.signed]; omega
    rw [hd]
    clear hd h0 hn
    generalize X.next s = t at *
    have hst := X.stir_lt t
    have ST := rstir_any t hx
    generalize X.stir t = q at *
    have z0 : n ≠ 0 := by omega
    have z2 := Int.emod_lt_of_pos (q : Int) h2
    have z3 := Int.emod_nonneg (q : Int) (show n ≠ 0 by omega)
    have z4 : IntKind.i64.wrap ((q : Int) % n) = (q : Int) % n := IntWalk.i64_in _ ⟨by omega, by omega⟩
    have z5 : IntKind.u64.wrap ((q : Int) % n) = (q : Int) % n := by simp only [IntKind.wrap, IntKind.bits, IntKind.signed]; simp; omega
    have z6 : Int.tmod (q : Int) n = (q : Int) % n := Int.tmod_eq_emod_of_nonneg (by omega)
    go_enter Try.func12, Try.ntmps12
    go_wp2
    go_quiet ((go_at_call 14; exact quiet_same (ST _)))
    go_wp2
    go_ret2
    exact ⟨rfl, nq, rfl⟩
end Go.Proofs.Ytabilkjfijljbaa
