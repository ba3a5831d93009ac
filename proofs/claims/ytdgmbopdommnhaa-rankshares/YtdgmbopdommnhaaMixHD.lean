/- Layer 5, the document's own: to stir, the Hash. -/
import Derived.Test.YtdgmbopdommnhaaMixBits
namespace Go.Proofs.Ytdgmbopdommnhaa
open Go.ChangeShapes Go.WideShapes Go.ChangeAt Go.RowKit

set_option maxHeartbeats 400000 in
theorem rstir_any (x : Nat) (hx : x < 18446744073709551616) (w : World) : Calls Try.prog 30 #[.int .u64 (x : Int)] w fun e w' => e = .returned (.int .u64 (X.stir x : Nat)) ∧ w = w' := by
  have H := Lib.hid (X.all x hx _ _ _ _ _ rfl rfl rfl rfl rfl)
  go_enter Try.func30, Try.ntmps30
  go_wp2
  go_ret
  exact ⟨ret_int H.out, rfl⟩

set_option maxHeartbeats 400000 in
theorem rhash_any (S : Nat → Prop) (A : Option Addr) (n cap : Nat) (l : List Nat) (w : World) (hn : n = l.length) (hr : Rds w S A (nby l)) (hl : l.length ≤ 1000000) (hb : Small l) :
    Calls Try.prog 26 #[.slice A n cap] w fun e w' => e = .returned (.int .u64 (X.hash l : Nat)) ∧ w = w' := by
  subst hn
  go_enter Try.func26, Try.ntmps26
  go_wp2
  go_loop [8, 3] (fun iv rv => ∃ i r : Nat, iv = .int .i64 i ∧ rv = .int .u64 (r : Int) ∧ i ≤ l.length ∧ r < 18446744073709551616 ∧ Hid (X.run 14695981039346656037 l = X.run r (l.drop i))) (fun iv _ => l.length - (intOf iv).toNat)
  case atStart => exact ⟨0, 14695981039346656037, rfl, rfl, by omega, by omega, rfl⟩
  case round =>
    obtain ⟨i, r, rfl, rfl, hi, hr', H⟩ := hrel
    by_cases hlt : i < l.length
    · obtain ⟨ad, rfl, _, hc⟩ := hr.byte hlt
      have hc8 := hb.at hlt
      have h1 : bits .xor .u64 (r : Int) ((l[i] : Nat) : Int) = ((r ^^^ l[i] : Nat) : Int) := u64_xor_nat r _ hr' (by omega)
      have h2 : IntKind.u64.wrap (((r ^^^ l[i] : Nat) : Int) * 1099511628211) = ((X.up r l[i] : Nat) : Int) := X.wrap _ _
      have R := Lib.hid (X.run_more hlt H.out)
      have hu := X.up_lt r l[i]
      go_wp2
      go_round
      case rel => exact ⟨i + 1, X.up r l[i], by go_num, rfl, by omega, hu, R⟩
      case measure => simp [intOf]; omega
    · have R := Lib.hid (X.run_end hlt H.out)
      go_wp2_with fail
      refine (rstir_any _ hr' w).mono ?_
      rintro e w1 ⟨rfl, rfl⟩
      go_wp2
      go_ret
      exact ⟨ret_int (by unfold X.hash; rw [R.out]), rfl⟩

end Go.Proofs.Ytdgmbopdommnhaa
