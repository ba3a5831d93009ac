/- Contracts of layer 4 (frame), the plain ones: sums of rows of bytes, fresh, need, readSum, readLength. -/
import Derived.Test.YtfllebfegngdhaaFrameMath
import Derived.Test.YtfllebfegngdhaaVintFace
import Derived.IntWalk
namespace Go.Proofs.Ytfllebfegngdhaa
open Go.ChangeShapes Go.WideShapes Go.ChangeAt Go.RowKit

theorem nats_len (l : List Int) : (C.nats l).length = l.length := by simp [C.nats]
theorem sum_i (S : Nat → Prop) (A : Option Addr) (n cap : Nat) (l : List Int) (w : World) (hn : n = l.length) (hr : Rds w S A (u8s l)) (hl : l.length ≤ 1000000) (hb : Byt l) :
    Calls Try.prog 61 #[.slice A n cap] w fun e w' => e = .returned (.int .u32 (F.sum l : Nat)) ∧ w = w' := by
  have h := sum_any S A cap (C.nats l) w (by rw [← byt_nats hb]; exact hr) (by rw [nats_len]; exact hl) (small_nats hb)
  rw [nats_len, ← hn] at h
  exact h
theorem rsum_i (S : Nat → Prop) (A : Option Addr) (n cap : Nat) (l : List Int) (w : World) (hn : n = l.length) (hr : Rds w S A (u8s l)) (hl : l.length ≤ 1000000) (hb : Byt l) :
    Calls Try.prog 50 #[.slice A n cap] w fun e w' => e = .returned (.int .u32 (F.sum l : Nat)) ∧ w = w' := by
  have h := rsum_any S A cap (C.nats l) w (by rw [← byt_nats hb]; exact hr) (by rw [nats_len]; exact hl) (small_nats hb)
  rw [nats_len, ← hn] at h
  exact h

set_option maxHeartbeats 400000 in
theorem ffresh_any (S : Nat → Prop) (A : Option Addr) (n c : Nat) (l : List Int) (w : World) (hn : n = l.length) (hr : Rds w S A (u8s l)) (hl : l.length ≤ 1000000) :
    Calls Try.prog 54 #[.slice A n c] w (OwnPost l w) := by
  subst hn
  obtain ⟨i0, hi, hz0, hz1, hz2⟩ := info_parts Try.rowU8
  go_enter Try.func54, Try.ntmps54
  go_wp2_with (at_builtin; refine wpList_app _ rfl _ _ 32 rfl w.heap.size 5 i0 (.int .u8 0) 1 Try.underlying32 hi hz0 hz1 hz2 rfl _ _ _ rfl (World.ownsRow_nil _ _ _ _) S A l.length c (u8s l) rfl (by simp) hr (one_ints _ _) (by unfold maxLen; omega) (by omega) (Nat.le_refl _) ?_)
  intro v' w1 hown hg _
  obtain ⟨A', c', rfl, _, _⟩ := own_form hown
  go_wp2
  go_ret
  refine ⟨A', c', ret_val (by simp), hown, below_gb hg⟩

set_option maxHeartbeats 400000 in
theorem need_yes (y : Int) (w : World) : Calls Try.prog 67 #[.bool true, .int .i64 y] w fun e w' => e = .returned (.tuple #[]) ∧ w = w' := by
  go_enter Try.func67, Try.ntmps67
  go_wp2
  go_end0
  exact ⟨rfl, rfl⟩
set_option maxHeartbeats 400000 in
theorem need_no (y : Int) (w : World) : Calls Try.prog 67 #[.bool false, .int .i64 y] w fun e w' => e = gave y ∧ w = w' := by
  go_enter Try.func67, Try.ntmps67
  go_wp2
  exact ⟨rfl, rfl, rfl⟩

/-- The number of bytes, the highest first. -/
def F.val (l : List Int) : Nat := l.foldl (fun s c => s * 256 + c.toNat) 0
theorem F.val_snoc {l : List Int} {i : Nat} (hi : i < l.length) : F.val (l.take (i + 1)) = F.val (l.take i) * 256 + l[i].toNat := by
  unfold F.val
  rw [List.take_add_one, List.getElem?_eq_getElem hi, List.foldl_append]
  rfl
theorem F.or256 (r c : Nat) (hc : c < 256) : r * 256 ||| c = r * 256 + c := by
  have h := Nat.two_pow_add_eq_or_of_lt (i := 8) (b := c) hc r
  rw [Nat.mul_comm r]
  exact h.symm

set_option maxHeartbeats 400000 in
theorem readSum_any (S : Nat → Prop) (A : Option Addr) (n c : Nat) (l : List Int) (w : World) (hn : n = l.length) (hr : Rds w S A (u8s l)) (h4 : 4 ≤ l.length) (hc : l.length ≤ c) (hb : Byt l) :
    Calls Try.prog 69 #[.slice A n c] w fun e w' => e = .returned (.int .u32 (F.val (l.take 4) : Nat)) ∧ w = w' := by
  subst hn
  go_enter Try.func69, Try.ntmps69
  go_wp2
  go_loop [9, 3] (fun iv rv => ∃ i r : Nat, iv = .int .i64 i ∧ rv = .int .u32 (r : Int) ∧ i ≤ 4 ∧ r < 256 ^ i ∧ Hid (F.val (l.take i) = r)) (fun iv _ => 4 - (intOf iv).toNat)
  case atStart => exact ⟨0, 0, rfl, rfl, by omega, by simp, rfl⟩
  case round =>
    obtain ⟨i, r, rfl, rfl, hi, hr', H⟩ := hrel
    by_cases hlt : i < 4
    · obtain ⟨ad, rfl, _, hce⟩ := hr.int (j := i) (by omega)
      have hbt := hb.at (j := i) (by omega)
      have HR := Lib.hid (F.val_snoc (l := l) (i := i) (by omega))
      obtain ⟨x, hx⟩ := Int.eq_ofNat_of_zero_le hbt.1
      rw [hx] at hce hbt HR
      have hr24 : r < 16777216 := by
        have : (256 : Nat) ^ i ≤ 256 ^ 3 := Nat.pow_le_pow_right (by omega) (by omega)
        omega
      have ho : bits .or .u32 ((r : Int) * 256) (x : Int) = ((r * 256 + x : Nat) : Int) := by
        have := u32_or_nat (r * 256) x (by omega) (by omega)
        rw [F.or256 r x (by omega)] at this
        simpa using this
      have hp : r * 256 + x < 256 ^ (i + 1) := by rw [Nat.pow_succ]; omega
      have HP := Lib.hid hp
      clear hx hp
      go_wp2
      go_round
      case rel => exact ⟨i + 1, r * 256 + x, by go_num, by go_num, by omega, HP.out, by rw [HR.out, H.out]; rfl⟩
      case measure => simp [intOf]; omega
    · obtain rfl : i = 4 := by omega
      go_wp2
      go_ret
      exact ⟨ret_int (by rw [H.out]), rfl⟩

/-- What readLength comes to: the number and its size, or giving up. -/
def LenPost (l : List Int) (w : World) (e : Ending) (w' : World) : Prop :=
  (((V.int l).2.2 = 0 ∧ e = .returned (.tuple #[.int .i64 (V.int l).1, .int .i64 ((V.int l).2.1 : Nat)])) ∨ ((V.int l).2.2 ≠ 0 ∧ e = gave (V.int l).2.2)) ∧ Below w.heap.size w w'

set_option maxHeartbeats 1000000 in
theorem readLength_any (S : Nat → Prop) (A : Option Addr) (n c : Nat) (l : List Int) (w : World) (hn : n = l.length) (hr : Rds w S A (u8s l)) (hc : l.length ≤ c) (hl : l.length ≤ 1000000) (hb : Byt l) :
    Calls Try.prog 68 #[.slice A n c] w (LenPost l w) := by
  subst hn
  obtain ⟨k, hk⟩ : ∃ k, k = l.take 6 := ⟨_, rfl⟩
  have hkl : k.length = l.length ∧ l.length ≤ 6 ∨ k.length = 6 ∧ 6 < l.length := by rw [hk, List.length_take]; omega
  have hN := new_any S A c k w (by rw [hk]; have := hr.take 6; rwa [← List.map_take] at this) (by omega) (by rw [hk]; exact hb.take 6)
  have hi : V.int k = V.int l := by rw [hk]; exact F.int_take l 6 (by omega)
  have hz := V.int_size k
  obtain ⟨R, hR⟩ : ∃ R, R = V.int l := ⟨_, rfl⟩
  rw [← hR] at hi
  obtain ⟨k2, hk2⟩ : ∃ k2, k2 = k.drop R.2.1 := ⟨_, rfl⟩
  have hk2l : (k.length : Int) - (k2.length : Int) = (R.2.1 : Nat) := by rw [hk2, List.length_drop]; rw [hi] at hz; omega
  have hk2m : k2.length ≤ 6 := by rw [hk2, List.length_drop]; omega
  unfold LenPost
  rw [← hR]
  have HR := Lib.hid hR
  have HI := Lib.hid hi
  have HK2 := Lib.hid hk2
  clear hr hk hz hR hi hk2
  have hkc : k.length ≤ 6 ∧ k.length ≤ l.length := by omega
  rcases hkl with ⟨hkl, h6⟩ | ⟨hkl, h6⟩
  all_goals
    rw [hkl] at hN
    clear hb
    go_enter Try.func68, Try.ntmps68
    go_wp2_with fail
    refine hN.mono ?_
    rintro e w1 ⟨g, h, rfl, hr1, hg1, hh1, hb1⟩
    clear hN
    go_wp2_with fail
    refine (left_any hr1).mono ?_
    rintro e w1' ⟨rfl, rfl⟩
    go_wp2_with fail
    refine (int_any hr1).mono ?_
    rintro e w2 ⟨rfl, hr2, hgb2⟩
    rw [HI.out, ← HK2.out] at hr2
    rw [HI.out]
    have hB2 : Below w.heap.size w w2 := hb1.grown hgb2 hb1.size fun k hk => by injection hk with hk; omega
    clear hgb2 hb1 hr1
    go_wp2_with fail
    refine (err_any hr2).mono ?_
    rintro e w2' ⟨rfl, rfl⟩
    go_wp2_with fail
    refine (err_any hr2).mono ?_
    rintro e w2' ⟨rfl, rfl⟩
    by_cases h0 : R.2.2 = 0
    · rw [h0]
      go_wp2_with fail
      refine (need_yes _ _).mono ?_
      rintro e w2' ⟨rfl, rfl⟩
      go_wp2_with fail
      refine (left_any hr2).mono ?_
      rintro e w2' ⟨rfl, rfl⟩
      go_wp2
      go_ret2
      exact ⟨.inl ⟨h0, by rw [hkl] at hk2l; rw [← hk2l]; rfl⟩, hB2⟩
    · have h0' : (R.2.2 == 0) = false := by simpa using h0
      go_wp2_with fail
      refine (need_no _ _).mono ?_
      rintro e w2' ⟨rfl, rfl⟩
      go_wp2
      exact ⟨rfl, .inr ⟨h0, rfl⟩, hB2⟩
end Go.Proofs.Ytfllebfegngdhaa
