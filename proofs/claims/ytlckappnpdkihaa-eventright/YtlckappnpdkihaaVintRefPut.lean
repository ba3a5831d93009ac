/- The document's own Put: its contracts. -/
import Derived.Test.YtlckappnpdkihaaVintPut
namespace Go.Proofs.Ytlckappnpdkihaa
open Go.ChangeShapes Go.WideShapes Go.ChangeAt Go.RowKit

set_option maxHeartbeats 400000 in
theorem rput_no (A : Option Addr) (k c : Nat) (n : Int) (w : World) (h : n < 0 ∨ 1099511627776 < n) :
    Calls Try.prog 41 #[.slice A k c, .int .i64 n] w fun e w' => e = .returned (.tuple #[.slice none 0 0, .int .i64 2]) ∧ w = w' := by
  rcases h with h | h
  · go_enter Try.func41, Try.ntmps41
    go_wp2
    go_ret2
    exact ⟨rfl, rfl⟩
  · have h0 : 0 ≤ n := by omega
    go_enter Try.func41, Try.ntmps41
    go_wp2
    go_ret2
    exact ⟨rfl, rfl⟩

set_option maxRecDepth 100000 in
set_option maxHeartbeats 1000000 in
theorem rput_yes (S : Nat → Prop) (A : Option Addr) (c : Nat) (b : List Int) (n : Int) (w : World) (hr : Rds w S A (u8s b)) (hl : b.length ≤ 1000000) (h0 : 0 ≤ n) (h1 : n ≤ 1099511627776) :
    Calls Try.prog 41 #[.slice A b.length c, .int .i64 n] w (PutPost b n w) := by
  obtain ⟨i0, hi, hz0, hz1, hz2⟩ := info_parts Try.rowU8
  have h6 := V.enc_len6 h1
  go_enter Try.func41, Try.ntmps41
  have hown1 : (w.alloc (.cells #[] 5)).ownsRow w.heap.size 5 1 (.slice (some ⟨w.heap.size, 0, none⟩) 0 0) 0 [] := World.ownsRow_lit w #[] 0 (Nat.le_refl _) (by unfold maxLen; omega) rfl
  have hg1 : w.grownBy (w.alloc (.cells #[] 5)) none := World.grownBy_alloc _ _ _
  have hr1 := hr.new (below_gb hg1)
  have hs1 := hg1.size
  go_wp2_with (at_builtin; refine wpList_app _ rfl _ _ 36 rfl w.heap.size 5 i0 (.int .u8 0) 1 Try.underlying36 hi hz0 hz1 hz2 rfl _ _ _ rfl hown1 S A b.length c (u8s b) rfl (by simp) hr1 (one_ints _ _) (by unfold maxLen; omega) (by omega) hs1 ?_)
  intro v2 w2 hown2 hg2 _
  have hb2 : Below w.heap.size w w2 := (below_gb hg1).grown hg2 hs1 fun k hk => by simp [Value.ownBlock] at hk; omega
  have Hown2 : w2.ownsRow w.heap.size 5 1 v2 (b ++ []).length (u8s (b ++ [])) := by simpa using hown2
  clear hown2 hg2 hg1 hown1 hr1 hs1
  go_wp2
  go_loopw [1, 6] (fun nv v wr => ∃ (m : Int) (pre : List Int), nv = .int .i64 m ∧ 0 ≤ m ∧ m ≤ n ∧ Hid (V.enc n = pre ++ V.enc m) ∧ wr.ownsRow w.heap.size 5 1 v (b ++ pre).length (u8s (b ++ pre)) ∧ Below w.heap.size w wr) (fun nv _ _ => (intOf nv).toNat)
  case atStart => exact ⟨n, [], rfl, h0, Int.le_refl _, rfl, Hown2, hb2⟩
  case round =>
    obtain ⟨m, pre, rfl, hm0, hm1, HE, hown, hb⟩ := hrel
    have hp : pre.length ≤ 6 := by have := congrArg List.length HE.out; simp at this; omega
    have hp2 : (b ++ pre).length ≤ 1000006 := by simp; omega
    have hsz := hb.size
    by_cases hlt : 128 ≤ m
    · go_wp2_with (at_builtin; refine wpList_app _ rfl _ _ 36 rfl w.heap.size 5 i0 (.int .u8 0) 1 Try.underlying36 hi hz0 hz1 hz2 rfl _ _ _ rfl (hown.alloc _) _ _ 1 1 [.int .u8 (128 + m % 128)] rfl rfl (one_rds _ _ _ _) (one_ints _ [_]) (by unfold maxLen; omega) (by omega) (by simp; omega) ?_)
      intro v' w1' hown' hg' _
      have R := put_step (x := 128 + m % 128) hown hb hown' (by simp) (by simp) hg'
      clear hown' hg' hown hb
      go_wp2
      go_roundw
      case rel => exact ⟨m / 128, pre ++ [128 + m % 128], rfl, by omega, by omega, by have := HE.out; rw [V.enc_big hlt, Int.add_comm (m % 128) 128] at this; exact this.trans (by simp), R.1, R.2⟩
      case measure => simp [intOf]; omega
    · go_wp2_with (at_builtin; refine wpList_app _ rfl _ _ 36 rfl w.heap.size 5 i0 (.int .u8 0) 1 Try.underlying36 hi hz0 hz1 hz2 rfl _ _ _ rfl (hown.alloc _) _ _ 1 1 [.int .u8 m] rfl rfl (one_rds _ _ _ _) (one_ints _ [_]) (by unfold maxLen; omega) (by omega) (by simp; omega) ?_)
      intro v' w1' hown' hg' _
      have R := put_step (x := m) hown hb hown' (by simp) (by simp) hg'
      have HE2 : Hid (V.enc n = pre ++ [m]) := by have := HE.out; rw [V.enc_small (n := m) (by omega)] at this; exact this
      clear hown' hg' hown hb HE
      obtain ⟨A', c', rfl, _, _⟩ := own_form R.1
      go_wp2
      go_ret2
      refine ⟨A', c', ret_val (by rw [HE2.out]; simp), ?_, R.2⟩
      rw [HE2.out]; exact R.1

end Go.Proofs.Ytlckappnpdkihaa
