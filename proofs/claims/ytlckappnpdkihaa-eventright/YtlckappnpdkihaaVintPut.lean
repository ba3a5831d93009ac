/- Put's contract, where the number may be. -/
import Derived.Test.YtlckappnpdkihaaVint
namespace Go.Proofs.Ytlckappnpdkihaa
open Go.ChangeShapes Go.WideShapes Go.ChangeAt Go.RowKit

theorem lit_rds (w : World) (l : List Int) (k : IntKind) (t : TypeId) : Rds (w.alloc (.cells (l.map (Value.int k)).toArray t)) (fun _ => True) (some ⟨w.heap.size, 0, none⟩) (l.map (Value.int k)) := by
  intro j u hu
  refine ⟨_, rfl, trivial, ?_⟩
  rw [M.addMk, Nat.zero_add, (Blo.made w t _).cell]
  simpa using hu

/-- What one append of one number does to what Put has so far. -/
theorem put_step {w wr w1 : World} {b pre : List Int} {v v' : Value} {x : Int} {o : Obj}
    (hown : wr.ownsRow w.heap.size 5 1 v (b ++ pre).length (u8s (b ++ pre))) (hb : Below w.heap.size w wr)
    {n' : Nat} {xs' : List Value} (hown' : w1.ownsRow w.heap.size 5 1 v' n' xs') (hn : n' = (b ++ pre).length + 1) (hx : xs' = u8s (b ++ pre) ++ [.int .u8 x]) (hg : (wr.alloc o).grownBy w1 v.ownBlock) :
    w1.ownsRow w.heap.size 5 1 v' (b ++ (pre ++ [x])).length (u8s (b ++ (pre ++ [x]))) ∧ Below w.heap.size w w1 := by
  constructor
  · have e1 : (b ++ (pre ++ [x])).length = (b ++ pre).length + 1 := by simp; omega
    have e2 : u8s (b ++ (pre ++ [x])) = u8s (b ++ pre) ++ [.int .u8 x] := by simp
    rw [e1, e2, ← hn, ← hx]; exact hown'
  · refine (hb.alloc hb.size o).grown hg (by have := hb.size; simp; omega) fun k hk => (hown.lt k hk).1

set_option maxRecDepth 100000 in
set_option maxHeartbeats 1000000 in
theorem put_yes (S : Nat → Prop) (A : Option Addr) (c : Nat) (b : List Int) (n : Int) (w : World) (hr : Rds w S A (u8s b)) (hl : b.length ≤ 1000000) (h0 : 0 ≤ n) (h1 : n ≤ 1099511627776) :
    Calls Try.prog 69 #[.slice A b.length c, .int .i64 n] w (PutPost b n w) := by
  obtain ⟨i0, hi, hz0, hz1, hz2⟩ := info_parts Try.rowU8
  have h6 := V.enc_len6 h1
  go_enter Try.func69, Try.ntmps69
  go_wp2_with (at_make; refine wpList_make_own _ rfl _ _ 36 rfl w.heap.size 5 i0 (.int .u8 0) 1 Try.underlying36 hi hz0 hz1 _ _ _ (b.length + 6) rfl rfl (by omega) (by rw [hz2]; omega) (by unfold maxLen; omega) (Nat.le_refl _) ?_)
  intro w1 hown1 hg1
  have hr1 := hr.new (below_gb hg1)
  have hs1 := hg1.size
  go_wp2_with (at_builtin; refine wpList_app _ rfl _ _ 36 rfl w.heap.size 5 i0 (.int .u8 0) 1 Try.underlying36 hi hz0 hz1 hz2 rfl _ _ _ rfl hown1 S A b.length c (u8s b) rfl (by simp) hr1 (one_ints _ _) (by unfold maxLen; omega) (by omega) hs1 ?_)
  intro v2 w2 hown2 hg2 _
  have hb2 : Below w.heap.size w w2 := (below_gb hg1).grown hg2 hs1 fun k hk => by simp [Value.ownBlock] at hk; omega
  have Hown2 : w2.ownsRow w.heap.size 5 1 v2 (b ++ []).length (u8s (b ++ [])) := by simpa using hown2
  clear hown2 hg2 hg1 hown1 hr1 hs1
  go_wp2
  go_loopw [1, 6] (fun nv v wr => ∃ (m : Int) (pre : List Int), nv = .int .i64 m ∧ 0 ≤ m ∧ m ≤ n ∧ Hid (V.enc n = pre ++ V.enc m) ∧ wr.ownsRow w.heap.size 5 1 v (b ++ pre).length (u8s (b ++ pre)) ∧ Below w.heap.size w wr) (fun nv _ _ => (intOf nv).toNat)
  case atStart => exact ⟨n, [], rfl, h0, Int.le_refl _, rfl, Hown2, hb2⟩
  case round =>
    obtain ⟨m, pre, rfl, hm0, hm1, HE, hown, hb⟩ := hrel
    have hp : pre.length ≤ 6 := by have := congrArg List.length HE.out; simp at this; omega
    have hp2 : (b ++ pre).length ≤ 1000006 := by simp; omega
    have hsz := hb.size
    by_cases hlt : 128 ≤ m
    · go_wp2_with (at_builtin; refine wpList_app _ rfl _ _ 36 rfl w.heap.size 5 i0 (.int .u8 0) 1 Try.underlying36 hi hz0 hz1 hz2 rfl _ _ _ rfl (hown.alloc _) _ _ 1 1 [.int .u8 (m % 128 + 128)] rfl rfl (one_rds _ _ _ _) (one_ints _ [_]) (by unfold maxLen; omega) (by omega) (by simp; omega) ?_)
      intro v' w1' hown' hg' _
      have R := put_step (x := m % 128 + 128) hown hb hown' (by simp) (by simp) hg'
      clear hown' hg' hown hb
      go_wp2
      go_roundw
      case rel => exact ⟨m / 128, pre ++ [m % 128 + 128], rfl, by omega, by omega, by have := HE.out; rw [V.enc_big hlt] at this; exact this.trans (by simp), R.1, R.2⟩
      case measure => simp [intOf]; omega
    · go_wp2_with (at_builtin; refine wpList_app _ rfl _ _ 36 rfl w.heap.size 5 i0 (.int .u8 0) 1 Try.underlying36 hi hz0 hz1 hz2 rfl _ _ _ rfl (hown.alloc _) _ _ 1 1 [.int .u8 m] rfl rfl (one_rds _ _ _ _) (one_ints _ [_]) (by unfold maxLen; omega) (by omega) (by simp; omega) ?_)
      intro v' w1' hown' hg' _
      have R := put_step (x := m) hown hb hown' (by simp) (by simp) hg'
      have HE2 : Hid (V.enc n = pre ++ [m]) := by have := HE.out; rw [V.enc_small (n := m) (by omega)] at this; exact this
      clear hown' hg' hown hb HE
      obtain ⟨A', c', rfl, _, _⟩ := own_form R.1
      go_wp2
      go_ret2
      refine ⟨A', c', ret_val (by rw [HE2.out]; simp), ?_, R.2⟩
      rw [HE2.out]; exact R.1

end Go.Proofs.Ytlckappnpdkihaa
