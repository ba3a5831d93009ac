/- Layer 5, the document's own: eight bytes of a number; the Weight. -/
import Derived.Test.YtdgmbopdommnhaaMixTl
import Derived.Test.YtdgmbopdommnhaaMixHD
namespace Go.Proofs.Ytdgmbopdommnhaa
open Go.ChangeShapes Go.WideShapes Go.ChangeAt Go.RowKit

set_option maxHeartbeats 1000000 in
theorem eight_any (x : Nat) (w : World) (hx : x < 18446744073709551616) :
    Calls Try.prog 25 #[.int .u64 (x : Int)] w fun e w' =>
      ∃ A c, e = .returned (.slice A 8 c) ∧ w'.ownsRow w.heap.size 5 1 (.slice A 8 c) 8 (nby (X.low 8 x)) ∧ Below w.heap.size w w' := by
  obtain ⟨i0, hi, hz0, hz1, hz2⟩ := info_parts Try.rowU8
  have hBs := Nat.le_refl w.heap.size
  go_enter Try.func25, Try.ntmps25
  go_wp2
  go_loopw [4, 0, 3] (fun iv nv v wr => ∃ (i m : Nat) (pre : List Nat), iv = .int .i64 i ∧ nv = .int .u64 (m : Int) ∧ i ≤ 8 ∧ m < 18446744073709551616 ∧ pre.length ≤ i ∧ Hid (X.low 8 x = pre ++ X.low (8 - i) m) ∧ wr.ownsRow w.heap.size 5 1 v ([] ++ pre).length (nby ([] ++ pre)) ∧ Below w.heap.size w wr) (fun iv _ _ _ => 8 - (intOf iv).toNat)
  case atStart => exact ⟨0, x, [], rfl, rfl, by omega, hx, by simp, rfl, own_nil _ _, Below.refl _ _⟩
  case round =>
    obtain ⟨i, m, pre, rfl, rfl, hi8, hm, hpl, H, hown, hb⟩ := hrel
    have hsz := hb.size
    by_cases hlt : i < 8
    · have R := Lib.hid (X.low_more hlt H.out)
      have ll : ([] ++ pre).length ≤ 108 := by simp; omega
      go_wp2_with (at_builtin; refine wpList_app _ rfl _ _ 50 rfl w.heap.size 5 i0 (.int .u8 0) 1 Try.underlying50 hi hz0 hz1 hz2 rfl _ _ _ rfl (hown.alloc _) _ _ 1 1 [.int .u8 ((m : Int) % 256)] rfl rfl (one_rds _ _ _ _) (one_ints _ [_]) (by unfold maxLen; omega) (by omega) (by simp; omega) ?_)
      intro v' w1' hown' hg' hv'
      have Q := nby_step (x := m % 256) hown hb hBs hown' (by simp) (by simp) hg'
      clear hown' hg' hown hb
      go_wp2
      go_roundw
      case rel => exact ⟨i + 1, m / 256, pre ++ [m % 256], by go_num, by go_num, by omega, by omega, by simp; omega, R, Q.1, Q.2⟩
      case measure => simp [intOf]; omega
    · obtain rfl : i = 8 := by omega
      have e : X.low 8 x = pre := by rw [H.out]; simp [X.low]
      have e1 : pre.length = 8 := by rw [← e, X.low_len]
      have QN : wr.ownsRow w.heap.size 5 1 u3 8 (nby (X.low 8 x)) := by rw [e]; simpa [e1] using hown
      clear hown e e1 H
      obtain ⟨A, c, rfl, _, _⟩ := own_form QN
      go_wp2
      go_ret
      exact ⟨A, c, rfl, QN, hb⟩

set_option maxHeartbeats 1000000 in
theorem rweight_any (node work : Int) (salt : Nat) (w : World) (hs : salt < 18446744073709551616) :
    Calls Try.prog 18 #[.int .i64 node, .int .i64 work, .int .u64 (salt : Int)] w fun e w' =>
      e = .returned (.int .u64 (X.weight node work salt : Nat)) ∧ Below w.heap.size w w' := by
  obtain ⟨i0, hi, hz0, hz1, hz2⟩ := info_parts Try.rowU8
  have h1 := X.wrapUn node
  have h2 := X.wrapUn work
  have l1 := X.un_lt node
  have l2 := X.un_lt work
  unfold X.weight
  generalize X.un node = a at *
  generalize X.un work = b at *
  go_enter Try.func18, Try.ntmps18
  go_wp2_with fail
  refine (eight_any a w l1).mono ?_
  rintro e w1 ⟨A1, c1, rfl, ho1, hb1⟩
  go_wp2_with fail
  refine (eight_any b w1 l2).mono ?_
  rintro e w2 ⟨A2, c2, rfl, ho2, hb2⟩
  have ho1' := own_new ho1 hb2
  have hr2 := own_rds ho2
  have hb12 := below_new hb1 hb2
  have z2 := hb12.size
  go_wp2_with (at_builtin; refine wpList_app _ rfl _ _ 50 rfl w.heap.size 5 i0 (.int .u8 0) 1 Try.underlying50 hi hz0 hz1 hz2 rfl _ _ _ rfl ho1' _ _ 8 c2 (nby (X.low 8 b)) rfl (by simp [X.low_len]) hr2 (one_byt _) (by unfold maxLen; omega) (by omega) (by omega) ?_)
  intro v3 w3 ho3 hg3 _
  have hb3 : Below w.heap.size w w3 := hb12.grown hg3 z2 fun k hk => (ho1'.lt k hk).1
  have z3 := hb3.size
  obtain ⟨N3, HN3, QN3⟩ : ∃ N, Hid (8 + 8 = N) ∧ w3.ownsRow w.heap.size 5 1 v3 N (nby (X.low 8 a) ++ nby (X.low 8 b)) := ⟨8 + 8, Lib.hid rfl, ho3⟩
  have hn3 : N3 = 16 := by have := HN3.out; omega
  have HN3' := Lib.hid hn3
  clear ho3 hg3 ho1' ho1 ho2 hr2 HN3 hn3
  obtain ⟨A3, c3, rfl, _, _⟩ := own_form QN3
  go_wp2_with fail
  refine (eight_any salt w3 hs).mono ?_
  rintro e w4 ⟨A4, c4, rfl, ho4, hb4⟩
  have QN3' := own_new QN3 hb4
  have hr4 := own_rds ho4
  have hb34 := hb3.trans (hb4.mono z3)
  have z4 := hb34.size
  go_wp2_with (at_builtin; refine wpList_app _ rfl _ _ 50 rfl w.heap.size 5 i0 (.int .u8 0) 1 Try.underlying50 hi hz0 hz1 hz2 rfl _ _ _ rfl QN3' _ _ 8 c4 (nby (X.low 8 salt)) rfl (by simp [X.low_len]) hr4 (one_byt _) (by have := HN3'.out; unfold maxLen; omega) (by have := HN3'.out; omega) (by omega) ?_)
  intro v5 w5 ho5 hg5 _
  have hb5 : Below w.heap.size w w5 := hb34.grown hg5 z4 fun k hk => (QN3'.lt k hk).1
  obtain ⟨N5, HN5, QN5⟩ : ∃ N, Hid (24 = N) ∧ w5.ownsRow w.heap.size 5 1 v5 N (nby (X.low 8 a ++ X.low 8 b ++ X.low 8 salt)) := ⟨24, Lib.hid rfl, by have := HN3'.out; subst this; simpa using ho5⟩
  clear ho5 hg5 QN3 QN3' ho4 hr4
  obtain ⟨A5, c5, rfl, _, _⟩ := own_form QN5
  have hr5 := own_rds QN5
  have hsm : Small (X.low 8 a ++ X.low 8 b ++ X.low 8 salt) := (Small.app (X.low_small 8 a) (X.low_small 8 b)).app (X.low_small 8 salt)
  go_wp2_with fail
  refine (rhash_any _ A5 N5 c5 _ w5 (by rw [← HN5.out]; simp [X.low_len]) hr5 (by simp [X.low_len]) hsm).mono ?_
  rintro e w6 ⟨rfl, rfl⟩
  go_wp2
  go_ret
  exact ⟨rfl, hb5⟩
end Go.Proofs.Ytdgmbopdommnhaa
