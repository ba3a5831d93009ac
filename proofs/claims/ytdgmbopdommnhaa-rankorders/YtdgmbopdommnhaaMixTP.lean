/- Layer 5, the program's: eight bytes of a number, told by a closure; the Weight. -/
import Derived.Test.YtdgmbopdommnhaaMixTl
import Derived.Test.YtdgmbopdommnhaaMixHP
namespace Go.Proofs.Ytdgmbopdommnhaa
open Go.ChangeShapes Go.WideShapes Go.ChangeAt Go.RowKit

set_option maxHeartbeats 1000000 in
theorem tell_any (B p : Nat) (l : List Nat) (v : Value) (x : Nat) (w : World) (hx : x < 18446744073709551616) (hp : Blo w p 50 #[v]) (hown : w.ownsRow B 5 1 v l.length (nby l)) (hB : B ≤ p) (hl : l.length ≤ 100) :
    Calls Try.prog 23 #[.int .u64 (x : Int), .pointer (some ⟨p, 0, none⟩)] w fun e w' =>
      e = .returned (.tuple #[]) ∧ Below B w w' ∧ ∃ v', Blo w' p 50 #[v'] ∧ w'.ownsRow B 5 1 v' (l ++ X.low 8 x).length (nby (l ++ X.low 8 x)) := by
  obtain ⟨i0, hi, hz0, hz1, hz2⟩ := info_parts Try.rowU8
  have hBs : B ≤ w.heap.size := by have := hp.lt; omega
  have hown0 : w.ownsRow B 5 1 v (l ++ []).length (nby (l ++ [])) := by simpa using hown
  clear hown
  go_enter Try.func23, Try.ntmps23
  go_wp2
  go_loopw [3, 0] (fun iv nv wr => ∃ (i m : Nat) (pre : List Nat) (v : Value), iv = .int .i64 i ∧ nv = .int .u64 (m : Int) ∧ i ≤ 8 ∧ m < 18446744073709551616 ∧ pre.length ≤ i ∧ Hid (X.low 8 x = pre ++ X.low (8 - i) m) ∧ Blo wr p 50 #[v] ∧ wr.ownsRow B 5 1 v (l ++ pre).length (nby (l ++ pre)) ∧ Below B w wr) (fun iv _ _ => 8 - (intOf iv).toNat)
  case atStart => exact ⟨0, x, [], v, rfl, rfl, by omega, hx, by simp, rfl, hp, hown0, Below.refl _ _⟩
  case round =>
    obtain ⟨i, m, pre, v, rfl, rfl, hi8, hm, hpl, H, hp, hown, hb⟩ := hrel
    have hsz := hb.size
    by_cases hlt : i < 8
    · have R := Lib.hid (X.low_more hlt H.out)
      have hne := own_blo hown hp (by decide)
      obtain ⟨cp, _⟩ := var_cell hp
      have hpt := hp.lt
      have ll : (l ++ pre).length ≤ 108 := by simp; omega
      go_wp2_with (at_builtin; refine wpList_app _ rfl _ _ 50 rfl B 5 i0 (.int .u8 0) 1 Try.underlying50 hi hz0 hz1 hz2 rfl _ _ _ rfl (hown.alloc _) _ _ 1 1 [.int .u8 ((m : Int) % 256)] rfl rfl (one_rds _ _ _ _) (one_ints _ [_]) (by unfold maxLen; omega) (by omega) (by simp; omega) ?_)
      intro v' w1' hown' hg' hv'
      have Q := nby_step (x := m % 256) hown hb hBs hown' (by simp) (by simp) hg'
      obtain ⟨N, HN, QN⟩ : ∃ N, Hid ((l ++ (pre ++ [m % 256])).length = N) ∧ w1'.ownsRow B 5 1 v' N (nby (l ++ (pre ++ [m % 256]))) := ⟨_, rfl, Q.1⟩
      obtain ⟨A', c', rfl, _, _⟩ := own_form QN
      have hp1 : Blo w1' p 50 #[v] := (hp.alloc _).grown hg' (fun e => hne e.symm)
      obtain ⟨cp1, fp1⟩ := var_cell hp1
      have hp2 : Blo (w1'.setCell ⟨p, 0, none⟩ (.slice A' N c')) p 50 #[.slice A' N c'] := by simpa using hp1.put 0 (.slice A' N c')
      have hne1 := own_blo QN hp1 (by decide)
      have Q1 := own_keep (w' := w1'.setCell ⟨p, 0, none⟩ (.slice A' N c')) QN fun b hb _ => Below.heap_setCell _ _ _ _ (fun e => hne1 (by rw [hb, e]))
      have Q2 : Below B w (w1'.setCell ⟨p, 0, none⟩ (.slice A' N c')) := Q.2.trans (below_gb' (gb_set (g := p) (World.grownBy.refl w1' _) (.inl rfl) (.slice A' N c')) (by have := Q.2.size; omega) hB)
      clear hown' hg' hown hb cp hne Q QN
      go_wp2
      go_roundw
      case rel => exact ⟨i + 1, m / 256, pre ++ [m % 256], _, by go_num, by go_num, by omega, by omega, by simp; omega, R, hp2, by rw [HN.out]; exact Q1, Q2⟩
      case measure => simp [intOf]; omega
    · obtain rfl : i = 8 := by omega
      have e : X.low 8 x = pre := by rw [H.out]; simp [X.low]
      have e' := Lib.hid e
      clear e
      go_wp2
      go_end0
      refine ⟨rfl, hb, v, hp, ?_⟩
      rw [e'.out]
      exact hown

set_option maxHeartbeats 1000000 in
theorem weight_any (node work : Int) (salt : Nat) (w : World) (hs : salt < 18446744073709551616) :
    Calls Try.prog 17 #[.int .i64 node, .int .i64 work, .int .u64 (salt : Int)] w fun e w' =>
      e = .returned (.int .u64 (X.weight node work salt : Nat)) ∧ Below w.heap.size w w' := by
  have h1 := X.wrapUn node
  have h2 := X.wrapUn work
  have l1 := X.un_lt node
  have l2 := X.un_lt work
  unfold X.weight
  generalize X.un node = a at *
  generalize X.un work = b at *
  obtain ⟨w1, hw1⟩ : ∃ W, w.alloc (.cells #[.slice none 0 0] 50) = W := ⟨_, rfl⟩
  have hb1 : Below w.heap.size w w1 := by rw [← hw1]; exact (Below.refl _ _).alloc (Nat.le_refl _) _
  have hp1 : Blo w1 w.heap.size 50 #[.slice none 0 0] := by rw [← hw1]; exact Blo.made w _ _
  have HW := Lib.hid hw1
  clear hw1
  go_enter Try.func17, Try.ntmps17
  go_wp2_with fail
  rw [HW.out]
  refine (tell_any w.heap.size w.heap.size [] _ a w1 l1 hp1 (own_nil _ _) (Nat.le_refl _) (by simp)).mono ?_
  rintro e w2 ⟨rfl, hb2, v2, hp2, ho2⟩
  go_wp2_with fail
  refine (tell_any w.heap.size w.heap.size _ v2 b w2 l2 hp2 ho2 (Nat.le_refl _) (by simp [X.low_len])).mono ?_
  rintro e w3 ⟨rfl, hb3, v3, hp3, ho3⟩
  go_wp2_with fail
  refine (tell_any w.heap.size w.heap.size _ v3 salt w3 hs hp3 ho3 (Nat.le_refl _) (by simp [X.low_len])).mono ?_
  rintro e w4 ⟨rfl, hb4, v4, hp4, ho4⟩
  obtain ⟨N, HN, QN⟩ : ∃ N, Hid (([] ++ X.low 8 a ++ X.low 8 b ++ X.low 8 salt).length = N) ∧ w4.ownsRow w.heap.size 5 1 v4 N (nby ([] ++ X.low 8 a ++ X.low 8 b ++ X.low 8 salt)) := ⟨([] ++ X.low 8 a ++ X.low 8 b ++ X.low 8 salt).length, Lib.hid rfl, ho4⟩
  obtain ⟨A4, c4, rfl, _, _⟩ := own_form QN
  obtain ⟨cp, _⟩ := var_cell hp4
  have hr := own_rds QN
  have hall := hb1.trans (hb2.trans (hb3.trans hb4))
  have hsm : Small ([] ++ X.low 8 a ++ X.low 8 b ++ X.low 8 salt) := ((Small.app (l := []) (by intro c hc; cases hc) (X.low_small 8 a)).app (X.low_small 8 b)).app (X.low_small 8 salt)
  clear hp1 hp2 hp3 ho2 ho3 ho4 hb1 hb2 hb3 hb4
  go_wp2_with fail
  refine (hash_any _ A4 N c4 _ w4 HN.out.symm hr (by simp [X.low_len]) hsm).mono ?_
  rintro e w5 ⟨rfl, rfl⟩
  go_wp2
  go_ret
  exact ⟨rfl, hall⟩

end Go.Proofs.Ytdgmbopdommnhaa
