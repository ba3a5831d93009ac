/- Layer 5: eight bytes of a number, told by a closure, and the document's own way; the Weight. -/
import Derived.Test.YtabilkjfijljbaaMix
namespace Go.Proofs.Ytabilkjfijljbaa
open Go.ChangeShapes Go.WideShapes Go.ChangeAt Go.RowKit

/-- A byte more behind a row of the call's own, by append of a literal. -/
theorem nby_step {B : Nat} {w wr w1 : World} {l pre : List Nat} {v v' : Value} {x : Nat} {o : Obj}
    (hown : wr.ownsRow B 5 1 v (l ++ pre).length (nby (l ++ pre))) (hb : Below B w wr) (hB : B ≤ w.heap.size)
    {n' : Nat} {xs' : List Value} (hown' : w1.ownsRow B 5 1 v' n' xs') (hn : n' = (l ++ pre).length + 1) (hx : xs' = nby (l ++ pre) ++ [.int .u8 (x : Int)]) (hg : (wr.alloc o).grownBy w1 v.ownBlock) :
    w1.ownsRow B 5 1 v' (l ++ (pre ++ [x])).length (nby (l ++ (pre ++ [x]))) ∧ Below B w w1 := by
  have hs := hb.size
  constructor
  · have e1 : (l ++ (pre ++ [x])).length = (l ++ pre).length + 1 := by simp; omega
    have e2 : nby (l ++ (pre ++ [x])) = nby (l ++ pre) ++ [.int .u8 (x : Int)] := by simp
    rw [e1, e2, ← hn, ← hx]; exact hown'
  · refine (hb.alloc (by omega) o).grown hg (by simp; omega) fun k hk => (hown.lt k hk).1

theorem X.u8 (m : Nat) : IntKind.u8.wrap (m : Int) = ((m % 256 : Nat) : Int) := by simp [IntKind.wrap, IntKind.bits, IntKind.signed]

set_option maxHeartbeats 1000000 in
theorem tell_any (B p : Nat) (l : List Nat) (v : Value) (x : Nat) (w : World) (hx : x < 18446744073709551616) (hp : Blo w p 22 #[v]) (hown : w.ownsRow B 5 1 v l.length (nby l)) (hB : B ≤ p) (hl : l.length ≤ 100) :
    Calls Try.prog 15 #[.int .u64 (x : Int), .pointer (some ⟨p, 0, none⟩)] w fun e w' =>
      e = .returned (.tuple #[]) ∧ Below B w w' ∧ ∃ v', Blo w' p 22 #[v'] ∧ w'.ownsRow B 5 1 v' (l ++ X.low 8 x).length (nby (l ++ X.low 8 x)) := by
  obtain ⟨i0, hi, hz0, hz1, hz2⟩ := info_parts Try.rowU8
  have hBs : B ≤ w.heap.size := by have := hp.lt; omega
  have hown0 : w.ownsRow B 5 1 v (l ++ []).length (nby (l ++ [])) := by simpa using hown
  clear hown
  go_enter Try.func15, Try.ntmps15
  go_wp2
  go_loopw [3, 0] (fun iv nv wr => ∃ (i m : Nat) (pre : List Nat) (v : Value), iv = .int .i64 i ∧ nv = .int .u64 (m : Int) ∧ i ≤ 8 ∧ m < 18446744073709551616 ∧ pre.length ≤ i ∧ Hid (X.low 8 x = pre ++ X.low (8 - i) m) ∧ Blo wr p 22 #[v] ∧ wr.ownsRow B 5 1 v (l ++ pre).length (nby (l ++ pre)) ∧ Below B w wr) (fun iv _ _ => 8 - (intOf iv).toNat)
  case atStart => exact ⟨0, x, [], v, rfl, rfl, by omega, hx, by simp, rfl, hp, hown0, Below.refl _ _⟩
  case round =>
    obtain ⟨i, m, pre, v, rfl, rfl, hi8, hm, hpl, H, hp, hown, hb⟩ := hrel
    have hsz := hb.size
    by_cases hlt : i < 8
    · have R := Lib.hid (X.low_more hlt H.out)
      have hne := own_blo hown hp (by decide)
      obtain ⟨cp, _⟩ := var_cell hp
      have hpt := hp.lt
      have ll : (l ++ pre).length ≤ 108 := by simp; omega
      go_wp2_with (at_builtin; refine wpList_app _ rfl _ _ 22 rfl B 5 i0 (.int .u8 0) 1 Try.underlying22 hi hz0 hz1 hz2 rfl _ _ _ rfl (hown.alloc _) _ _ 1 1 [.int .u8 ((m : Int) % 256)] rfl rfl (one_rds _ _ _ _) (one_ints _ [_]) (by unfold maxLen; omega) (by omega) (by simp; omega) ?_)
      intro v' w1' hown' hg' hv'
      have Q := nby_step (x := m % 256) hown hb hBs hown' (by simp) (by simp) hg'
      obtain ⟨N, HN, QN⟩ : ∃ N, Hid ((l ++ (pre ++ [m % 256])).length = N) ∧ w1'.ownsRow B 5 1 v' N (nby (l ++ (pre ++ [m % 256]))) := ⟨_, rfl, Q.1⟩
      obtain ⟨A', c', rfl, _, _⟩ := own_form QN
      have hp1 : Blo w1' p 22 #[v] := (hp.alloc _).grown hg' (fun e => hne e.symm)
      obtain ⟨cp1, fp1⟩ := var_cell hp1
      have hp2 : Blo (w1'.setCell ⟨p, 0, none⟩ (.slice A' N c')) p 22 #[.slice A' N c'] := by simpa using hp1.put 0 (.slice A' N c')
      have hne1 := own_blo QN hp1 (by decide)
      have Q1 := own_keep (w' := w1'.setCell ⟨p, 0, none⟩ (.slice A' N c')) QN fun b hb _ => Below.heap_setCell _ _ _ _ (fun e => hne1 (by rw [hb, e]))
      have Q2 : Below B w (w1'.setCell ⟨p, 0, none⟩ (.slice A' N c')) := Q.2.trans (below_gb' (gb_set (g := p) (World.grownBy.refl w1' _) (.inl rfl) (.slice A' N c')) (by have := Q.2.size; omega) hB)
      clear hown' hg' hown hb cp hne Q QN
      go_wp2
      go_roundw
      case rel => exact ⟨i + 1, m / 256, pre ++ [m % 256], _, by go_num, by go_num, by omega, by omega, by simp; omega, R, hp2, by rw [HN.out]; exact Q1, Q2⟩
      case measure => simp [intOf]; omega
    · obtain rfl : i = 8 := by omega
      have e : X.low 8 x = pre := by rw [H.out]; simp [X.low]
      have e' := Lib.hid e
      clear e
      go_wp2
      go_end0
      refine ⟨rfl, hb, v, hp, ?_⟩
      rw [e'.out]
      exact hown

theorem X.wrapUn (n : Int) : IntKind.u64.wrap n = ((X.un n : Nat) : Int) := by
  unfold X.un
  simp only [IntKind.wrap, IntKind.bits, IntKind.signed]
  simp
  omega
/-- Nothing yet. -/
theorem own_nil (w : World) (B : Nat) : w.ownsRow B 5 1 (.slice none 0 0) 0 [] := ⟨rfl, .inl ⟨rfl, rfl⟩⟩

set_option maxHeartbeats 1000000 in
theorem weight_any (node work : Int) (salt : Nat) (w : World) (hs : salt < 18446744073709551616) :
    Calls Try.prog 9 #[.int .i64 node, .int .i64 work, .int .u64 (salt : Int)] w fun e w' =>
      e = .returned (.int .u64 (X.weight node work salt : Nat)) ∧ Below w.heap.size w w' := by
  have h1 := X.wrapUn node
  have h2 := X.wrapUn work
  have l1 := X.un_lt node
  have l2 := X.un_lt work
  unfold X.weight
  generalize X.un node = a at *
  generalize X.un work = b at *
  obtain ⟨w1, hw1⟩ : ∃ W, w.alloc (.cells #[.slice none 0 0] 22) = W := ⟨_, rfl⟩
  have hb1 : Below w.heap.size w w1 := by rw [← hw1]; exact (Below.refl _ _).alloc (Nat.le_refl _) _
  have hp1 : Blo w1 w.heap.size 22 #[.slice none 0 0] := by rw [← hw1]; exact Blo.made w _ _
  have HW := Lib.hid hw1
  clear hw1
  go_enter Try.func9, Try.ntmps9
  go_wp2_with fail
  rw [HW.out]
  refine (tell_any w.heap.size w.heap.size [] _ a w1 l1 hp1 (own_nil _ _) (Nat.le_refl _) (by simp)).mono ?_
  rintro e w2 ⟨rfl, hb2, v2, hp2, ho2⟩
  go_wp2_with fail
  refine (tell_any w.heap.size w.heap.size _ v2 b w2 l2 hp2 ho2 (Nat.le_refl _) (by simp [X.low_len])).mono ?_
  rintro e w3 ⟨rfl, hb3, v3, hp3, ho3⟩
  go_wp2_with fail
  refine (tell_any w.heap.size w.heap.size _ v3 salt w3 hs hp3 ho3 (Nat.le_refl _) (by simp [X.low_len])).mono ?_
  rintro e w4 ⟨rfl, hb4, v4, hp4, ho4⟩
  obtain ⟨N, HN, QN⟩ : ∃ N, Hid (([] ++ X.low 8 a ++ X.low 8 b ++ X.low 8 salt).length = N) ∧ w4.ownsRow w.heap.size 5 1 v4 N (nby ([] ++ X.low 8 a ++ X.low 8 b ++ X.low 8 salt)) := ⟨([] ++ X.low 8 a ++ X.low 8 b ++ X.low 8 salt).length, Lib.hid rfl, ho4⟩
  obtain ⟨A4, c4, rfl, _, _⟩ := own_form QN
  obtain ⟨cp, _⟩ := var_cell hp4
  have hr := own_rds QN
  have hall := hb1.trans (hb2.trans (hb3.trans hb4))
  have hsm : Small ([] ++ X.low 8 a ++ X.low 8 b ++ X.low 8 salt) := ((Small.app (l := []) (by intro c hc; cases hc) (X.low_small 8 a)).app (X.low_small 8 b)).app (X.low_small 8 salt)
  clear hp1 hp2 hp3 ho2 ho3 ho4 hb1 hb2 hb3 hb4
  go_wp2_with fail
  refine (hash_any _ A4 N c4 _ w4 HN.out.symm hr (by simp [X.low_len]) hsm).mono ?_
  rintro e w5 ⟨rfl, rfl⟩
  go_wp2
  go_ret
  exact ⟨rfl, hall⟩

set_option maxHeartbeats 1000000 in
theorem eight_any (x : Nat) (w : World) (hx : x < 18446744073709551616) :
    Calls Try.prog 16 #[.int .u64 (x : Int)] w fun e w' =>
      ∃ A c, e = .returned (.slice A 8 c) ∧ w'.ownsRow w.heap.size 5 1 (.slice A 8 c) 8 (nby (X.low 8 x)) ∧ Below w.heap.size w w' := by
  obtain ⟨i0, hi, hz0, hz1, hz2⟩ := info_parts Try.rowU8
  have hBs := Nat.le_refl w.heap.size
  go_enter Try.func16, Try.ntmps16
  go_wp2
  go_loopw [4, 0, 3] (fun iv nv v wr => ∃ (i m : Nat) (pre : List Nat), iv = .int .i64 i ∧ nv = .int .u64 (m : Int) ∧ i ≤ 8 ∧ m < 18446744073709551616 ∧ pre.length ≤ i ∧ Hid (X.low 8 x = pre ++ X.low (8 - i) m) ∧ wr.ownsRow w.heap.size 5 1 v ([] ++ pre).length (nby ([] ++ pre)) ∧ Below w.heap.size w wr) (fun iv _ _ _ => 8 - (intOf iv).toNat)
  case atStart => exact ⟨0, x, [], rfl, rfl, by omega, hx, by simp, rfl, own_nil _ _, Below.refl _ _⟩
  case round =>
    obtain ⟨i, m, pre, rfl, rfl, hi8, hm, hpl, H, hown, hb⟩ := hrel
    have hsz := hb.size
    by_cases hlt : i < 8
    · have R := Lib.hid (X.low_more hlt H.out)
      have ll : ([] ++ pre).length ≤ 108 := by simp; omega
      go_wp2_with (at_builtin; refine wpList_app _ rfl _ _ 22 rfl w.heap.size 5 i0 (.int .u8 0) 1 Try.underlying22 hi hz0 hz1 hz2 rfl _ _ _ rfl (hown.alloc _) _ _ 1 1 [.int .u8 ((m : Int) % 256)] rfl rfl (one_rds _ _ _ _) (one_ints _ [_]) (by unfold maxLen; omega) (by omega) (by simp; omega) ?_)
      intro v' w1' hown' hg' hv'
      have Q := nby_step (x := m % 256) hown hb hBs hown' (by simp) (by simp) hg'
      clear hown' hg' hown hb
      go_wp2
      go_roundw
      case rel => exact ⟨i + 1, m / 256, pre ++ [m % 256], by go_num, by go_num, by omega, by omega, by simp; omega, R, Q.1, Q.2⟩
      case measure => simp [intOf]; omega
    · obtain rfl : i = 8 := by omega
      have e : X.low 8 x = pre := by rw [H.out]; simp [X.low]
      have e1 : pre.length = 8 := by rw [← e, X.low_len]
      have QN : wr.ownsRow w.heap.size 5 1 u3 8 (nby (X.low 8 x)) := by rw [e]; simpa [e1] using hown
      clear hown e e1 H
      obtain ⟨A, c, rfl, _, _⟩ := own_form QN
      go_wp2
      go_ret
      exact ⟨A, c, rfl, QN, hb⟩

theorem own_new {w w' : World} {base : Nat} {t : TypeId} {v : Value} {n : Nat} {xs : List Value} (h : w.ownsRow base t 1 v n xs) (hb : Below w.heap.size w w') : w'.ownsRow base t 1 v n xs := own_keep h fun g _ hl => hb.block g hl

set_option maxHeartbeats 1000000 in
theorem rweight_any (node work : Int) (salt : Nat) (w : World) (hs : salt < 18446744073709551616) :
    Calls Try.prog 10 #[.int .i64 node, .int .i64 work, .int .u64 (salt : Int)] w fun e w' =>
      e = .returned (.int .u64 (X.weight node work salt : Nat)) ∧ Below w.heap.size w w' := by
  obtain ⟨i0, hi, hz0, hz1, hz2⟩ := info_parts Try.rowU8
  have h1 := X.wrapUn node
  have h2 := X.wrapUn work
  have l1 := X.un_lt node
  have l2 := X.un_lt work
  unfold X.weight
  generalize X.un node = a at *
  generalize X.un work = b at *
  go_enter Try.func10, Try.ntmps10
  go_wp2_with fail
  refine (eight_any a w l1).mono ?_
  rintro e w1 ⟨A1, c1, rfl, ho1, hb1⟩
  go_wp2_with fail
  refine (eight_any b w1 l2).mono ?_
  rintro e w2 ⟨A2, c2, rfl, ho2, hb2⟩
  have ho1' := own_new ho1 hb2
  have hr2 := own_rds ho2
  have hb12 := below_new hb1 hb2
  have z2 := hb12.size
  go_wp2_with (at_builtin; refine wpList_app _ rfl _ _ 22 rfl w.heap.size 5 i0 (.int .u8 0) 1 Try.underlying22 hi hz0 hz1 hz2 rfl _ _ _ rfl ho1' _ _ 8 c2 (nby (X.low 8 b)) rfl (by simp [X.low_len]) hr2 (one_byt _) (by unfold maxLen; omega) (by omega) (by omega) ?_)
  intro v3 w3 ho3 hg3 _
  have hb3 : Below w.heap.size w w3 := hb12.grown hg3 z2 fun k hk => (ho1'.lt k hk).1
  have z3 := hb3.size
  obtain ⟨N3, HN3, QN3⟩ : ∃ N, Hid (8 + 8 = N) ∧ w3.ownsRow w.heap.size 5 1 v3 N (nby (X.low 8 a) ++ nby (X.low 8 b)) := ⟨8 + 8, Lib.hid rfl, ho3⟩
  have hn3 : N3 = 16 := by have := HN3.out; omega
  have HN3' := Lib.hid hn3
  clear ho3 hg3 ho1' ho1 ho2 hr2 HN3 hn3
  obtain ⟨A3, c3, rfl, _, _⟩ := own_form QN3
  go_wp2_with fail
  refine (eight_any salt w3 hs).mono ?_
  rintro e w4 ⟨A4, c4, rfl, ho4, hb4⟩
  have QN3' := own_new QN3 hb4
  have hr4 := own_rds ho4
  have hb34 := hb3.trans (hb4.mono z3)
  have z4 := hb34.size
  go_wp2_with (at_builtin; refine wpList_app _ rfl _ _ 22 rfl w.heap.size 5 i0 (.int .u8 0) 1 Try.underlying22 hi hz0 hz1 hz2 rfl _ _ _ rfl QN3' _ _ 8 c4 (nby (X.low 8 salt)) rfl (by simp [X.low_len]) hr4 (one_byt _) (by have := HN3'.out; unfold maxLen; omega) (by have := HN3'.out; omega) (by omega) ?_)
  intro v5 w5 ho5 hg5 _
  have hb5 : Below w.heap.size w w5 := hb34.grown hg5 z4 fun k hk => (QN3'.lt k hk).1
  obtain ⟨N5, HN5, QN5⟩ : ∃ N, Hid (24 = N) ∧ w5.ownsRow w.heap.size 5 1 v5 N (nby (X.low 8 a ++ X.low 8 b ++ X.low 8 salt)) := ⟨24, Lib.hid rfl, by have := HN3'.out; subst this; simpa using ho5⟩
  clear ho5 hg5 QN3 QN3' ho4 hr4
  obtain ⟨A5, c5, rfl, _, _⟩ := own_form QN5
  have hr5 := own_rds QN5
  have hsm : Small (X.low 8 a ++ X.low 8 b ++ X.low 8 salt) := (Small.app (X.low_small 8 a) (X.low_small 8 b)).app (X.low_small 8 salt)
  go_wp2_with fail
  refine (rhash_any _ A5 N5 c5 _ w5 (by rw [← HN5.out]; simp [X.low_len]) hr5 (by simp [X.low_len]) hsm).mono ?_
  rintro e w6 ⟨rfl, rfl⟩
  go_wp2
  go_ret
  exact ⟨rfl, hb5⟩
end Go.Proofs.Ytabilkjfijljbaa
