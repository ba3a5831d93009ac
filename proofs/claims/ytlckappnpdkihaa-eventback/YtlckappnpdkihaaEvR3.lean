/- Layer 7, the program's reader: through a policy, through what is removed. -/
import Derived.Test.YtlckappnpdkihaaEvR2
namespace Go.Proofs.Ytlckappnpdkihaa
set_option linter.unusedVariables false
set_option linter.unusedSimpArgs false
open Go.ChangeShapes Go.WideShapes Go.ChangeAt Go.RowKit

/-- An event's numbers with a policy that was read. -/
def polF (F : Nat → Int) (st : D.St) : Nat → Int := fun j => if 6 ≤ j ∧ j < 13 then E.itV st (j - 6) else F j
theorem rnume_any {g h gr ge k : Nat} {F : Nat → Int} {A : Option Addr} {n c : Nat} {st : D.St} {w : World} (hst : st.2 = 0) (hR : Rde w g h gr st) (hB : Blo w ge 28 (ecs F A n c)) (hk : k < 13) (hbg : ge ≠ g) (hbh : ge ≠ h) (hbr : ge ≠ gr) :
    Calls Try.prog 62 #[.pointer (some ⟨gr, 0, none⟩), .pointer (some ⟨ge, k, none⟩)] w (Rpost g h gr ge (D.nxt st).2 (fun w' => Blo w' ge 28 (ecs (updE F k (D.nxt st).1) A n c)) w) := by
  have := rnumb_any (k := k) hst hR hB (by simp; omega) hbg hbh hbr
  rw [ecs_set F A n c hk] at this
  exact this

set_option maxRecDepth 100000 in
set_option maxHeartbeats 4000000 in
theorem rpolicy_any {g h gr ge : Nat} {F : Nat → Int} {A : Option Addr} {n c : Nat} {st : D.St} {w : World} (hst : st.2 = 0) (hR : Rde w g h gr st) (hB : Blo w ge 28 (ecs F A n c)) (hbg : ge ≠ g) (hbh : ge ≠ h) (hbr : ge ≠ gr) :
    Calls Try.prog 71 #[.pointer (some ⟨ge, 6, none⟩), rdo gr] w (Rpost g h gr ge (E.itS st 7) (fun w' => Blo w' ge 28 (ecs (polF F st) A n c)) w) := by
  have T0 := Two.refl g ge w
  have R0 : Rde w g h gr (E.itS st 0) := hR
  have B0 := hB
  have h0 : (E.itS st 0).2 = 0 := hst
  clear hR hB hst
  go_enter Try.func71, Try.ntmps71
  go_wp2_with fail
  refine (rnume_any (k := 6) h0 R0 B0 (by omega) hbg hbh hbr).mono ?_
  rintro e w1 ⟨T1', hok⟩
  have T1 := T0.trans T1'
  rcases hok with ⟨h1, rfl, R1, B1⟩ | ⟨h1, rfl⟩
  rotate_left
  · have E2 := Lib.hid (itS_err' (s := st) (k := 1) (m := 7) h1 (by omega))
    have H1 := Lib.hid h1
    clear h0 h1
    go_wp2
    refine ⟨rfl, T1, .inr ?_⟩
    rw [E2.out]
    exact ⟨H1.out, rfl⟩
  clear R0 B0 T0 T1'
  go_wp2_with fail
  refine (rnume_any (k := 7) h1 R1 B1 (by omega) hbg hbh hbr).mono ?_
  rintro e w2 ⟨T2', hok⟩
  have T2 := T1.trans T2'
  rcases hok with ⟨h2, rfl, R2, B2⟩ | ⟨h2, rfl⟩
  rotate_left
  · have E2 := Lib.hid (itS_err' (s := st) (k := 2) (m := 7) h2 (by omega))
    have H1 := Lib.hid h2
    clear h1 h2
    go_wp2
    refine ⟨rfl, T2, .inr ?_⟩
    rw [E2.out]
    exact ⟨H1.out, rfl⟩
  clear R1 B1 T1 T2'
  go_wp2_with fail
  refine (rnume_any (k := 8) h2 R2 B2 (by omega) hbg hbh hbr).mono ?_
  rintro e w3 ⟨T3', hok⟩
  have T3 := T2.trans T3'
  rcases hok with ⟨h3, rfl, R3, B3⟩ | ⟨h3, rfl⟩
  rotate_left
  · have E2 := Lib.hid (itS_err' (s := st) (k := 3) (m := 7) h3 (by omega))
    have H1 := Lib.hid h3
    clear h2 h3
    go_wp2
    refine ⟨rfl, T3, .inr ?_⟩
    rw [E2.out]
    exact ⟨H1.out, rfl⟩
  clear R2 B2 T2 T3'
  go_wp2_with fail
  refine (rnume_any (k := 9) h3 R3 B3 (by omega) hbg hbh hbr).mono ?_
  rintro e w4 ⟨T4', hok⟩
  have T4 := T3.trans T4'
  rcases hok with ⟨h4, rfl, R4, B4⟩ | ⟨h4, rfl⟩
  rotate_left
  · have E2 := Lib.hid (itS_err' (s := st) (k := 4) (m := 7) h4 (by omega))
    have H1 := Lib.hid h4
    clear h3 h4
    go_wp2
    refine ⟨rfl, T4, .inr ?_⟩
    rw [E2.out]
    exact ⟨H1.out, rfl⟩
  clear R3 B3 T3 T4'
  go_wp2_with fail
  refine (rnume_any (k := 10) h4 R4 B4 (by omega) hbg hbh hbr).mono ?_
  rintro e w5 ⟨T5', hok⟩
  have T5 := T4.trans T5'
  rcases hok with ⟨h5, rfl, R5, B5⟩ | ⟨h5, rfl⟩
  rotate_left
  · have E2 := Lib.hid (itS_err' (s := st) (k := 5) (m := 7) h5 (by omega))
    have H1 := Lib.hid h5
    clear h4 h5
    go_wp2
    refine ⟨rfl, T5, .inr ?_⟩
    rw [E2.out]
    exact ⟨H1.out, rfl⟩
  clear R4 B4 T4 T5'
  go_wp2_with fail
  refine (rnume_any (k := 11) h5 R5 B5 (by omega) hbg hbh hbr).mono ?_
  rintro e w6 ⟨T6', hok⟩
  have T6 := T5.trans T6'
  rcases hok with ⟨h6, rfl, R6, B6⟩ | ⟨h6, rfl⟩
  rotate_left
  · have E2 := Lib.hid (itS_err' (s := st) (k := 6) (m := 7) h6 (by omega))
    have H1 := Lib.hid h6
    clear h5 h6
    go_wp2
    refine ⟨rfl, T6, .inr ?_⟩
    rw [E2.out]
    exact ⟨H1.out, rfl⟩
  clear R5 B5 T5 T6'
  go_wp2_with fail
  refine (rnume_any (k := 12) h6 R6 B6 (by omega) hbg hbh hbr).mono ?_
  rintro e w7 ⟨T7', hok⟩
  have T7 := T6.trans T7'
  rcases hok with ⟨h7, rfl, R7, B7⟩ | ⟨h7, rfl⟩
  rotate_left
  · have E2 := Lib.hid (itS_err' (s := st) (k := 7) (m := 7) h7 (by omega))
    have H1 := Lib.hid h7
    clear h6 h7
    go_wp2
    refine ⟨rfl, T7, .inr ?_⟩
    exact ⟨H1.out, rfl⟩
  clear R6 B6 T6 T7'
  have H7 := Lib.hid h7
  clear h0 h1 h2 h3 h4 h5 h6 h7
  go_wp2
  go_end0
  refine ⟨T7, .inl ⟨H7.out, rfl, R7, ?_⟩⟩
  rw [ecs_congr (G := polF F st)] at B7
  · exact B7
  · intro j hj
    by_cases h6 : 6 ≤ j
    · obtain rfl | rfl | rfl | rfl | rfl | rfl | rfl : j = 6 ∨ j = 7 ∨ j = 8 ∨ j = 9 ∨ j = 10 ∨ j = 11 ∨ j = 12 := by omega
      all_goals simp [updE, polF, E.itV, E.itS]
    · have : ¬ (6 ≤ j ∧ j < 13) := by omega
      unfold polF
      rw [if_neg this]
      simp only [updE]
      rw [if_neg (by omega), if_neg (by omega), if_neg (by omega), if_neg (by omega), if_neg (by omega), if_neg (by omega), if_neg (by omega)]

/-- A row of dots that is filled one by one. -/
structure Fill (w : World) (b n : Nat) (M : List D.Dot) : Prop where
  ex : ∃ cur, Blo w b 23 cur ∧ cur.size = n * 2 ∧ cur.toList.take (M.length * 2) = dvs M
theorem Fill.row {w : World} {B b n : Nat} {M : List D.Dot} (h : Fill w b n M) (hn : M.length = n) (hb : B ≤ b) (hm : n ≤ maxLen) : DRow w B (.slice (some ⟨b, 0, none⟩) n n) M := by
  obtain ⟨cur, h1, h2, h3⟩ := h.ex
  subst hn
  exact ⟨dvs_len M, .inr ⟨b, M.length, cur, rfl, hb, h1, Nat.le_refl _, hm, h2, h3⟩⟩
theorem take_two {cur : Array Value} {M : List D.Dot} {x y : Int} (h : cur.toList.take (M.length * 2) = dvs M) (hs : M.length * 2 + 1 < cur.size) :
    (((cur.setIfInBounds (M.length * 2) (.int .i64 x)).setIfInBounds (M.length * 2 + 1) (.int .i64 y)).toList.take ((M ++ [(x, y)]).length * 2)) = dvs (M ++ [(x, y)]) := by
  have hl : (dvs M).length = M.length * 2 := dvs_len M
  have e : (M ++ [(x, y)]).length * 2 = M.length * 2 + 1 + 1 := by simp; omega
  rw [e, dvs_app, Array.toList_setIfInBounds, Array.toList_setIfInBounds]
  refine List.ext_getElem? fun i => ?_
  rw [List.getElem?_take]
  by_cases hi : i < M.length * 2
  · rw [if_pos (by omega), List.getElem?_set_ne (by omega), List.getElem?_set_ne (by omega), List.getElem?_append_left (by omega), ← h, List.getElem?_take, if_pos hi]
  · rw [List.getElem?_append_right (by omega), hl]
    obtain rfl | rfl | h3 : i = M.length * 2 ∨ i = M.length * 2 + 1 ∨ M.length * 2 + 1 + 1 ≤ i := by omega
    · rw [if_pos (by omega), List.getElem?_set_ne (by omega), List.getElem?_set_self (by simpa using (by omega : M.length * 2 < cur.size))]
      simp [dvs]
    · rw [if_pos (by omega), List.getElem?_set_self (by simp; omega)]
      have : M.length * 2 + 1 - M.length * 2 = 1 := by omega
      rw [this]
      simp [dvs]
    · rw [if_neg (by omega), List.getElem?_eq_none (by simp [dvs]; omega)]

theorem Try.rowDot2 : (Try.prog.info? 23).map (fun i => (i.zero, i.size, i.bytes)) = some (some (.agg #[.int .i64 0, .int .i64 0]), 2, 16) := by kernel_rfl
def RemQ (ge B : Nat) (F : Nat → Int) (M : List D.Dot) (w' : World) : Prop := ∃ A c, Blo w' ge 28 (ecs F A M.length c) ∧ DRow w' B (.slice A M.length c) M

set_option maxRecDepth 100000 in
set_option maxHeartbeats 8000000 in
theorem rrem_any {g h gr ge : Nat} {F : Nat → Int} {st : D.St} {w : World} (hst : st.2 = 0) (hR : Rde w g h gr st) (hE : Blo w ge 28 (ecs F none 0 0)) (hbg : ge ≠ g) (hbh : ge ≠ h) (hbr : ge ≠ gr) :
    Calls Try.prog 72 #[.pointer (some ⟨ge, 0, none⟩), rdo gr] w
      (Rpost g h gr ge (D.rdM (D.nxt st).1.toNat (E.cutS (D.nxt st).1 (D.nxt st).2)).2 (RemQ ge w.heap.size F (D.rdM (D.nxt st).1.toNat (E.cutS (D.nxt st).1 (D.nxt st).2)).1) w) := by
  have hgl := hR.rd.lt
  have hhl := hR.rd.lth
  have hrl := hR.me.lt
  have hel := hE.lt
  have hpos : 0 ≤ (D.nxt st).1 := nxt_pos hR.rd.2.2.1
  obtain ⟨w1, hw1⟩ : ∃ W, w.alloc (.cells #[.int .i64 0] 3) = W := ⟨_, rfl⟩
  obtain ⟨q, hq⟩ : ∃ q, q = w.heap.size := ⟨_, rfl⟩
  have hb1 : Below w.heap.size w w1 := by rw [← hw1]; exact b_alloc _ _
  have hC : Blo w1 q 3 #[.int .i64 0] := by rw [← hw1, hq]; exact Blo.made _ _ _
  have z13 : w.cell? ⟨ge, 13, none⟩ = some (.slice none 0 0) := by simpa using hE.cell 13
  have hE1 := hE.new hb1
  have hR1 := hR.new hb1
  have hT1 : Two g ge w w1 := Two.of_new _ _ hb1
  have hnum := rnumb_any (k := 0) hst hR1 hC (by simp) (by omega) (by omega) (by omega)
  obtain ⟨N, hN⟩ : ∃ N, N = (D.nxt st).1 := ⟨_, rfl⟩
  obtain ⟨s, hs⟩ : ∃ s, s = (D.nxt st).2 := ⟨_, rfl⟩
  rw [← hN, ← hs] at hnum ⊢
  rw [← hN] at hpos
  obtain ⟨R, hRR⟩ : ∃ R, R = D.rdM N.toNat (E.cutS N s) := ⟨_, rfl⟩
  rw [← hRR]
  have HRR := Lib.hid hRR
  clear hRR
  have HW := Lib.hid hw1
  have HQ := Lib.hid hq
  have hqs : w.heap.size ≤ q := by omega
  have hqe : ge ≠ q := by omega
  clear hw1 hq hN hs hst
  go_enter Try.func72, Try.ntmps72
  go_wp2_with fail
  rw [HW.out, ← HQ.out]
  refine hnum.mono ?_
  rintro e w2 ⟨hT2', hok⟩
  have hT2 : Two g ge w w2 := hT1.other hT2' hqs
  rcases hok with ⟨h0, rfl, hR2, hC2⟩ | ⟨h0, rfl⟩
  rotate_left
  · have HR : Hid (R = ([], s)) := Lib.hid (by rw [HRR.out]; exact rem_err h0)
    have H0 := Lib.hid h0
    clear h0 hnum z13
    go_wp2
    refine ⟨rfl, hT2, .inr ?_⟩
    rw [HR.out]
    exact ⟨H0.out, rfl⟩
  have hE2 := hT2'.blo hE1 hbg hqe
  have hC2' : Blo w2 q 3 #[.int .i64 N] := by simpa using hC2
  have c2 : w2.cell? ⟨q, 0, none⟩ = some (.int .i64 N) := by simpa using hC2'.cell 0
  have z2 : w2.cell? ⟨ge, 13, none⟩ = some (.slice none 0 0) := by simpa using hE2.cell 13
  have H0 := Lib.hid h0
  clear h0 hnum z13 hE1 hR1 hT1 hC hC2 hT2'
  by_cases h96 : 96 < N
  · have d96 : decide (N ≤ 96) = false := by simpa using h96
    have HR : Hid (R = ([], (s.1, 6))) := Lib.hid (by rw [HRR.out]; exact rem_long H0.out h96)
    go_wp2_with fail
    refine (eneed_no _ _).mono ?_
    rintro e w3 ⟨rfl, rfl⟩
    go_wp2
    refine ⟨rfl, hT2, .inr ?_⟩
    rw [HR.out]
    exact ⟨by simp, rfl⟩
  have d96 : decide (N ≤ 96) = true := by simp; omega
  have hcut : E.cutS N s = s := rem_ok h96
  obtain ⟨n, hn⟩ : ∃ n : Nat, N = (n : Int) := ⟨N.toNat, by omega⟩
  subst hn
  have hn96 : n ≤ 96 := by omega
  have HS : Hid (Sof R n [] s) := Lib.hid (Sof.start (by rw [HRR.out, hcut, show ((n : Int)).toNat = n by omega]))
  clear hcut h96 hpos HRR
  go_wp2_with fail
  refine (eneed_yes _ _).mono ?_
  rintro e w3 ⟨rfl, rfl⟩
  rcases Nat.eq_zero_or_pos n with rfl | hpos
  · have hnn : ¬ (0 : Int) < ((0 : Nat) : Int) := by omega
    have HR : Hid (R = ([], s)) := Lib.hid (HS.out.done (by simp))
    go_wp2_with fail
    go_quiet (fail)
    obtain ⟨w4, hd4, hw4⟩ : ∃ W, Drew w2 W ∧ w2.drewN nq = W := ⟨_, ⟨nq, rfl⟩, rfl⟩
    rw [hw4]
    have hb4 : Below w2.heap.size w2 w4 := hd4.below _
    have hE4 := hE2.new hb4
    have hR4 := hR2.new hb4
    have hT4 := hT2.trans (Two.of_new _ _ hb4)
    have z4 : w4.cell? ⟨ge, 13, none⟩ = some (.slice none 0 0) := by simpa using hE4.cell 13
    clear hw4 hd4 hb4 z2 c2 hE2 hR2 hT2
    go_wp2_with fail
    go_loopw [33] (fun iv wr => iv = .int .i64 0 ∧ wr = w4) (fun iv _ => 0)
    case atStart => exact ⟨rfl, rfl⟩
    case round =>
      obtain ⟨rfl, rfl⟩ := hrel
      go_wp2
      go_end0
      refine ⟨hT4, .inl ⟨?_, rfl, ?_, ?_⟩⟩
      · rw [HR.out]; exact H0.out
      · rw [HR.out]; exact hR4
      · rw [HR.out]; exact ⟨none, 0, by simpa using hE4, DRow.nil _ _⟩
  · have hnn : (0 : Int) < (n : Int) := by omega
    obtain ⟨i0, hi, hz0, hz1, hz2⟩ := info_parts Try.rowDot2
    go_wp2_with fail
    go_quiet (fail)
    obtain ⟨w4, hd4, hw4⟩ : ∃ W, Drew w2 W ∧ w2.drewN nq = W := ⟨_, ⟨nq, rfl⟩, rfl⟩
    rw [hw4]
    have hb4 : Below w2.heap.size w2 w4 := hd4.below _
    have hE4 := hE2.new hb4
    have hR4 := hR2.new hb4
    have hT4 := hT2.trans (Two.of_new _ _ hb4)
    have c4 : w4.cell? ⟨q, 0, none⟩ = some (.int .i64 (n : Int)) := by simpa using (hC2'.new hb4).cell 0
    clear hw4 hd4 hb4 z2 c2 hE2 hR2 hT2 hC2'
    have hs4 := hT4.size
    go_wp2_with (at_make; refine wpList_make_full _ rfl _ _ 26 rfl w4.heap.size 23 i0 (.agg #[.int .i64 0, .int .i64 0]) 2 Try.underlying26 hi hz0 hz1 _ _ _ _ n rfl rfl rfl rfl (by rw [hz2]; omega) (by unfold maxLen; omega) (Nat.le_refl _) ?_)
    intro w5 hown5 hg5
    have hb5 : Below w4.heap.size w4 w5 := below_gb hg5
    have hE5 := hE4.new hb5
    have hR5 := hR4.new hb5
    have hT5 := hT4.trans (Two.of_new _ _ hb5)
    obtain ⟨rb, hrb⟩ : ∃ rb, rb = w4.heap.size := ⟨_, rfl⟩
    have hF5 : Fill w5 rb n [] := by
      rcases hown5.2 with ⟨h1, _⟩ | ⟨g', cap, cur, h1, _, hh, _, _, hsz, _⟩
      · cases h1
      · injection h1 with e1 e2 e3
        injection e1 with e1
        injection e1 with e1
        subst e1; subst e3
        exact ⟨cur, by rw [hrb]; exact hh, hsz, by simp [dvs]⟩
    have hrs : rb < w5.heap.size := by
      obtain ⟨cur, h1, _⟩ := hF5.ex
      exact h1.lt
    have hrbs : w.heap.size ≤ rb := by omega
    rw [← hrb]
    have HRB := Lib.hid hrb
    have z5 : w5.cell? ⟨ge, 13, none⟩ = some (.slice none 0 0) := by simpa using hE5.cell 13
    have f5 := hE5.frozen 13
    have hrge : ge ≠ rb := by omega
    have hg6 : w5.grownBy (w5.setCell ⟨ge, 13, none⟩ (.slice (some ⟨rb, 0, none⟩) n n)) (some ge) := gb_set (World.grownBy.refl _ _) (.inl rfl) _
    have hE6 := hE5.put 13 (.slice (some ⟨rb, 0, none⟩) n n)
    rw [ecs_more] at hE6
    have hR6 := hR5.grown hg6 hbg hbh hbr
    have hT6 := hT5.trans (Two.of_b g hg6)
    have hF6 : Fill (w5.setCell ⟨ge, 13, none⟩ (.slice (some ⟨rb, 0, none⟩) n n)) rb n [] := by
      obtain ⟨cur, h1, h2, h3⟩ := hF5.ex
      exact ⟨cur, h1.grown hg6 (fun e => by injection e with e; omega), h2, h3⟩
    obtain ⟨w6, hw6⟩ : ∃ W, w5.setCell ⟨ge, 13, none⟩ (.slice (some ⟨rb, 0, none⟩) n n) = W := ⟨_, rfl⟩
    rw [hw6] at hE6 hR6 hT6 hF6
    have z6 : w6.cell? ⟨ge, 13, none⟩ = some (.slice (some ⟨rb, 0, none⟩) n n) := by simpa using hE6.cell 13
    clear hown5 hg5 hb5 hE5 hR5 hT5 hF5 hg6 c4 hE4 hR4 hT4 hrb
    go_wp2_with fail
    go_loopw [33] (fun iv wr => ∃ (i : Nat) (M : List D.Dot) (si : D.St), iv = .int .i64 i ∧ i ≤ n ∧ M.length = i ∧ Hid (Sof R n M si) ∧ Hid (si.2 = 0) ∧ Two g ge w wr ∧ Rde wr g h gr si ∧ Blo wr ge 28 (ecs F (some ⟨rb, 0, none⟩) n n) ∧ Fill wr rb n M) (fun iv _ => n - (intOf iv).toNat)
    case atStart => exact ⟨0, [], s, rfl, by omega, rfl, HS, H0, hT6, hR6, hE6, hF6⟩
    case round =>
      obtain ⟨i, M, si, rfl, hi, hM, HSi, H0i, hTr, hRr, hEr, hFr⟩ := hrel
      by_cases hlt : i < n
      · have zr : wr.cell? ⟨ge, 13, none⟩ = some (.slice (some ⟨rb, 0, none⟩) n n) := by simpa using hEr.cell 13
        obtain ⟨cur, hB, hsz, htk⟩ := hFr.ex
        have hcall := rdot_any (k := i * 2) H0i.out hRr hB (by omega) (by omega) (by omega) (by omega)
        have HMi := Lib.hid hM
        have eoff : (⟨rb, 0, none⟩ : Addr).add (i * 2) = ⟨rb, i * 2, none⟩ := by rw [Go.Proofs.Ytlckappnpdkihaa.M.addMk]; simp
        clear z6 hM
        go_wp2_with fail
        refine Calls.mono (by first | exact hcall | (rw [eoff]; exact hcall)) ?_
        rintro e w7 ⟨hT7, hok⟩
        have hT7' : Two g ge w w7 := hTr.other hT7 hrbs
        rcases hok with ⟨h7, rfl, hR7, hB7⟩ | ⟨h7, rfl⟩
        · have hlM : M.length < n := by rw [HMi.out]; exact hlt
          have hE7 := hT7.blo hEr hbg hrge
          have hF7 : Fill w7 rb n (M ++ [(E.itV si 0, E.itV si 1)]) := ⟨_, hB7, by simpa using hsz, by
            have := take_two (x := E.itV si 0) (y := E.itV si 1) htk (by rw [HMi.out]; omega)
            rw [HMi.out] at this
            exact this⟩
          have HS7 := Lib.hid (HSi.out.more H0i.out hlM)
          have H07 := Lib.hid h7
          clear h7 hcall zr
          go_wp2
          go_roundw
          case rel => exact ⟨i + 1, M ++ [(E.itV si 0, E.itV si 1)], E.itS si 2, by go_num, by omega, by simp [HMi.out], HS7, H07, hT7', hR7, hE7, hF7⟩
          case measure => simp [intOf]; omega
        · have HR : Hid (R.2 = E.itS si 2) := Lib.hid (by
            have hlM : M.length < n := by rw [HMi.out]; exact hlt
            have := (HSi.out.more H0i.out hlM).bad (by exact h7)
            rw [this]; rfl)
          have H07 := Lib.hid h7
          clear h7 hcall zr
          go_wp2
          refine ⟨rfl, hT7', .inr ?_⟩
          rw [HR.out]
          exact ⟨H07.out, rfl⟩
      · have HR : Hid (R = (M, si)) := Lib.hid (HSi.out.done (by omega))
        have hMn : M.length = n := by omega
        have hrow := hFr.row (B := w.heap.size) hMn hrbs (by unfold maxLen; omega)
        have HMn := Lib.hid hMn
        clear hM hMn
        go_wp2
        go_end0
        refine ⟨hTr, .inl ⟨?_, rfl, ?_, ?_⟩⟩
        · rw [HR.out]; exact H0i.out
        · rw [HR.out]; exact hRr
        · rw [HR.out]
          refine ⟨some ⟨rb, 0, none⟩, n, ?_, ?_⟩
          · simp only; rw [HMn.out]; exact hEr
          · simp only; rw [HMn.out]; exact hrow
end Go.Proofs.Ytlckappnpdkihaa
