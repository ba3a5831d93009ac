/- Layer 7, the program's reader: events. | Layer 7, the program's: GetAll. -/
import Derived.Test.YtlckappnpdkihaaEvR7
import Derived.Test.YtlckappnpdkihaaEvMem

section
namespace Go.Proofs.Ytlckappnpdkihaa
set_option linter.unusedVariables false
set_option linter.unusedSimpArgs false
open Go.ChangeShapes Go.WideShapes Go.ChangeAt Go.RowKit

/-- The loop over events: what was read so far, and what the rest comes to. -/
def Saf (R : List E.Ev × D.St) (n : Nat) (l : List E.Ev) (st : D.St) : Prop := R = (l ++ (E.rdA (n - l.length) st).1, (E.rdA (n - l.length) st).2)
theorem Saf.start {R : List E.Ev × D.St} {n : Nat} {st : D.St} (h : R = E.rdA n st) : Saf R n [] st := by unfold Saf; rw [h]; simp
theorem Saf.more {R : List E.Ev × D.St} {n : Nat} {l : List E.Ev} {st : D.St} (h : Saf R n l st) (hs : st.2 = 0) (hl : l.length < n) : Saf R n (l ++ [(E.rdF st, (E.rdL st).1)]) (E.stp st) := by
  unfold Saf at *
  have e1 : E.rdA ((n - (l ++ [(E.rdF st, (E.rdL st).1)]).length) + 1) st = ((E.rdF st, (E.rdL st).1) :: (E.rdA (n - (l ++ [(E.rdF st, (E.rdL st).1)]).length) (E.stp st)).1, (E.rdA (n - (l ++ [(E.rdF st, (E.rdL st).1)]).length) (E.stp st)).2) := by
    conv => lhs; unfold E.rdA
    rw [if_pos hs]
  rw [show n - l.length = (n - (l ++ [(E.rdF st, (E.rdL st).1)]).length) + 1 by simp; omega, e1] at h
  rw [h]
  simp
theorem Saf.done {R : List E.Ev × D.St} {n : Nat} {l : List E.Ev} {st : D.St} (h : Saf R n l st) (hl : ¬ l.length < n) : R = (l, st) := by
  unfold Saf at h
  rw [show n - l.length = 0 by omega] at h
  simpa [E.rdA] using h
theorem Saf.bad {R : List E.Ev × D.St} {n : Nat} {l : List E.Ev} {st : D.St} (h : Saf R n l st) (hs : st.2 ≠ 0) : R = (l, st) := by
  unfold Saf at h
  rw [E.rdA_bad hs] at h
  simpa using h
theorem cutA_err {n : Int} {s : D.St} (h : s.2 ≠ 0) : E.cutA n s = s := by
  unfold E.cutA D.failS
  simp [h]
theorem evs_err {n : Nat} {N : Int} {s : D.St} (h : s.2 ≠ 0) : E.rdA n (E.cutA N s) = ([], s) := by rw [cutA_err h, E.rdA_bad h]
theorem evs_long {n : Nat} {N : Int} {s : D.St} (h : s.2 = 0) (hN : 768 < N) : E.rdA n (E.cutA N s) = ([], (s.1, 6)) := by
  have e : E.cutA N s = (s.1, 6) := by unfold E.cutA D.failS; rw [if_pos hN, if_pos h]
  rw [e, E.rdA_bad (by simp)]
theorem evs_ok {N : Int} {s : D.St} (hN : ¬ 768 < N) : E.cutA N s = s := by unfold E.cutA; rw [if_neg hN]
/-- All that a reader's numbers come to. -/
def allS (st : D.St) : List E.Ev × D.St := E.rdA (D.nxt st).1.toNat (E.cutA (D.nxt st).1 (D.nxt st).2)
theorem allS_R (L : List Int) : E.allR L = allS (L, 0) := rfl

theorem Rde.keep {w w' : World} {g h gr : Nat} {st : D.St} (hr : Rde w g h gr st) (hs : w.heap.size ≤ w'.heap.size) (hk : ∀ b, b = g ∨ b = h ∨ b = gr → w'.heap[b]? = w.heap[b]?) : Rde w' g h gr st :=
  ⟨hr.rd.keep hs (hk g (.inl rfl)) (hk h (.inr (.inl rfl))), hr.me.keep (hk gr (.inr (.inr rfl)))⟩

/-- What reading events comes to. -/
def EvsGot (g h gr : Nat) (R : List E.Ev × D.St) (w : World) (e : Ending) (w' : World) : Prop :=
  w.grownBy w' (some g) ∧ ((R.2.2 = 0 ∧ ∃ A c m, e = .returned (.slice A R.1.length c) ∧ plain m = R.1 ∧ EOwn w' (fun b => w.heap.size ≤ b) w.heap.size (.slice A R.1.length c) m ∧ Rde w' g h gr R.2) ∨
    (R.2.2 ≠ 0 ∧ e = gave R.2.2))
def RaSt (g h gr : Nat) (R : List E.Ev × D.St) (w0 : World) (n i : Nat) (v : Value) (w : World) : Prop :=
  ∃ A N c m si, v = .slice A N c ∧ Hid (N = m.length ∧ m.length = i) ∧ Hid (Saf R n (plain m) si) ∧ Hid (si.2 = 0) ∧ w0.grownBy w (some g) ∧ EOwn w (fun b => w0.heap.size ≤ b) w0.heap.size (.slice A N c) m ∧ Rde w g h gr si

set_option maxRecDepth 100000 in
set_option maxHeartbeats 4000000 in
theorem revents_any {g h gr : Nat} {st : D.St} {w : World} (hst : st.2 = 0) (hR : Rde w g h gr st) :
    Calls Try.prog 51 #[.pointer (some ⟨gr, 0, none⟩)] w (EvsGot g h gr (allS st) w) := by
  have hgl := hR.rd.lt
  have hhl := hR.rd.lth
  have hrl := hR.me.lt
  have hpos : 0 ≤ (D.nxt st).1 := nxt_pos hR.rd.2.2.1
  obtain ⟨w1, hw1⟩ : ∃ W, w.alloc (.cells #[.int .i64 0] 3) = W := ⟨_, rfl⟩
  obtain ⟨q, hq⟩ : ∃ q, q = w.heap.size := ⟨_, rfl⟩
  have hb1 : Below w.heap.size w w1 := by rw [← hw1]; exact b_alloc _ _
  have hC : Blo w1 q 3 #[.int .i64 0] := by rw [← hw1, hq]; exact Blo.made _ _ _
  have hR1 := hR.new hb1
  have hnum := rnumb_any (k := 0) hst hR1 hC (by simp) (by omega) (by omega) (by omega)
  obtain ⟨R, hRR⟩ : ∃ R, R = allS st := ⟨_, rfl⟩
  rw [← hRR]
  unfold allS at hRR
  obtain ⟨N, hN⟩ : ∃ N, N = (D.nxt st).1 := ⟨_, rfl⟩
  obtain ⟨s, hs⟩ : ∃ s, s = (D.nxt st).2 := ⟨_, rfl⟩
  rw [← hN, ← hs] at hnum hRR
  rw [← hN] at hpos
  have HRR := Lib.hid hRR
  clear hRR
  have HW := Lib.hid hw1
  have HQ := Lib.hid hq
  have hqs : w.heap.size ≤ q := by omega
  clear hw1 hq hN hs hst hR1 hC
  go_enter Try.func51, Try.ntmps51
  go_wp2_with fail
  rw [HW.out, ← HQ.out]
  refine hnum.mono ?_
  rintro e w2 ⟨hT2, hok⟩
  have hg2 : w.grownBy w2 (some g) := Two.gb (gb_below hb1 _) hT2 hqs
  rcases hok with ⟨h0, rfl, hR2, hC2⟩ | ⟨h0, rfl⟩
  rotate_left
  · have HR : Hid (R = ([], s)) := Lib.hid (by rw [HRR.out]; exact evs_err h0)
    have H0 := Lib.hid h0
    clear h0 hnum
    go_wp2
    refine ⟨rfl, hg2, .inr ?_⟩
    rw [HR.out]
    exact ⟨H0.out, rfl⟩
  have c2 : w2.cell? ⟨q, 0, none⟩ = some (.int .i64 N) := by simpa using hC2.cell 0
  have H0 := Lib.hid h0
  clear h0 hnum hT2 hC2
  by_cases h768 : 768 < N
  · have h1 : ¬ N ≤ 768 := by omega
    have h2 : decide (N ≤ 768) = false := decide_eq_false h1
    have HR : Hid (R = ([], (s.1, 6))) := Lib.hid (by rw [HRR.out]; exact evs_long H0.out h768)
    go_wp2_with fail
    refine (eneed_no _ _).mono ?_
    rintro e w3 ⟨rfl, rfl⟩
    go_wp2
    refine ⟨rfl, hg2, .inr ?_⟩
    rw [HR.out]
    exact ⟨by simp, rfl⟩
  have h1 : N ≤ 768 := by omega
  have h2 : decide (N ≤ 768) = true := decide_eq_true h1
  obtain ⟨n, rfl⟩ := Int.eq_ofNat_of_zero_le hpos
  have HS : Hid (Saf R n [] s) := Lib.hid (Saf.start (by rw [HRR.out, evs_ok h768]; simp))
  have hn : n ≤ 768 := by omega
  clear h768
  go_wp2_with fail
  refine (eneed_yes _ _).mono ?_
  rintro e w3 ⟨rfl, rfl⟩
  go_wp2_with fail
  go_loopw [4, 11] (fun ov iv wr => ∃ i : Nat, iv = .int .i64 i ∧ i ≤ n ∧ RaSt g h gr R w n i ov wr) (fun _ iv _ => n - (intOf iv).toNat)
  case atStart => exact ⟨0, rfl, by omega, none, 0, 0, [], s, rfl, Lib.hid ⟨rfl, rfl⟩, HS, H0, hg2, EOwn.nil _ _ _, hR2⟩
  case round =>
    obtain ⟨i, rfl, hi, Ao, No, co, m, si, rfl, HNo, HSi, H0i, hgr, hO, hRr⟩ := hrel
    by_cases hlt : i < n
    · have hev := revent_any H0i.out hRr
      have hlm : (plain m).length < n := by rw [plain_len, HNo.out.2]; exact hlt
      have HM := Lib.hid (HSi.out.more H0i.out hlm)
      have HMb := Lib.hid (fun hh => (HSi.out.more H0i.out hlm).bad hh)
      have hszr := hgr.size
      have hm96 := rdL_len si
      unfold EvGot at hev
      obtain ⟨F, hF⟩ : ∃ F, F = E.rdF si := ⟨_, rfl⟩
      obtain ⟨M, hM⟩ : ∃ M, M = (E.rdL si).1 := ⟨_, rfl⟩
      obtain ⟨s', hs'⟩ : ∃ s', s' = E.stp si := ⟨_, rfl⟩
      obtain ⟨k, hk⟩ : ∃ k, k = M.length := ⟨_, rfl⟩
      rw [← hF, ← hM, ← hs', ← hk] at hev
      rw [← hF, ← hM, ← hs'] at HM HMb
      have HK := Lib.hid hk
      clear hF hM hs' hlm c2 hk hm96
      go_wp2_with fail
      refine hev.mono ?_
      rintro e w4 ⟨hg4, hok⟩
      have hgr4 := gb_trans hgr hg4
      rcases hok with ⟨h4, _, _, A4, c4, rfl, hD4, hR4⟩ | ⟨h4, rfl⟩
      rotate_left
      · have HR := Lib.hid (HMb.out h4)
        have H4 := Lib.hid h4
        clear h4 hev
        go_wp2
        refine ⟨rfl, hgr4, .inr ?_⟩
        rw [HR.out]
        exact ⟨H4.out, rfl⟩
      have H4 := Lib.hid h4
      have hO4 := hO.keep (w' := w4) (fun b hb hl => hg4.block b hl (fun e => by injection e with e; rcases hb with hb | hb <;> omega))
      have hap : Rds w4 (fun b => w.heap.size ≤ b ∧ some b ≠ (Value.slice Ao No co).ownBlock) A4 (dvs M) := hO4.apart hD4 (fun b hb => by omega)
      have hlit := blo_ers ⟨F, M, A4, c4⟩ (Blo.made w4 28 (EvV.cells ⟨F, M, A4, c4⟩))
      simp only [EvV.cells] at hlit
      rw [← HK.out] at hlit
      have hsz4 := hgr4.size
      clear h4 hev hO hRr hgr hg4
      go_wp2_with (at_builtin; refine wpList_eapp _ rfl _ _ rfl w.heap.size _ m rfl (hO4.new (b_alloc _ _)).row (fun _ => True) _ 1 1 [⟨F, M, A4, c4⟩] rfl rfl hlit (by have := HNo.out.2; omega) (by simp; omega) ?_)
      intro v5 w5 hrow5 hg5 hv5
      have hO5 := (hO4.new (b_alloc _ _)).snoc hrow5 hg5 (by simpa using hv5) (hap.alloc _)
      have hgr5 : w.grownBy w5 (some g) := gb_new (gb_alloc hgr4 (.cells (ecs F A4 k c4) 28)) hg5 (fun b hb => (hO4.row.lt b hb).1)
      have hR5 : Rde w5 g h gr s' := (hR4.new (b_alloc w4 (.cells (ecs F A4 k c4) 28))).keep hg5.size (fun b hb => hg5.block b (by have := hR4.rd.lt; have := hR4.rd.lth; have := hR4.me.lt; simp; omega) (fun e => by have := (hO4.row.lt b e.symm).1; omega))
      obtain ⟨A5, c5, rfl, _⟩ := hrow5.form
      obtain ⟨N5, hN5⟩ : ∃ N, N = (m ++ [(⟨F, M, A4, c4⟩ : EvV)]).length := ⟨_, rfl⟩
      rw [← hN5] at hO5 ⊢
      have HN5 : Hid (N5 = (m ++ [(⟨F, M, A4, c4⟩ : EvV)]).length ∧ (m ++ [(⟨F, M, A4, c4⟩ : EvV)]).length = i + 1) := Lib.hid ⟨hN5, by simp [HNo.out.2]⟩
      have HM5 : Hid (Saf R n (plain (m ++ [(⟨F, M, A4, c4⟩ : EvV)])) s') := Lib.hid (by rw [plain_app]; exact HM.out)
      clear hN5 hrow5 hg5 hv5 hlit hap hO4 hR4 hgr4
      go_wp2
      go_roundw
      case rel => exact ⟨i + 1, by go_num, by omega, A5, N5, c5, _, s', rfl, HN5, HM5, H4, hgr5, hO5, hR5⟩
      case measure => simp [intOf]; omega
    · have HR : Hid (R = (plain m, si)) := Lib.hid (HSi.out.done (by rw [plain_len, HNo.out.2]; exact hlt))
      clear c2
      go_wp2
      go_ret
      refine ⟨hgr, .inl ?_⟩
      rw [HR.out]
      simp only
      rw [plain_len, ← HNo.out.1]
      exact ⟨H0i.out, Ao, co, m, rfl, rfl, hO, hRr⟩
end Go.Proofs.Ytlckappnpdkihaa
end

section
namespace Go.Proofs.Ytlckappnpdkihaa
set_option linter.unusedVariables false
set_option linter.unusedSimpArgs false
open Go.ChangeShapes Go.WideShapes Go.ChangeAt Go.RowKit

theorem allE_bad {L : List Int} (h : (E.allR L).2.2 ≠ 0) : E.allE L = (E.allR L).2.2 := by unfold E.allE; rw [if_neg h]
theorem allE_good {L : List Int} (h : (E.allR L).2.2 = 0) : E.allE L = if (E.allR L).2.1 = [] then 0 else 4 := by
  unfold E.allE
  rw [if_pos h]
  by_cases h1 : (E.allR L).2.1 = []
  · rw [if_pos h1, if_neg (fun hh => hh h1)]
  · rw [if_neg h1, if_pos h1]
/-- What the face's function reads into the variable at vl. -/
def GAQ (L : List Int) (B g vl : Nat) (W0 W : World) : Prop := E.allE L = 0 ∧ (∃ A c m, Blo W vl 31 #[.slice A (E.allM L).length c] ∧ plain m = E.allM L ∧ EOwn W (fun b => B ≤ b) B (.slice A (E.allM L).length c) m) ∧ Two g vl W0 W
def GAP (L : List Int) (g vl : Nat) (W0 : World) (y : Int) (W : World) : Prop := y = E.allE L ∧ y ≠ 0 ∧ Two g vl W0 W

set_option maxRecDepth 100000 in
set_option maxHeartbeats 4000000 in
theorem getall1_any {g h gr pr vl : Nat} {L : List Int} {w : World} (hR : Rde w g h gr (L, 0)) (hP : Blo w pr 72 #[.pointer (some ⟨gr, 0, none⟩)]) (hV : Blo w vl 31 #[.slice none 0 0]) (h1 : vl ≠ g) (h2 : vl ≠ h) (h3 : vl ≠ gr) :
    Calls Try.prog 50 #[.pointer (some ⟨pr, 0, none⟩), .pointer (some ⟨vl, 0, none⟩)] w (DoPost (GAQ L w.heap.size g vl w) (GAP L g vl w)) := by
  have p0 : w.cell? ⟨pr, 0, none⟩ = some (.pointer (some ⟨gr, 0, none⟩)) := by simpa using hP.cell 0
  have hpg : pr ≠ g := fun e => by obtain ⟨⟨_, _, _, _, A, c, hb, _⟩, _⟩ := hR; exact hb.typeNe hP (by decide) e.symm
  have hpv : pr ≠ vl := hP.typeNe hV (by decide)
  have hvl := hV.lt
  have hev := revents_any (by rfl) hR
  rw [← allS_R] at hev
  have HB := Lib.hid (fun hh => allE_bad (L := L) hh)
  have HG := Lib.hid (fun a => allE_good (L := L) a)
  have HMM : Hid (E.allE L = 0 → E.allM L = (E.allR L).1) := Lib.hid (fun h => by unfold E.allM; rw [if_pos h])
  have hlR := E.allR_len L
  obtain ⟨R, hRR⟩ : ∃ R, R = E.allR L := ⟨_, rfl⟩
  rw [← hRR] at hev HB HG HMM hlR
  clear hRR
  go_enter Try.func50, Try.ntmps50
  go_wp2_with fail
  refine hev.mono ?_
  rintro e w1 ⟨hg1, hok⟩
  rcases hok with ⟨h0, A, c, m, rfl, hm, hO, hR1⟩ | ⟨h0, rfl⟩
  rotate_left
  · have HE := Lib.hid (HB.out h0)
    have H0 := Lib.hid h0
    clear h0 hev
    go_wp2
    exact ⟨rfl, .inr ⟨_, rfl, HE.out.symm, H0.out, Two.of_g _ hg1⟩⟩
  have hV1 := hV.grown hg1 (fun e => by injection e with e; exact h1 e)
  have hP1 := hP.grown hg1 (fun e => by injection e with e; exact hpg e)
  have HE := Lib.hid (HG.out h0)
  obtain ⟨l, s⟩ := R
  simp only at hm hO hR1 HE HMM hlR ⊢
  obtain ⟨n, hn⟩ : ∃ n, n = l.length := ⟨_, rfl⟩
  rw [← hn] at hO ⊢
  have HN := Lib.hid hn
  have Hm := Lib.hid hm
  have hg2 : w1.grownBy (w1.setCell ⟨vl, 0, none⟩ (.slice A n c)) (some vl) := gb_set (World.grownBy.refl _ _) (.inl rfl) _
  have hV2 : Blo (w1.setCell ⟨vl, 0, none⟩ (.slice A n c)) vl 31 #[.slice A n c] := by simpa using hV1.put 0 (.slice A n c)
  have hP2 := hP1.grown hg2 (fun e => by injection e with e; exact hpv e)
  have hR2 := hR1.grown hg2 h1 h2 h3
  have hO2 := hO.keep (w' := w1.setCell ⟨vl, 0, none⟩ (.slice A n c)) (fun b hb hl => hg2.block b hl (fun e => by injection e with e; rcases hb with hb | hb <;> omega))
  have hT2 : Two g vl w (w1.setCell ⟨vl, 0, none⟩ (.slice A n c)) := (Two.of_g vl hg1).trans (Two.of_b g hg2)
  obtain ⟨w2, hw2⟩ : ∃ W, w1.setCell ⟨vl, 0, none⟩ (.slice A n c) = W := ⟨_, rfl⟩
  rw [hw2] at hV2 hP2 hR2 hO2 hT2
  have p2 : w2.cell? ⟨pr, 0, none⟩ = some (.pointer (some ⟨gr, 0, none⟩)) := by simpa using hP2.cell 0
  have v1 : w1.cell? ⟨vl, 0, none⟩ = some (.slice none 0 0) := by simpa using hV1.cell 0
  have f1 := hV1.frozen 0
  have hend := rend_any hR2.rd hR2.me
  have HW2 := Lib.hid hw2
  clear hw2 h0 hev p0 hn hm hg2 hg1
  rw [← HW2.out] at p2
  go_wp2_with fail
  rw [HW2.out]
  refine hend.mono ?_
  rintro e w3 ⟨rfl, ⟨hl, rfl⟩ | ⟨hl, rfl⟩⟩
  · have HE0 : Hid (E.allE L = 0) := Lib.hid (by rw [HE.out, if_pos hl])
    have HM0 := Lib.hid (HMM.out HE0.out)
    clear hl hend
    go_wp2
    go_end0
    refine .inl ⟨rfl, HE0.out, ⟨A, c, m, ?_, ?_, ?_⟩, hT2⟩
    · rw [HM0.out, ← HN.out]; exact hV2
    · rw [HM0.out]; exact Hm.out
    · rw [HM0.out, ← HN.out]; exact hO2
  · have HE0 : Hid (E.allE L = 4) := Lib.hid (by rw [HE.out, if_neg hl])
    clear hl hend
    go_wp2
    exact ⟨rfl, .inr ⟨4, rfl, HE0.out.symm, by decide, hT2⟩⟩

/-- What GetAll answers. -/
def GetsPost7 (L : List Int) (w : World) (e : Ending) (w' : World) : Prop :=
  ∃ A c m, e = .returned (.tuple #[.slice A (E.allM L).length c, .int .i64 (E.allE L)]) ∧ plain m = E.allM L ∧ EOwn w' (fun b => w.heap.size ≤ b) w.heap.size (.slice A (E.allM L).length c) m ∧ Below w.heap.size w w'

set_option maxRecDepth 100000 in
set_option maxHeartbeats 4000000 in
theorem evgetall_any (S : Nat → Prop) (A : Option Addr) (N c : Nat) (L : List Int) (w : World) (hN : N = L.length) (hr : Rds w S A (u8s L)) (hl : L.length ≤ 1000000) (hB : Byt L) :
    Calls Try.prog 27 #[.slice A N c] w (GetsPost7 L w) := by
  have hmf : ∀ (fn : Fn) (first cap : Array Value) (w : World), (Instr.makeFunc fn first cap).run Try.prog w = .ok (.func fn first cap) w := fun _ _ _ _ => rfl
  have hop := eopen_any S A N c L w hN hr hl hB
  clear hN
  go_enter Try.func27, Try.ntmps27
  go_wp2_with fail
  refine hop.mono ?_
  rintro e w2 ⟨g, h, gr, rfl, hR2, hgg, hgh, hgr, b2⟩
  have s2 := b2.size
  obtain ⟨w3, hw3⟩ : ∃ W, w2.alloc (.cells #[.pointer (some ⟨gr, 0, none⟩)] 72) = W := ⟨_, rfl⟩
  obtain ⟨pr, hpr⟩ : ∃ q, q = w2.heap.size := ⟨_, rfl⟩
  have b3 : Below w2.heap.size w2 w3 := by rw [← hw3]; exact b_alloc _ _
  have s3 : w3.heap.size = w2.heap.size + 1 := by rw [← hw3]; simp
  have hP3 : Blo w3 pr 72 #[.pointer (some ⟨gr, 0, none⟩)] := by rw [← hw3, hpr]; exact Blo.made _ _ _
  obtain ⟨w4, hw4⟩ : ∃ W, w3.alloc (.cells #[.slice none 0 0] 31) = W := ⟨_, rfl⟩
  obtain ⟨vl, hvl⟩ : ∃ q, q = w3.heap.size := ⟨_, rfl⟩
  have b4 : Below w3.heap.size w3 w4 := by rw [← hw4]; exact b_alloc _ _
  have s4 : w4.heap.size = w3.heap.size + 1 := by rw [← hw4]; simp
  have hV4 : Blo w4 vl 31 #[.slice none 0 0] := by rw [← hw4, hvl]; exact Blo.made _ _ _
  obtain ⟨w5, hw5⟩ : ∃ W, w4.alloc (.cells #[.int .i64 0] 37) = W := ⟨_, rfl⟩
  have b5 : Below w4.heap.size w4 w5 := by rw [← hw5]; exact b_alloc _ _
  have hQ5 : Blo w5 w4.heap.size 37 #[.int .i64 0] := by rw [← hw5]; exact Blo.made _ _ _
  have hR5 := ((hR2.new b3).new b4).new b5
  have hP5 := (hP3.new b4).new b5
  have hV5 := hV4.new b5
  have b05 : Below w.heap.size w w5 := below_new (below_new (below_new b2 b3) b4) b5
  have hgl := hR2.rd.lt
  have hhl := hR2.rd.lth
  have hrl := hR2.me.lt
  have s5 : w5.heap.size = w4.heap.size + 1 := by rw [← hw5]; simp
  have n1 : vl ≠ g := by omega
  have n2 : vl ≠ h := by omega
  have n3 : vl ≠ gr := by omega
  have hdo := getall1_any hR5 hP5 hV5 n1 n2 n3
  rw [← hw5] at hdo
  have hface := eface_any 50 _ _ _ (.inr (.inr (.inr rfl))) hdo
    (fun W hW => hW.2.2.blo (hw5 ▸ hQ5) (by omega) (by omega)) (fun y W hW => hW.2.2.blo (hw5 ▸ hQ5) (by omega) (by omega))
  rw [hw5] at hface
  have HW3 := Lib.hid hw3
  have HW4 := Lib.hid hw4
  have HP := Lib.hid hpr
  have HV : Hid (vl = w2.heap.size + 1) := Lib.hid (by rw [hvl, s3])
  have hqv : vl < w4.heap.size := by omega
  have hqg : g < w4.heap.size := by omega
  have hwq : w.heap.size ≤ w4.heap.size := by omega
  have hvl' : w.heap.size ≤ vl := by omega
  have hwg : w.heap.size ≤ g := by omega
  have hw45 : w4.heap.size < w5.heap.size := by omega
  clear hw3 hw4 hw5 hpr hvl hdo hop b2 b3 b4 b5 hR2 hP3 hV4 s3 s4 s5
  go_wp2_with fail
  rw [HW3.out, HW4.out]
  rw [← HV.out, ← HP.out]
  refine hface.mono ?_
  rintro e w6 (⟨W, ⟨hE0, ⟨A', c', m, hVW, hm, hOW⟩, hTW⟩, rfl, hg6⟩ | ⟨y, W, ⟨rfl, hE0, hTW⟩, rfl, hg6⟩)
  · have hV6 := hVW.grown hg6 (fun e => by injection e with e; omega)
    have hO6 := hOW.keep (w' := w6) (fun b hb hl => hg6.block b hl (fun e => by injection e with e; rcases hb with hb | hb <;> omega))
    have hbW : Below w.heap.size w W := b05.trans ⟨hTW.os, hTW.tape, hTW.output, hTW.size, fun i hi => hTW.block i (by omega) (by omega) (by omega)⟩
    have hb6 : Below w.heap.size w w6 := hbW.trans (below_gb' hg6 hbW.size hwq)
    obtain ⟨M, hM⟩ : ∃ M, M = E.allM L := ⟨_, rfl⟩
    obtain ⟨k, hk⟩ : ∃ k, k = M.length := ⟨_, rfl⟩
    rw [← hM, ← hk] at hV6 hO6
    rw [← hM] at hm
    have HM := Lib.hid hM
    have HK := Lib.hid hk
    have HE := Lib.hid hE0
    have Hm := Lib.hid hm
    have hO7 := hO6.mono (B' := w.heap.size) (S' := fun b => w.heap.size ≤ b) (by omega) (fun b hb => by omega)
    have z0 : w6.cell? ⟨vl, 0, none⟩ = some (.slice A' k c') := by simpa using hV6.cell 0
    clear hM hk hE0 hm hface hVW hOW hQ5
    go_wp2
    go_ret2
    unfold GetsPost7
    rw [← HM.out, ← HK.out, HE.out]
    exact ⟨A', c', m, rfl, Hm.out, hO7, hb6⟩
  · have hbW : Below w.heap.size w W := b05.trans ⟨hTW.os, hTW.tape, hTW.output, hTW.size, fun i hi => hTW.block i (by omega) (by omega) (by omega)⟩
    have hb6 : Below w.heap.size w w6 := hbW.trans (below_gb' hg6 hbW.size hwq)
    obtain ⟨x, hx⟩ : ∃ x, x = E.allE L := ⟨_, rfl⟩
    rw [← hx] at hE0 ⊢
    have hx' : (x != 0) = true := by simpa using hE0
    have HX := Lib.hid hx
    have HE := Lib.hid hE0
    clear hx hE0 hface hQ5
    go_wp2
    go_ret2
    unfold GetsPost7
    have e2 : E.allM L = [] := by unfold E.allM; rw [if_neg (by rw [← HX.out]; exact HE.out)]
    rw [e2, ← HX.out]
    exact ⟨none, 0, [], rfl, rfl, EOwn.nil _ _ _, hb6⟩
end Go.Proofs.Ytlckappnpdkihaa
end

