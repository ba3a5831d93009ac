/- Layer 7, the document's own: Read. -/
import Derived.Test.YtlckappnpdkihaaEvRefSame
import Derived.Test.YtlckappnpdkihaaRowRdX
import Derived.Test.YtlckappnpdkihaaEvMem
import Derived.Test.YtlckappnpdkihaaVintRefSt
import Derived.Deep.DeepCutAuto
namespace Go.Proofs.Ytlckappnpdkihaa
set_option linter.unusedVariables false
set_option linter.unusedSimpArgs false
open Go.ChangeShapes Go.WideShapes Go.ChangeAt Go.RowKit

theorem ml_P7 {B g h : Nat} {K : List Int} (hg : g < B) (hh : h < B) : RgP (fun W s => Ml W g h K s.1 s.2) B :=
  ⟨fun h hg => h.new hg, fun hr hb hw => hr.grown hw (fun e => by injection e with e; omega) (fun e => by injection e with e; omega)⟩
theorem row_at (F : Nat → Int) : RowAt (fun A n c => ecs F A n c) 13 := ⟨fun A n c => by simp, fun A n c A' n' c' => by simp⟩
/-- How things stand: the reader, the event that is read, the answer's own cells. -/
structure RdS (w0 w : World) (g h gr gs : Nat) (K : List Int) (st : D.St) (F : Nat → Int) : Prop where
  rd : Ml w g h K st.1 st.2
  ev : Blo w gs 28 (ecs F none 0 0)
  res : Blo w gr 28 (ecs (fun _ => 0) none 0 0)
  gb : w0.grownBy w (some g)
structure RdC (w0 : World) (g h gr gs : Nat) : Prop where
  g : g < w0.heap.size
  h : h < w0.heap.size
  r : w0.heap.size ≤ gr
  s : w0.heap.size ≤ gs
  n : gr ≠ gs
theorem RdS.step {w0 w : World} {g h gr gs : Nat} {K : List Int} {st : D.St} {F : Nat → Int} (c : RdC w0 g h gr gs) (hS : RdS w0 w g h gr gs K st F) (k : Nat) (hk : k < 13) {v : Int} {st' : D.St} (hv : (v, st') = D.nxt st) :
    Calls Try.prog 64 #[.pointer (some ⟨g, 0, none⟩)] w fun e w' => e = .returned (.int .i64 v) ∧ w'.cell? ⟨gs, k, none⟩ = some (.int .i64 (F k)) ∧ w'.frozen? ⟨gs, k, none⟩ = false ∧ RdS w0 (w'.setCell ⟨gs, k, none⟩ (.int .i64 v)) g h gr gs K st' (updE F k v) := by
  have c1 := c.g; have c2 := c.h; have c3 := c.r; have c4 := c.s; have c5 := c.n
  refine (rint_all hS.rd).mono ?_
  rintro e w' ⟨he, hr, hg⟩
  have e1 : V.intS st.1 st.2 = (v, st') := hv.symm
  rw [e1] at he hr
  simp only at he hr
  have hB := hS.ev.grown hg (fun e => by injection e with e; omega)
  have hR := hS.res.grown hg (fun e => by injection e with e; omega)
  have hgs : w'.grownBy (w'.setCell ⟨gs, k, none⟩ (.int .i64 v)) (some gs) := gb_set (World.grownBy.refl _ _) (.inl rfl) _
  refine ⟨he, (hB.cell k).trans (ecs_at F _ _ _ hk), hB.frozen k, ⟨hr.grown hgs (fun e => by injection e with e; omega) (fun e => by injection e with e; omega), ?_, hR.grown hgs (fun e => by injection e with e; exact c5 e), gb_new (gb_trans hS.gb hg) hgs (fun b hb => by injection hb with hb; omega)⟩⟩
  have := hB.put k (.int .i64 v)
  rwa [ecs_set _ _ _ _ hk] at this
/-- A number that goes into a variable. -/
theorem RdS.int {w0 w : World} {g h gr gs : Nat} {K : List Int} {st : D.St} {F : Nat → Int} (c : RdC w0 g h gr gs) (hS : RdS w0 w g h gr gs K st F) {v : Int} {st' : D.St} (hv : (v, st') = D.nxt st) :
    Calls Try.prog 64 #[.pointer (some ⟨g, 0, none⟩)] w fun e w' => e = .returned (.int .i64 v) ∧ RdS w0 w' g h gr gs K st' F := by
  have c1 := c.g; have c2 := c.h; have c3 := c.r; have c4 := c.s; have c5 := c.n
  refine (rint_all hS.rd).mono ?_
  rintro e w' ⟨he, hr, hg⟩
  have e1 : V.intS st.1 st.2 = (v, st') := hv.symm
  rw [e1] at he hr
  exact ⟨he, hr, hS.ev.grown hg (fun e => by injection e with e; omega), hS.res.grown hg (fun e => by injection e with e; omega), gb_trans hS.gb hg⟩
theorem RdS.fail {w0 w : World} {g h gr gs : Nat} {K : List Int} {st : D.St} {F : Nat → Int} (c : RdC w0 g h gr gs) (hS : RdS w0 w g h gr gs K st F) (n : Int) :
    Calls Try.prog 65 #[.pointer (some ⟨g, 0, none⟩), .int .i64 n] w fun e w' => e = .returned (.tuple #[]) ∧ RdS w0 w' g h gr gs K (D.failS n st) F := by
  have c1 := c.g; have c2 := c.h; have c3 := c.r; have c4 := c.s; have c5 := c.n
  refine (rfail_all (n := n) hS.rd).mono ?_
  rintro e w' ⟨he, hr, hg⟩
  exact ⟨he, hr, hS.ev.grown hg (fun e => by injection e with e; omega), hS.res.grown hg (fun e => by injection e with e; omega), gb_trans hS.gb hg⟩
/-- It gives up by hand. -/
theorem RdS.four {w0 w : World} {g h gr gs : Nat} {K : List Int} {st : D.St} {F : Nat → Int} (c : RdC w0 g h gr gs) (hS : RdS w0 w g h gr gs K st F) :
    w.cell? ⟨g, 2, none⟩ = some (.int .i64 st.2) ∧ w.frozen? ⟨g, 2, none⟩ = false ∧ RdS w0 (w.setCell ⟨g, 2, none⟩ (.int .i64 4)) g h gr gs K (st.1, 4) F := by
  have c1 := c.g; have c2 := c.h; have c3 := c.r; have c4 := c.s; have c5 := c.n
  obtain ⟨p, hm, e⟩ := hS.rd
  obtain ⟨A, cc, z0, z1, z2, f1, f2, _⟩ := hm.cells
  have hE := hm.setE 4
  exact ⟨z2, f2, ⟨p, hE.1, e⟩, hS.ev.grown hE.2 (fun e => by injection e with e; omega), hS.res.grown hE.2 (fun e => by injection e with e; omega), gb_trans hS.gb hE.2⟩
theorem RdS.congr {w0 w : World} {g h gr gs : Nat} {K : List Int} {st : D.St} {F G : Nat → Int} (hS : RdS w0 w g h gr gs K st F) (hFG : ∀ j, j < 13 → F j = G j) : RdS w0 w g h gr gs K st G := ⟨hS.rd, by rw [← ecs_congr hFG]; exact hS.ev, hS.res, hS.gb⟩
def GotE (RP : World → D.St → Prop) (g : Nat) (s : D.St) (w : World) (e : Ending) (w' : World) : Prop :=
  ∃ A c, e = .returned (ev (E.rdF s) A (E.rdL s).1.length c) ∧ DRow w' w.heap.size (.slice A (E.rdL s).1.length c) (E.rdL s).1 ∧ RP w' (E.rdL s).2 ∧ w.grownBy w' (some g)

set_option maxRecDepth 100000 in
set_option maxHeartbeats 8000000 in
theorem eread_any {g h : Nat} {K : List Int} {s : D.St} {w : World} (hr : Ml w g h K s.1 s.2) :
    Calls Try.prog 49 #[.pointer (some ⟨g, 0, none⟩)] w (GotE (fun W s => Ml W g h K s.1 s.2) g s w) := by
  have hg := hr.lt
  have hh := hr.lth
  obtain ⟨w2, hw2⟩ : ∃ W, (w.alloc (.cells (ecs (fun _ => 0) none 0 0) 28)).alloc (.cells (ecs (fun _ => 0) none 0 0) 28) = W := ⟨_, rfl⟩
  obtain ⟨gr, hgr⟩ : ∃ q, q = w.heap.size := ⟨_, rfl⟩
  obtain ⟨gs, hgs⟩ : ∃ q, q = w.heap.size + 1 := ⟨_, rfl⟩
  have hb2 : Below w.heap.size w w2 := by rw [← hw2]; exact b_alloc2 _ _ _
  have hBr : Blo w2 gr 28 (ecs (fun _ => 0) none 0 0) := by rw [← hw2, hgr]; exact (Blo.made _ _ _).alloc _
  have hBs : Blo w2 gs 28 (ecs (fun _ => 0) none 0 0) := by
    rw [← hw2, hgs]
    have := Blo.made (w.alloc (.cells (ecs (fun _ => 0) none 0 0) 28)) 28 (ecs (fun _ => 0) none 0 0)
    simpa using this
  have c : RdC w g h gr gs := ⟨hg, hh, by omega, by omega, by omega⟩
  have hS0 : RdS w w2 g h gr gs K s (fun _ => 0) := ⟨hr.new hb2, hBs, hBr, gb_below hb2 _⟩
  have HC := Lib.hid c
  have HW := Lib.hid hw2
  have HGR := Lib.hid hgr
  have HGS := Lib.hid hgs
  clear hw2 hgr hgs hBr hBs hb2 hr hg hh c
  obtain ⟨⟨v0, t1⟩, hv0⟩ : ∃ r, r = D.nxt s := ⟨_, rfl⟩
  obtain ⟨⟨v1, t2⟩, hv1⟩ : ∃ r, r = D.nxt t1 := ⟨_, rfl⟩
  obtain ⟨⟨v2, t3⟩, hv2⟩ : ∃ r, r = D.nxt t2 := ⟨_, rfl⟩
  obtain ⟨⟨v3, t4⟩, hv3⟩ : ∃ r, r = D.nxt t3 := ⟨_, rfl⟩
  have T1 : Hid (E.itV s 0 = v0 ∧ E.itV s 1 = v1 ∧ E.itV s 2 = v2 ∧ E.itV s 3 = v3 ∧ E.itS s 4 = t4) := Lib.hid (by
    have e1 : E.itS s 1 = t1 := by show (D.nxt s).2 = t1; rw [← hv0]
    have e2 : E.itS s 2 = t2 := by show (D.nxt (E.itS s 1)).2 = t2; rw [e1, ← hv1]
    have e3 : E.itS s 3 = t3 := by show (D.nxt (E.itS s 2)).2 = t3; rw [e2, ← hv2]
    refine ⟨?_, ?_, ?_, ?_, ?_⟩
    · show (D.nxt s).1 = v0; rw [← hv0]
    · show (D.nxt (E.itS s 1)).1 = v1; rw [e1, ← hv1]
    · show (D.nxt (E.itS s 2)).1 = v2; rw [e2, ← hv2]
    · show (D.nxt (E.itS s 3)).1 = v3; rw [e3, ← hv3]
    · show (D.nxt (E.itS s 3)).2 = t4; rw [e3, ← hv3])
  have hc0 := hS0.step HC.out 0 (by omega) hv0
  have H1 := Lib.hid hv1
  have H2 := Lib.hid hv2
  have H3 := Lib.hid hv3
  clear hv0 hv1 hv2 hv3 hS0
  go_enter Try.func49, Try.ntmps49
  go_wp2_with fail
  rw [HW.out, ← HGS.out, ← HGR.out]
  refine hc0.mono ?_
  rintro e wq0 ⟨rfl, kc, kf, hS1⟩
  obtain ⟨wn0, hw0⟩ : ∃ W, wq0.setCell ⟨gs, 0, none⟩ (.int .i64 v0) = W := ⟨_, rfl⟩
  rw [hw0] at hS1
  have hc1 := hS1.step HC.out 1 (by omega) H1.out
  go_wp2_with fail
  clear kc kf hw0 hc0 hS1
  refine hc1.mono ?_
  rintro e wq1 ⟨rfl, kc, kf, hS2⟩
  obtain ⟨wn1, hw1⟩ : ∃ W, wq1.setCell ⟨gs, 1, none⟩ (.int .i64 v1) = W := ⟨_, rfl⟩
  rw [hw1] at hS2
  have hc2 := hS2.step HC.out 2 (by omega) H2.out
  go_wp2_with fail
  clear kc kf hw1 hc1 hS2
  refine hc2.mono ?_
  rintro e wq2 ⟨rfl, kc, kf, hS3⟩
  obtain ⟨wn2, hw2⟩ : ∃ W, wq2.setCell ⟨gs, 2, none⟩ (.int .i64 v2) = W := ⟨_, rfl⟩
  rw [hw2] at hS3
  have hc3 := hS3.step HC.out 3 (by omega) H3.out
  go_wp2_with fail
  clear kc kf hw2 hc2 hS3
  refine hc3.mono ?_
  rintro e wq3 ⟨rfl, kc, kf, hS4⟩
  obtain ⟨wn3, hw3⟩ : ∃ W, wq3.setCell ⟨gs, 3, none⟩ (.int .i64 v3) = W := ⟨_, rfl⟩
  rw [hw3] at hS4
  have HSF : RdS w wn3 g h gr gs K t4 (updE (updE (updE (updE (fun _ => 0) 0 v0) 1 v1) 2 v2) 3 v3) := hS4
  go_upto_region 6 with fail
  clear kc kf hc3 hS4
  obtain ⟨l4, x4⟩ := t4
  obtain ⟨y2, yf, HS4⟩ := HSF.four HC.out
  have y3 : wn3.cell? ⟨gs, 3, none⟩ = some (.int .i64 v3) := (HSF.ev.cell 3).trans ((ecs_at _ _ _ _ (by omega)).trans (by simp [updE]))
  simp only at y2 HS4
  obtain ⟨b, hb⟩ : ∃ b, b = (decide (x4 = 0) && (decide (v3 < 1) || decide (3 < v3))) := ⟨_, rfl⟩
  have HB := Lib.hid hb
  clear hb hw3
  go_cut [35] (fun s35 wx => s35 = .bool b ∧ wx = wn3)
  case first =>
    by_cases h0 : x4 = 0
    · subst h0
      by_cases h1 : v3 < 1
      · have e : Hid (b = true) := Lib.hid (by rw [HB.out]; simp [h1])
        go_wp2_with fail
        go_meet
        exact ⟨by rw [e.out], rfl⟩
      · by_cases h3 : 3 < v3
        · have e : Hid (b = true) := Lib.hid (by rw [HB.out]; simp [h3])
          go_wp2_with fail
          go_meet
          exact ⟨by rw [e.out], rfl⟩
        · have e : Hid (b = false) := Lib.hid (by rw [HB.out, decide_eq_false h1, decide_eq_false h3]; simp)
          go_wp2_with fail
          go_meet
          exact ⟨by rw [e.out], rfl⟩
    · have e : Hid (b = false) := Lib.hid (by rw [HB.out, decide_eq_false h0]; simp)
      have h0' : (x4 == 0) = false := by simpa using h0
      go_wp2_with fail
      go_meet
      exact ⟨by rw [e.out], rfl⟩
  case rest =>
  obtain ⟨rfl, rfl⟩ := hcut
  go_upto_if 35 with fail
  go_cut [] (fun wx => RdS w wx g h gr gs K (E.s4 s) (updE (updE (updE (updE (fun _ => 0) 0 v0) 1 v1) 2 v2) 3 v3))
  case first =>
    have ES : Hid (E.s4 s = if b = true then (l4, 4) else (l4, x4)) := Lib.hid (by
      unfold E.s4 E.kindS
      rw [T1.out.2.2.2.1, T1.out.2.2.2.2, HB.out]
      by_cases h0 : x4 = 0 <;> by_cases h1 : v3 < 1 <;> by_cases h3 : 3 < v3 <;> simp [h0, h1, h3])
    cases b with
    | true =>
      go_wp2_with fail
      go_meet
      rw [ES.out]
      exact HS4
    | false =>
      go_wp2_with fail
      go_meet
      rw [ES.out]
      exact HSF
  case rest =>
  clear HS4 HSF y2 yf y3 HB
  obtain ⟨⟨v4, q1⟩, hv4⟩ : ∃ r, r = D.nxt (E.s4 s) := ⟨_, rfl⟩
  have T2 : Hid (E.itV (E.s4 s) 0 = v4 ∧ E.itS (E.s4 s) 1 = q1) := Lib.hid ⟨by show (D.nxt (E.s4 s)).1 = v4; rw [← hv4], by show (D.nxt (E.s4 s)).2 = q1; rw [← hv4]⟩
  have hc4 := hcut.step HC.out 4 (by omega) hv4
  clear hv4 hcut
  go_wp2_with fail
  refine hc4.mono ?_
  rintro e wq4 ⟨rfl, kc, kf, hS5⟩
  obtain ⟨wn4, hw4⟩ : ∃ W, wq4.setCell ⟨gs, 4, none⟩ (.int .i64 v4) = W := ⟨_, rfl⟩
  rw [hw4] at hS5
  have y3 : wn4.cell? ⟨gs, 3, none⟩ = some (.int .i64 v3) := (hS5.ev.cell 3).trans ((ecs_at _ _ _ _ (by omega)).trans (by simp [updE]))
  clear hc4
  have FF : Hid (∀ j, j < 13 → j ≠ 5 → j < 6 → updE (updE (updE (updE (updE (fun _ => 0) 0 v0) 1 v1) 2 v2) 3 v3) 4 v4 j = E.rdF s j) := Lib.hid (fun j h13 h5 h6 => by
    obtain ⟨a0, a1, a2, a3, a4⟩ := T1.out
    obtain rfl | rfl | rfl | rfl | rfl : j = 0 ∨ j = 1 ∨ j = 2 ∨ j = 3 ∨ j = 4 := by omega
    · simp [updE, E.rdF, a0]
    · simp [updE, E.rdF, a1]
    · simp [updE, E.rdF, a2]
    · simp [updE, E.rdF, a3]
    · simp [updE, E.rdF, T2.out.1])
  by_cases k1 : v3 = 1
  · obtain ⟨⟨v5, q2⟩, hv5⟩ : ∃ r, r = D.nxt q1 := ⟨_, rfl⟩
    have T3 : Hid (E.itV (E.s4 s) 1 = v5 ∧ E.itS (E.s4 s) 2 = q2) := Lib.hid ⟨by show (D.nxt (E.itS (E.s4 s) 1)).1 = v5; rw [T2.out.2, ← hv5], by show (D.nxt (E.itS (E.s4 s) 1)).2 = q2; rw [T2.out.2, ← hv5]⟩
    have hL : Hid (E.rdL s = ([], q2)) := Lib.hid (by unfold E.rdL; rw [T1.out.2.2.2.1, if_pos k1, T3.out.2])
    have FG : Hid (∀ j, j < 13 → updE (updE (updE (updE (updE (updE (fun _ => 0) 0 v0) 1 v1) 2 v2) 3 v3) 4 v4) 5 v5 j = E.rdF s j) := Lib.hid (fun j h13 => by
      by_cases h5 : j = 5
      · subst h5
        simp [updE, E.rdF, T1.out.2.2.2.1, k1, T3.out.1]
      · by_cases h6 : j < 6
        · rw [← FF.out j h13 h5 h6]; simp [updE, h5]
        · unfold E.rdF
          rw [if_neg (by omega), if_neg (by omega), if_neg h5, if_pos h13, T1.out.2.2.2.1, if_neg (by omega)]
          simp [updE, show j ≠ 5 from h5, show j ≠ 4 by omega, show j ≠ 3 by omega, show j ≠ 2 by omega, show j ≠ 1 by omega, show j ≠ 0 by omega])
    have hc5 := hS5.step HC.out 5 (by omega) hv5
    clear hv5 hS5
    go_wp2_with fail
    refine hc5.mono ?_
    rintro e wq5 ⟨rfl, kc, kf, hS6⟩
    obtain ⟨wn5, hw5⟩ : ∃ W, wq5.setCell ⟨gs, 5, none⟩ (.int .i64 v5) = W := ⟨_, rfl⟩
    rw [hw5] at hS6
    have hS6 := hS6.congr FG.out
    clear hc5 y3 FG FF
    obtain ⟨z0, z1, z2, z3, z4, z5, z6, z7, z8, z9, z10, z11, z12, z13⟩ := set14 hS6.ev
    have hres := hS6.res
    go_wp2_with (refine wpList_sete _ rfl _ _ rfl gr _ rfl (E.rdF s) none 0 0 rfl hres rfl ?_)
    intro w8 hZ8 hg8
    clear z0 z1 z2 z3 z4 z5 z6 z7 z8 z9 z10 z11 z12 z13 kc kf
    have c1 := HC.out.g; have c2 := HC.out.h; have c3 := HC.out.r
    have hrd8 := hS6.rd.grown hg8 (fun e => by injection e with e; omega) (fun e => by injection e with e; omega)
    have hgb8 := gb_new hS6.gb hg8 (fun b hb => by injection hb with hb; omega)
    obtain ⟨z0, z1, z2, z3, z4, z5, z6, z7, z8, z9, z10, z11, z12, z13⟩ := set14 hZ8
    go_wp2
    refine bodyPost_ret (v := ev (E.rdF s) none 0 0) ?_ rfl ?_
    · simp [results, Try.results49, go_sem, z0, z1, z2, z3, z4, z5, z6, z7, z8, z9, z10, z11, z12, z13]
    unfold GotE
    rw [hL.out]
    exact ⟨none, 0, rfl, DRow.nil _ _, hrd8, hgb8⟩
  have k1' : (v3 == 1) = false := by simpa using k1
  go_upto_if 51 with fail
  clear kc kf
  go_cut [] (fun wx => RdS w wx g h gr gs K (E.itS (E.s4 s) (1 + E.nP v3)) (E.rdF s))
  case first =>
    by_cases k2 : v3 = 2
    · have HN7 : Hid (E.itS (E.s4 s) (1 + E.nP v3) = E.itS (E.s4 s) 8) := Lib.hid (by rw [k2]; rfl)
      obtain ⟨⟨p0, r0⟩, hp0⟩ : ∃ r, r = D.nxt q1 := ⟨_, rfl⟩
      have E0 : Hid (E.itV (E.s4 s) 1 = p0 ∧ E.itS (E.s4 s) 2 = r0) := Lib.hid ⟨by show (D.nxt (E.itS (E.s4 s) 1)).1 = p0; rw [T2.out.2, ← hp0], by show (D.nxt (E.itS (E.s4 s) 1)).2 = r0; rw [T2.out.2, ← hp0]⟩
      have HP0 := Lib.hid hp0
      clear hp0
      obtain ⟨⟨p1, r1⟩, hp1⟩ : ∃ r, r = D.nxt r0 := ⟨_, rfl⟩
      have E1 : Hid (E.itV (E.s4 s) 2 = p1 ∧ E.itS (E.s4 s) 3 = r1) := Lib.hid ⟨by show (D.nxt (E.itS (E.s4 s) 2)).1 = p1; rw [E0.out.2, ← hp1], by show (D.nxt (E.itS (E.s4 s) 2)).2 = r1; rw [E0.out.2, ← hp1]⟩
      have HP1 := Lib.hid hp1
      clear hp1
      obtain ⟨⟨p2, r2⟩, hp2⟩ : ∃ r, r = D.nxt r1 := ⟨_, rfl⟩
      have E2 : Hid (E.itV (E.s4 s) 3 = p2 ∧ E.itS (E.s4 s) 4 = r2) := Lib.hid ⟨by show (D.nxt (E.itS (E.s4 s) 3)).1 = p2; rw [E1.out.2, ← hp2], by show (D.nxt (E.itS (E.s4 s) 3)).2 = r2; rw [E1.out.2, ← hp2]⟩
      have HP2 := Lib.hid hp2
      clear hp2
      obtain ⟨⟨p3, r3⟩, hp3⟩ : ∃ r, r = D.nxt r2 := ⟨_, rfl⟩
      have E3 : Hid (E.itV (E.s4 s) 4 = p3 ∧ E.itS (E.s4 s) 5 = r3) := Lib.hid ⟨by show (D.nxt (E.itS (E.s4 s) 4)).1 = p3; rw [E2.out.2, ← hp3], by show (D.nxt (E.itS (E.s4 s) 4)).2 = r3; rw [E2.out.2, ← hp3]⟩
      have HP3 := Lib.hid hp3
      clear hp3
      obtain ⟨⟨p4, r4⟩, hp4⟩ : ∃ r, r = D.nxt r3 := ⟨_, rfl⟩
      have E4 : Hid (E.itV (E.s4 s) 5 = p4 ∧ E.itS (E.s4 s) 6 = r4) := Lib.hid ⟨by show (D.nxt (E.itS (E.s4 s) 5)).1 = p4; rw [E3.out.2, ← hp4], by show (D.nxt (E.itS (E.s4 s) 5)).2 = r4; rw [E3.out.2, ← hp4]⟩
      have HP4 := Lib.hid hp4
      clear hp4
      obtain ⟨⟨p5, r5⟩, hp5⟩ : ∃ r, r = D.nxt r4 := ⟨_, rfl⟩
      have E5 : Hid (E.itV (E.s4 s) 6 = p5 ∧ E.itS (E.s4 s) 7 = r5) := Lib.hid ⟨by show (D.nxt (E.itS (E.s4 s) 6)).1 = p5; rw [E4.out.2, ← hp5], by show (D.nxt (E.itS (E.s4 s) 6)).2 = r5; rw [E4.out.2, ← hp5]⟩
      have HP5 := Lib.hid hp5
      clear hp5
      obtain ⟨⟨p6, r6⟩, hp6⟩ : ∃ r, r = D.nxt r5 := ⟨_, rfl⟩
      have E6 : Hid (E.itV (E.s4 s) 7 = p6 ∧ E.itS (E.s4 s) 8 = r6) := Lib.hid ⟨by show (D.nxt (E.itS (E.s4 s) 7)).1 = p6; rw [E5.out.2, ← hp6], by show (D.nxt (E.itS (E.s4 s) 7)).2 = r6; rw [E5.out.2, ← hp6]⟩
      have HP6 := Lib.hid hp6
      clear hp6
      have FG : Hid (∀ j, j < 13 → updE (updE (updE (updE (updE (updE (updE (updE (updE (updE (updE (updE (fun _ => 0) 0 v0) 1 v1) 2 v2) 3 v3) 4 v4) 6 p0) 7 p1) 8 p2) 9 p3) 10 p4) 11 p5) 12 p6 j = E.rdF s j) := Lib.hid (fun j h13 => by
        by_cases h6 : j < 6
        · by_cases h5 : j = 5
          · subst h5; simp [updE, E.rdF, T1.out.2.2.2.1, k1]
          · rw [← FF.out j h13 h5 h6]
            simp [updE, show j ≠ 6 by omega, show j ≠ 7 by omega, show j ≠ 8 by omega, show j ≠ 9 by omega, show j ≠ 10 by omega, show j ≠ 11 by omega, show j ≠ 12 by omega]
        · unfold E.rdF
          rw [if_neg (by omega), if_neg (by omega), if_neg (by omega), if_pos h13, T1.out.2.2.2.1, if_pos k2]
          obtain rfl | rfl | rfl | rfl | rfl | rfl | rfl : j = 6 ∨ j = 7 ∨ j = 8 ∨ j = 9 ∨ j = 10 ∨ j = 11 ∨ j = 12 := by omega
          · simp [updE, E0.out.1]
          · simp [updE, E1.out.1]
          · simp [updE, E2.out.1]
          · simp [updE, E3.out.1]
          · simp [updE, E4.out.1]
          · simp [updE, E5.out.1]
          · simp [updE, E6.out.1])
      have hd0 := hS5.step HC.out 6 (by omega) HP0.out
      go_wp2_with fail
      refine hd0.mono ?_
      rintro e wr0 ⟨rfl, kc, kf, hT0⟩
      obtain ⟨wp0, hwp0⟩ : ∃ W, wr0.setCell ⟨gs, 6, none⟩ (.int .i64 p0) = W := ⟨_, rfl⟩
      rw [hwp0] at hT0
      have hd1 := hT0.step HC.out 7 (by omega) HP1.out
      go_wp2_with fail
      clear kc kf hwp0 hd0 hT0
      refine hd1.mono ?_
      rintro e wr1 ⟨rfl, kc, kf, hT1⟩
      obtain ⟨wp1, hwp1⟩ : ∃ W, wr1.setCell ⟨gs, 7, none⟩ (.int .i64 p1) = W := ⟨_, rfl⟩
      rw [hwp1] at hT1
      have hd2 := hT1.step HC.out 8 (by omega) HP2.out
      go_wp2_with fail
      clear kc kf hwp1 hd1 hT1
      refine hd2.mono ?_
      rintro e wr2 ⟨rfl, kc, kf, hT2⟩
      obtain ⟨wp2, hwp2⟩ : ∃ W, wr2.setCell ⟨gs, 8, none⟩ (.int .i64 p2) = W := ⟨_, rfl⟩
      rw [hwp2] at hT2
      have hd3 := hT2.step HC.out 9 (by omega) HP3.out
      go_wp2_with fail
      clear kc kf hwp2 hd2 hT2
      refine hd3.mono ?_
      rintro e wr3 ⟨rfl, kc, kf, hT3⟩
      obtain ⟨wp3, hwp3⟩ : ∃ W, wr3.setCell ⟨gs, 9, none⟩ (.int .i64 p3) = W := ⟨_, rfl⟩
      rw [hwp3] at hT3
      have hd4 := hT3.step HC.out 10 (by omega) HP4.out
      go_wp2_with fail
      clear kc kf hwp3 hd3 hT3
      refine hd4.mono ?_
      rintro e wr4 ⟨rfl, kc, kf, hT4⟩
      obtain ⟨wp4, hwp4⟩ : ∃ W, wr4.setCell ⟨gs, 10, none⟩ (.int .i64 p4) = W := ⟨_, rfl⟩
      rw [hwp4] at hT4
      have hd5 := hT4.step HC.out 11 (by omega) HP5.out
      go_wp2_with fail
      clear kc kf hwp4 hd4 hT4
      refine hd5.mono ?_
      rintro e wr5 ⟨rfl, kc, kf, hT5⟩
      obtain ⟨wp5, hwp5⟩ : ∃ W, wr5.setCell ⟨gs, 11, none⟩ (.int .i64 p5) = W := ⟨_, rfl⟩
      rw [hwp5] at hT5
      have hd6 := hT5.step HC.out 12 (by omega) HP6.out
      go_wp2_with fail
      clear kc kf hwp5 hd5 hT5
      refine hd6.mono ?_
      rintro e wr6 ⟨rfl, kc, kf, hT6⟩
      obtain ⟨wp6, hwp6⟩ : ∃ W, wr6.setCell ⟨gs, 12, none⟩ (.int .i64 p6) = W := ⟨_, rfl⟩
      rw [hwp6] at hT6
      have hT := hT6.congr FG.out
      clear FG FF
      go_wp2_with fail
      go_meet
      rw [HN7.out, E6.out.2]
      exact hT
    · have HN0 : Hid (E.itS (E.s4 s) (1 + E.nP v3) = q1) := Lib.hid (by unfold E.nP; rw [if_neg k2]; exact T2.out.2)
      have FG : Hid (∀ j, j < 13 → updE (updE (updE (updE (updE (fun _ => 0) 0 v0) 1 v1) 2 v2) 3 v3) 4 v4 j = E.rdF s j) := Lib.hid (fun j h13 => by
        by_cases h6 : j < 6
        · by_cases h5 : j = 5
          · subst h5; simp [updE, E.rdF, T1.out.2.2.2.1, k1]
          · exact FF.out j h13 h5 h6
        · unfold E.rdF
          rw [if_neg (by omega), if_neg (by omega), if_neg (by omega), if_pos h13, T1.out.2.2.2.1, if_neg k2]
          simp [updE, show j ≠ 4 by omega, show j ≠ 3 by omega, show j ≠ 2 by omega, show j ≠ 1 by omega, show j ≠ 0 by omega])
      have k2' : (v3 == 2) = false := by simpa using k2
      have hT := hS5.congr FG.out
      clear FG FF
      go_wp2_with fail
      go_meet
      rw [HN0.out]
      exact hT
  case rest =>
  obtain ⟨⟨N, t9⟩, hvN⟩ : ∃ r, r = D.nxt (E.itS (E.s4 s) (1 + E.nP v3)) := ⟨_, rfl⟩
  have HL : Hid (E.rdL s = D.rdM N.toNat (E.cutS N t9)) := Lib.hid (by
    have e1 : E.rdN s = N := by unfold E.rdN; rw [T1.out.2.2.2.1]; show (D.nxt (E.itS (E.s4 s) (1 + E.nP v3))).1 = N; rw [← hvN]
    have e2 : E.itS (E.s4 s) (2 + E.nP v3) = t9 := by rw [show 2 + E.nP v3 = (1 + E.nP v3) + 1 by omega]; show (D.nxt (E.itS (E.s4 s) (1 + E.nP v3))).2 = t9; rw [← hvN]
    unfold E.rdL
    rw [T1.out.2.2.2.1, if_neg k1, e1, e2])
  have hcN := hcut.int HC.out hvN
  clear hvN hcut
  go_wp2_with fail
  refine hcN.mono ?_
  rintro e wm ⟨rfl, hSm⟩
  clear hcN
  go_upto_if 83 with fail
  go_cut [] (fun wx => RdS w wx g h gr gs K (E.cutS N t9) (E.rdF s))
  case first =>
    by_cases hbig : 96 < N
    · have HE : Hid (E.cutS N t9 = D.failS 6 t9) := Lib.hid (by unfold E.cutS; rw [if_pos hbig])
      have hF := hSm.fail HC.out 6
      go_wp2_with fail
      refine hF.mono ?_
      rintro e wf ⟨rfl, hSf⟩
      go_wp2_with fail
      go_meet
      rw [HE.out]
      exact hSf
    · have HE : Hid (E.cutS N t9 = t9) := Lib.hid (by unfold E.cutS; rw [if_neg hbig])
      go_wp2_with fail
      go_meet
      rw [HE.out]
      exact hSm
  case rest =>
  have hg := HC.out.g
  have hh := HC.out.h
  have h1 := HC.out.r
  have h2 := HC.out.s
  have h3 := HC.out.n
  have hP : RgP (fun W (s : D.St) => Ml W g h K s.1 s.2) w.heap.size := ml_P7 hg hh
  have HP := Lib.hid hP
  clear hP hSm
  go_wp2_with fail
  go_loopw [5] (fun iv wr => ∃ (m : Nat) (M : List D.Dot) (st : D.St) (A : Option Addr) (c : Nat), iv = .int .i64 m ∧ Hid (M.length = m) ∧ Hid (Sof (E.rdL s) N.toNat M st) ∧ (st.2 = 0 → N ≤ 96) ∧ m ≤ 96 ∧ Ml wr g h K st.1 st.2 ∧ Blo wr gs 28 (ecs (E.rdF s) A m c) ∧ DRow wr w.heap.size (.slice A m c) M ∧ Blo wr gr 28 (ecs (fun _ => 0) none 0 0) ∧ w.grownBy wr (some g)) (fun iv _ => N.toNat - (intOf iv).toNat)
  case atStart => exact ⟨0, [], E.cutS N t9, none, 0, rfl, Lib.hid rfl, Lib.hid (Sof.start HL.out), fun h => cutS_ok h, by omega, hcut.rd, hcut.ev, DRow.nil _ _, hcut.res, hcut.gb⟩
  case round =>
    obtain ⟨m, M, st, A, c, rfl, HM, HSo, hcs, hm, hrs, hBs', hrow, hBr', hgb⟩ := hrel
    have hsz := hgb.size
    clear hcut
    obtain ⟨z0, z1, z2, z3, z4, z5, z6, z7, z8, z9, z10, z11, z12, z13⟩ := set14 hBs'
    by_cases hlt : (m : Int) < N
    · obtain ⟨A5, c5, p5, q0, q1, q2, hq⟩ := hrs.cells
      by_cases he : st.2 = 0
      · have hc7 := hcs he
        obtain ⟨l0, e0⟩ := st
        simp only at he hrs q2
        subst he
        have hI := rint_all hrs
        clear hq
        obtain ⟨r1, hr1⟩ : ∃ r, r = V.intS l0 0 := ⟨_, rfl⟩
        rw [← hr1] at hI
        obtain ⟨x1, s1⟩ := r1
        unfold RIntAll at hI
        simp only at hI
        obtain ⟨r2, hr2'⟩ : ∃ r, r = V.intS s1.1 s1.2 := ⟨_, rfl⟩
        obtain ⟨x2, s2⟩ := r2
        have HSM : Hid (Sof (E.rdL s) N.toNat (M ++ [(x1, x2)]) s2) := Lib.hid (by
          have := HSo.out.more rfl (by rw [HM.out]; omega)
          have e1 : D.nxt (l0, 0) = (x1, s1) := hr1.symm
          have e2 : D.nxt s1 = (x2, s2) := hr2'.symm
          rw [e1] at this
          simp only at this
          rw [e2] at this
          exact this)
        have HIN : Hid (∀ W, Ml W g h K s1.1 s1.2 → Calls Try.prog 64 #[.pointer (some ⟨g, 0, none⟩)] W fun e w' => e = .returned (.int .i64 x2) ∧ Ml w' g h K s2.1 s2.2 ∧ W.grownBy w' (some g)) := Lib.hid (fun W hW => by
          have := rint_all hW
          rw [← hr2'] at this
          exact this)
        clear hr1 hr2' HSo
        go_wp2_with fail
        refine hI.mono ?_
        rintro e w6 ⟨rfl, hr6, hg6⟩
        have hB6 := hBs'.grown hg6 (fun e => by injection e with e; omega)
        have hB6' := hBr'.grown hg6 (fun e => by injection e with e; omega)
        have hgb6 := gb_trans hgb hg6
        have hrow6 : DRow w6 w.heap.size (.slice A m c) M := hrow.keep fun b hb hl => hg6.block b hl (fun e => by have := (hrow.lt b hb).1; injection e with e; omega)
        have hm7 : m < 96 := by omega
        clear hI hBs' hBr' hgb hg6 hrow hrs hsz z0 z1 z2 z3 z4 z5 z6 z7 z8 z9 z10 z11 z12 z13 q0 q1 q2
        go_wp2_with fail
        have HX0 : Hid (∀ f, RgX (fun W (s : D.St) => Ml W g h K s.1 s.2) w g gr gs 28 (ecs (fun _ => 0) none 0 0) (fun A n c => ecs (E.rdF s) A n c) A m c M x1 x2 s1 s2 106 107 (fun _ => false) f w6) := Lib.hid (fun f => ⟨hgb6, hB6', by simpa using hr6, fun e => (by cases e), by simpa using hrow6, fun _ => hB6⟩)
        clear hgb6 hB6' hr6 hrow6 hB6
        refine wp_famY (size := 110) (D := [100, 101, 102, 103, 104, 105, 106, 107, 108]) [1, 4, 6, 7, 9] [106, 107] [(100, isV (.pointer (some ⟨gs, 13, none⟩))), (101, isV (.slice A m c)), (102, isV (.int .i64 x1)), (103, isV (.pointer (some ⟨g, 0, none⟩))), (104, isV (.int .i64 x2)), (105, isV (.agg #[.int .i64 x1, .int .i64 x2])), (108, isV (.pointer (some ⟨gs, 13, none⟩)))] (RgX (fun W (s : D.St) => Ml W g h K s.1 s.2) w g gr gs 28 (ecs (fun _ => 0) none 0 0) (fun A n c => ecs (E.rdF s) A n c) A m c M x1 x2 s1 s2 106 107) (RgX.up HP.out) (by kernel_rfl) (by rfl) (by kernel_rfl) (HX0.out _) ?_ ?_
        · simp only [famAllY]
          repeat' apply And.intro
          · rw [if_neg (by decide)]
            intro f W hl
            simp [Oper.looksAt, Op.operands, Call.operands, famAt, famOf, isV] at hl
            simp [famWants, execOp, rho, go_sem, hl, famUpon, famOf, isV, Grows.refl]
          · rw [if_pos (by decide)]
            intro L f W hi hcl hwt hX hl
            simp [Oper.looksAt, Op.operands, Call.operands, famAt, famOf, isV] at hl
            have h9 : L 9 = false := by
              cases e : L 9 with
              | false => rfl
              | true => rw [hcl 7 1 (by kernel_rfl) (hcl 9 7 (by kernel_rfl) e)] at hi; cases hi
            have k8 := hX.row (row_at _) h9
            simp [famWants, execOp, rho, go_sem, hl, k8, famUpon, famOf, isV]
            exact hX.pass (by decide) (by decide)
          · rw [if_neg (by decide)]
            intro f W hl
            simp [Oper.looksAt, Op.operands, Call.operands, famAt, famOf, isV] at hl
            simp [famWants, execOp, rho, go_sem, hl, famUpon, famOf, isV, Grows.refl]
          · rw [if_neg (by decide)]
            intro f W hl
            simp [Oper.looksAt, Op.operands, Call.operands, famAt, famOf, isV] at hl
            simp [famWants, execOp, rho, go_sem, hl, famUpon, famOf, isV, Grows.refl]
          · rw [if_pos (by decide)]
            intro L f W hi hcl hwt hX hl
            simp [Oper.looksAt, Op.operands, Call.operands, famAt, famOf, isV] at hl
            have h5 : L 5 = false := by
              cases e : L 5 with
              | false => rfl
              | true => rw [hcl 5 4 (by kernel_rfl) e] at hi; cases hi
            have h6 : L 6 = false := by
              cases e : L 6 with
              | false => rfl
              | true => rw [hcl 6 5 (by kernel_rfl) e] at h5; cases h5
            have h7 : L 7 = false := by
              cases e : L 7 with
              | false => rfl
              | true => rw [hcl 7 6 (by kernel_rfl) e] at h6; cases h6
            have h9 : L 9 = false := by
              cases e : L 9 with
              | false => rfl
              | true => rw [hcl 9 7 (by kernel_rfl) e] at h7; cases h7
            have hc := HIN.out W (hX.before hi)
            simp [famWants, execOp, rho, go_sem, hl, famUpon, famOf, isV]
            refine hc.mono ?_
            rintro e w'' ⟨rfl, hr', hg'⟩
            exact ⟨_, rfl, rfl, hX.int hg h1 h2 (by decide) h6 h7 h9 hr' hg'⟩
          · rw [if_neg (by decide)]
            intro f W hl
            simp [Oper.looksAt, Op.operands, Call.operands, famAt, famOf, isV] at hl
            simp [famWants, execOp, rho, go_sem, hl, famUpon, famOf, isV, Grows.refl]
          · rw [if_pos (by decide)]
            intro L f W hi hcl hwt hX hl
            simp [Oper.looksAt, Op.operands, Call.operands, famAt, famOf, isV] at hl
            have h7 : L 7 = false := by
              cases e : L 7 with
              | false => rfl
              | true => rw [hcl 7 6 (by kernel_rfl) e] at hi; cases hi
            have h9 : L 9 = false := by
              cases e : L 9 with
              | false => rfl
              | true => rw [hcl 9 7 (by kernel_rfl) e] at h7; cases h7
            simp [famWants, execOp, rho, go_sem, hl, famUpon, famOf, isV]
            exact hX.lit HP.out (by decide) h7 h9
          · rw [if_pos (by decide)]
            intro L f W hi hcl hwt hX hl
            simp [Oper.looksAt, Op.operands, Call.operands, famAt, famOf, isV] at hl
            have h6 : L 6 = true := hwt 6 (by kernel_rfl)
            have h4 : L 4 = true := hcl 5 4 (by kernel_rfl) (hcl 6 5 (by kernel_rfl) h6)
            have h9 : L 9 = false := by
              cases e : L 9 with
              | false => rfl
              | true => rw [hcl 9 7 (by kernel_rfl) e] at hi; cases hi
            obtain ⟨b, eb, hBb⟩ := hX.2.2.2.1 h6 hi
            have hrw := hX.2.2.2.2.1
            rw [hi] at hrw
            have hrw : DRow W w.heap.size (.slice A m c) M := by simpa using hrw
            obtain ⟨v', W', hrun, hR', hg', _⟩ := run_dapp W w.heap.size 26 (.slice A m c) M hrw (fun _ => True) (some ⟨b, 0, none⟩) 1 1 [(x1, x2)] rfl (blo_rds hBb) (by rw [HM.out]; simp; omega) hX.1.size
            refine ⟨fun _ => ?_, fun hh => ?_⟩
            · simp only [execOp, resolve, invoke, builtin, rho, Sem.run_bind, Sem.run_pure, Result.andThen_ok, List.map_toArray, List.map_cons, List.map_nil, hl, eb, hrun, famUpon]
              exact ⟨fun d hd => by cases hd; exact trivial, hX.app HP.out HM.out (by decide) (by decide) h4 h6 hi h9 hR' hg'⟩
            · simp [famWants] at hh
          · rw [if_neg (by decide)]
            intro f W hl
            simp [Oper.looksAt, Op.operands, Call.operands, famAt, famOf, isV] at hl
            simp [famWants, execOp, rho, go_sem, hl, famUpon, famOf, isV, Grows.refl]
          · rw [if_pos (by decide)]
            intro L f W hi hcl hwt hX hl
            simp [Oper.looksAt, Op.operands, Call.operands, famAt, famOf, isV] at hl
            have h7 : L 7 = true := hwt 7 (by kernel_rfl)
            have h4 : L 4 = true := hcl 5 4 (by kernel_rfl) (hcl 6 5 (by kernel_rfl) (hcl 7 6 (by kernel_rfl) h7))
            obtain ⟨A', c', eq, k8, f8, hX'⟩ := hX.sto (row_at _) HP.out h1 h2 h3 (by decide) h4 h7 hi
            simp [famWants, execOp, rho, go_sem, hl, eq, k8, f8, famUpon, famOf, isV]
            exact hX'
          · trivial
        · intro L' u W hL hX hu
          obtain ⟨q1, q2, q3, A', c', e41, q4, q5⟩ := hX.fin (hL 4 (by decide)) (hL 7 (by decide)) (hL 9 (by decide))
          have e0 : u 100 = .pointer (some ⟨gs, 13, none⟩) := hu 100 (by decide)
          simp only [fill, Act.put, List.setIfInBounds_toArray, List.set_cons_zero, List.set_cons_succ]
          refine wpList_nil ?_
          clear hu hL hX HX0 HIN e0 e41
          go_wp2
          go_roundw
          case rel => exact ⟨m + 1, M ++ [(x1, x2)], s2, A', c', by go_num, Lib.hid (by rw [List.length_append, HM.out]; rfl), HSM, fun _ => hc7, by omega, q3, q5, q4, q2, q1⟩
          case measure => simp [intOf]; omega
      · have he' : (st.2 == 0) = false := by simpa using he
        have HGR2 : Hid (E.rdL s = (M, st)) := Lib.hid (HSo.out.bad he)
        clear hq
        go_wp2_with (refine wpList_sete _ rfl _ _ rfl gr _ rfl (E.rdF s) A m c rfl hBr' rfl ?_)
        intro w4 hRes4 hg4
        have hne := hrow.blo hBr' (by decide)
        have hR4 : DRow w4 w.heap.size (.slice A m c) M := hrow.grown hg4 (fun b hb e => hne (hb.trans e))
        have hrr4 := HP.out.far hrs h1 hg4
        have hgb4 := gb_new hgb hg4 (fun b hb => by injection hb with hb; omega)
        clear z0 z1 z2 z3 z4 z5 z6 z7 z8 z9 z10 z11 z12 z13
        obtain ⟨z0, z1, z2, z3, z4, z5, z6, z7, z8, z9, z10, z11, z12, z13⟩ := set14 hRes4
        go_wp2
        refine bodyPost_ret (v := ev (E.rdF s) A m c) ?_ rfl ?_
        · simp [results, Try.results49, go_sem, z0, z1, z2, z3, z4, z5, z6, z7, z8, z9, z10, z11, z12, z13]
        unfold GotE
        rw [HGR2.out]
        simp only
        rw [HM.out]
        exact ⟨A, c, rfl, hR4, hrr4, hgb4⟩
    · have HGR2 : Hid (E.rdL s = (M, st)) := Lib.hid (HSo.out.done (by rw [HM.out]; omega))
      go_wp2_with (refine wpList_sete _ rfl _ _ rfl gr _ rfl (E.rdF s) A m c rfl hBr' rfl ?_)
      intro w4 hRes4 hg4
      have hne := hrow.blo hBr' (by decide)
      have hR4 : DRow w4 w.heap.size (.slice A m c) M := hrow.grown hg4 (fun b hb e => hne (hb.trans e))
      have hrr4 := HP.out.far hrs h1 hg4
      have hgb4 := gb_new hgb hg4 (fun b hb => by injection hb with hb; omega)
      clear z0 z1 z2 z3 z4 z5 z6 z7 z8 z9 z10 z11 z12 z13
      obtain ⟨z0, z1, z2, z3, z4, z5, z6, z7, z8, z9, z10, z11, z12, z13⟩ := set14 hRes4
      go_wp2
      refine bodyPost_ret (v := ev (E.rdF s) A m c) ?_ rfl ?_
      · simp [results, Try.results49, go_sem, z0, z1, z2, z3, z4, z5, z6, z7, z8, z9, z10, z11, z12, z13]
      unfold GotE
      rw [HGR2.out]
      simp only
      rw [HM.out]
      exact ⟨A, c, rfl, hR4, hrr4, hgb4⟩
end Go.Proofs.Ytlckappnpdkihaa
