/- Layer 6: read: the program's. -/
import Derived.Test.YtegppdobpihbnaaDotRdX
import Derived.Test.YtegppdobpihbnaaDotGMath
import Derived.Test.YtegppdobpihbnaaDotFace
namespace Go.Proofs.Ytegppdobpihbnaa
set_option linter.unusedVariables false
set_option linter.unusedSimpArgs false
open Go.ChangeShapes Go.WideShapes Go.ChangeAt Go.RowKit

def lenAt (g : Nat) (w : World) : Nat := match w.cell? ⟨g, 8, none⟩ with | some v => lenOf v | none => 0
theorem lenAt_blo {g : Nat} {w : World} {t : TypeId} {U : Nat → Int} {A : Option Addr} {n c : Nat} (h : Blo w g t (scs U A n c)) : lenAt g w = n := by
  have : w.cell? ⟨g, 8, none⟩ = some (.slice A n c) := by simpa using h.cell 8
  unfold lenAt; rw [this]; rfl
/-- What a reader of a set's numbers leaves. -/
def GotPost (RP : World → (List Int × Int) → Prop) (g : Nat) (L : List Int) (w : World) (e : Ending) (w' : World) : Prop :=
  ∃ A c, e = .returned (sv (D.gU L) A (D.gR L).1.length c) ∧ DRow w' w.heap.size (.slice A (D.gR L).1.length c) (D.gR L).1 ∧ RP w' (D.gR L).2 ∧ w.grownBy w' (some g)
theorem rdr_P {B g h : Nat} (hg : g < B) (hh : h < B) : RdP (fun W s => Rdr W g h s.1 s.2) B :=
  ⟨fun h hg => h.new hg, fun hr hb hw => hr.grown hw (fun e => by injection e with e; omega) (fun e => by injection e with e; omega)⟩

set_option maxRecDepth 100000 in
set_option maxHeartbeats 4000000 in
theorem read_any {g h : Nat} {L : List Int} {w : World} (hr : Rdr w g h L 0) :
    Calls Try.prog 49 #[.pointer (some ⟨g, 0, none⟩)] w (GotPost (fun W s => Rdr W g h s.1 s.2) g L w) := by
  have hg := hr.lt
  have hh := hr.lth
  have hP : RdP (fun W s => Rdr W g h s.1 s.2) w.heap.size := rdr_P hg hh
  obtain ⟨w2, hw2⟩ : ∃ W, (w.alloc (.cells (scs (fun _ => 0) none 0 0) 30)).alloc (.cells (scs (fun _ => 0) none 0 0) 30) = W := ⟨_, rfl⟩
  obtain ⟨gr, hgr⟩ : ∃ q, q = w.heap.size := ⟨_, rfl⟩
  obtain ⟨gs, hgs⟩ : ∃ q, q = w.heap.size + 1 := ⟨_, rfl⟩
  have hb2 : Below w.heap.size w w2 := by rw [← hw2]; exact b_alloc2 _ _ _
  have hBr : Blo w2 gr 30 (scs (fun _ => 0) none 0 0) := by rw [← hw2, hgr]; exact (Blo.made _ _ _).alloc _
  have hBs : Blo w2 gs 30 (scs (fun _ => 0) none 0 0) := by
    rw [← hw2, hgs]
    have := Blo.made (w.alloc (.cells (scs (fun _ => 0) none 0 0) 30)) 30 (scs (fun _ => 0) none 0 0)
    simpa using this
  have HW := Lib.hid hw2
  have HGR := Lib.hid hgr
  have HGS := Lib.hid hgs
  have h1 : w.heap.size ≤ gr := by omega
  have h2 : w.heap.size ≤ gs := by omega
  have h3 : gr ≠ gs := by omega
  have hgn : g ≠ gs := by omega
  have hgm : g ≠ gr := by omega
  have hr2 := hr.new hb2
  have HP := Lib.hid hP
  clear hw2 hgr hgs hP hr
  go_enter Try.func49, Try.ntmps49
  go_wp2_with fail
  rw [HW.out, ← HGS.out, ← HGR.out]
  go_loopw [7] (fun iv wr => ∃ k : Nat, iv = .int .i64 k ∧ k ≤ 8 ∧ Rdr wr g h (D.stK L k).1 (D.stK L k).2 ∧ Blo wr gs 30 (scs (D.upTo L k) none 0 0) ∧ Blo wr gr 30 (scs (fun _ => 0) none 0 0) ∧ w.grownBy wr (some g)) (fun iv _ => 8 - (intOf iv).toNat)
  case atStart => exact ⟨0, rfl, by omega, hr2, by rw [D.upTo_zero]; exact hBs, hBr, gb_below hb2 _⟩
  case round =>
    obtain ⟨k, rfl, hk, hrk, hBk, hBk', hgb⟩ := hrel
    have hsz := hgb.size
    clear hr2 hBs hBr hb2 HW
    by_cases hlt : k < 8
    · have nI : (k : Int) < 8 := by omega
      have hI := int_all hrk
      have hst : V.intS (D.stK L k).1 (D.stK L k).2 = (D.vK L k, D.stK L (k + 1)) := rfl
      rw [hst] at hI
      unfold IntAll at hI
      simp only at hI
      have HU : Hid (upd (D.upTo L k) k (D.vK L k) = D.upTo L (k + 1)) := Lib.hid (D.upTo_succ L k)
      obtain ⟨x, hx⟩ : ∃ x, x = D.vK L k := ⟨_, rfl⟩
      obtain ⟨s', hs'⟩ : ∃ s, s = D.stK L (k + 1) := ⟨_, rfl⟩
      obtain ⟨U, hU⟩ : ∃ U, U = D.upTo L k := ⟨_, rfl⟩
      rw [← hx, ← hs'] at hI
      rw [← hx, ← hU] at HU
      rw [← hU] at hBk
      have HS := Lib.hid hs'
      clear hst hx hs' hU hrk
      go_wp2_with fail
      refine hI.mono ?_
      rintro e w3 ⟨rfl, hr3, hg3⟩
      have hB3 := hBk.grown hg3 (fun e => hgn (by injection e with e; exact e.symm))
      have hB3' := hBk'.grown hg3 (fun e => hgm (by injection e with e; exact e.symm))
      have hgb3 := gb_trans hgb hg3
      have ku : w3.cell? ⟨gs, k, none⟩ = some (.int .i64 (U k)) := (hB3.cell k).trans (scs_at U _ _ _ hlt)
      have fu := hB3.frozen k
      have hgs4 : w3.grownBy (w3.setCell ⟨gs, k, none⟩ (.int .i64 x)) (some gs) := gb_set (World.grownBy.refl _ _) (.inl rfl) _
      have hr4 := HP.out.far hr3 h2 hgs4
      have hB4 := hB3.put k (.int .i64 x)
      rw [scs_set _ _ _ _ hlt] at hB4
      have hB4' := hB3'.grown hgs4 (fun e => h3 (by injection e))
      have hgb4 := gb_new hgb3 hgs4 (fun b hb => by injection hb with hb; omega)
      clear hI hBk hBk' hgb hg3 hB3 hB3' hgb3 hr3 hgs4
      go_wp2
      go_roundw
      case rel => exact ⟨k + 1, by go_num, by omega, by rw [← HS.out]; exact hr4, by rw [← HU.out]; exact hB4, hB4', hgb4⟩
      case measure => simp [intOf]; omega
    · obtain rfl : k = 8 := by omega
      have hI := int_all hrk
      have hst : V.intS (D.stK L 8).1 (D.stK L 8).2 = (D.vK L 8, D.stK L 9) := rfl
      rw [hst] at hI
      unfold IntAll at hI
      simp only at hI
      obtain ⟨cnt, hcnt⟩ : ∃ x, x = D.vK L 8 := ⟨_, rfl⟩
      obtain ⟨s9, hs9⟩ : ∃ s, s = D.stK L 9 := ⟨_, rfl⟩
      obtain ⟨U, hU⟩ : ∃ U, U = D.gU L := ⟨_, rfl⟩
      rw [← hcnt, ← hs9] at hI
      have hBk : Blo wr gs 30 (scs U none 0 0) := by rw [hU]; exact hBk
      have HC := Lib.hid hcnt
      have HS := Lib.hid hs9
      have HUU := Lib.hid hU
      clear hst hs9 hcnt hU hrk hk hlt
      go_wp2_with fail
      refine hI.mono ?_
      rintro e w3 ⟨rfl, hr3, hg3⟩
      have hB3 := hBk.grown hg3 (fun e => hgn (by injection e with e; exact e.symm))
      have hB3' := hBk'.grown hg3 (fun e => hgm (by injection e with e; exact e.symm))
      have hgb3 := gb_trans hgb hg3
      clear hI hBk hBk' hgb hg3 hsz
      by_cases hbig : 768 < cnt
      case' pos =>
        have hF := fail_any (n := 6) hr3
        have HG : Hid (D.gS L = (s9.1, if s9.2 = 0 then 6 else s9.2)) := Lib.hid (by unfold D.gS D.cut; rw [← HC.out, ← HS.out, if_pos hbig]; rfl)
        go_wp2_with fail
        refine hF.mono ?_
        rintro e w4 ⟨rfl, hr4, hg4⟩
        have hB4 := hB3.grown hg4 (fun e => hgn (by injection e with e; exact e.symm))
        have hB4' := hB3'.grown hg4 (fun e => hgm (by injection e with e; exact e.symm))
        have hgb4 := gb_trans hgb3 hg4
        have hr4 : Rdr w4 g h (D.gS L).1 (D.gS L).2 := by rw [HG.out]; exact hr4
        clear hF HG hB3 hB3' hgb3 hg4 hr3 hbig
        go_wp2_with fail
      case' neg =>
        have hr4 : Rdr w3 g h (D.gS L).1 (D.gS L).2 := by unfold D.gS D.cut; rw [← HC.out, ← HS.out, if_neg hbig]; exact hr3
        have hB4 := hB3
        have hB4' := hB3'
        have hgb4 := hgb3
        clear hB3 hB3' hgb3 hr3
        go_wp2_with fail
        clear hbig
      all_goals
        go_loopw [6] (fun _ wr => ∃ (m : Nat) (M : List D.Dot) (s : List Int × Int) (A : Option Addr) (c : Nat), Hid (M.length = m) ∧ Hid (D.Sofar L M s) ∧ (s.2 = 0 → cnt ≤ 768) ∧ m ≤ 768 ∧ Rdr wr g h s.1 s.2 ∧ Blo wr gs 30 (scs U A m c) ∧ DRow wr w.heap.size (.slice A m c) M ∧ Blo wr gr 30 (scs (fun _ => 0) none 0 0) ∧ w.grownBy wr (some g)) (fun _ wr => cnt.toNat - lenAt gs wr)
        case atStart => exact ⟨0, [], D.gS L, none, 0, Lib.hid rfl, Lib.hid (D.Sofar.start L), fun h => by rw [HC.out]; exact D.gS_ok h, by omega, hr4, hB4, DRow.nil _ _, hB4', hgb4⟩
        case round =>
          obtain ⟨m, M, s, A, c, HM, HSo, hcs, hm, hrs, hBs', hrow, hBr', hgb⟩ := hrel
          have hsz := hgb.size
          clear hr4 hB4 hB4' hgb4
          obtain ⟨z0, z1, z2, z3, z4, z5, z6, z7, z8⟩ := set9 hBs'
          by_cases hlt : (m : Int) < cnt
          · have hE := err_any hrs
            by_cases he : s.2 = 0
            · have hc7 := hcs he
              go_wp2_with fail
              refine hE.mono ?_
              rintro e w5 ⟨rfl, rfl⟩
              obtain ⟨l0, e0⟩ := s
              simp only at he hrs
              subst he
              have hI := int_all hrs
              have HLN : Hid (lenAt gs wr = m) := Lib.hid (lenAt_blo hBs')
              obtain ⟨r1, hr1⟩ : ∃ r, r = V.intS l0 0 := ⟨_, rfl⟩
              rw [← hr1] at hI
              obtain ⟨x1, s1⟩ := r1
              unfold IntAll at hI
              simp only at hI
              obtain ⟨r2, hr2'⟩ : ∃ r, r = V.intS s1.1 s1.2 := ⟨_, rfl⟩
              obtain ⟨x2, s2⟩ := r2
              have HSM : Hid (D.Sofar L (M ++ [(x1, x2)]) s2) := Lib.hid (by
                have := HSo.out.more rfl (by rw [HM.out, ← HC.out]; omega)
                have e1 : D.nxt (l0, 0) = (x1, s1) := hr1.symm
                have e2 : D.nxt s1 = (x2, s2) := hr2'.symm
                rw [e1] at this
                simp only at this
                rw [e2] at this
                exact this)
              have HIN : Hid (∀ W, Rdr W g h s1.1 s1.2 → Calls Try.prog 60 #[.pointer (some ⟨g, 0, none⟩)] W fun e w' => e = .returned (.int .i64 x2) ∧ Rdr w' g h s2.1 s2.2 ∧ W.grownBy w' (some g)) := Lib.hid (fun W hW => by
                have := int_all hW
                rw [← hr2'] at this
                exact this)
              clear hr1 hr2' HSo
              go_wp2_with fail
              refine hI.mono ?_
              rintro e w6 ⟨rfl, hr6, hg6⟩
              have hB6 := hBs'.grown hg6 (fun e => hgn (by injection e with e; exact e.symm))
              have hB6' := hBr'.grown hg6 (fun e => hgm (by injection e with e; exact e.symm))
              have hgb6 := gb_trans hgb hg6
              have hrow6 : DRow w6 w.heap.size (.slice A m c) M := hrow.keep fun b hb hl => hg6.block b hl (fun e => by have := (hrow.lt b hb).1; injection e with e; omega)
              have hm7 : m < 768 := by omega
              clear hI hBs' hBr' hgb hg6 hrow hrs z0 z1 z2 z3 z4 z5 z6 z7 z8 hsz hE
              go_wp2_with fail
              have HX0 : Hid (∀ f, RdX (fun W s => Rdr W g h s.1 s.2) w g gr gs 30 U A m c M x1 x2 s1 s2 40 41 (fun _ => false) f w6) := Lib.hid (fun f => ⟨hgb6, hB6', by simpa using hr6, fun e => (by cases e), by simpa using hrow6, fun _ => hB6⟩)
              clear hgb6 hB6' hr6 hrow6 hB6
              refine wp_famY (size := 44) (D := [34, 35, 36, 37, 38, 39, 40, 41, 42]) [1, 4, 6, 7, 9] [40, 41] [(34, isV (.pointer (some ⟨gs, 8, none⟩))), (35, isV (.slice A m c)), (36, isV (.int .i64 x1)), (37, isV (.pointer (some ⟨g, 0, none⟩))), (38, isV (.int .i64 x2)), (39, isV (.agg #[.int .i64 x1, .int .i64 x2])), (42, isV (.pointer (some ⟨gs, 8, none⟩)))] (RdX (fun W s => Rdr W g h s.1 s.2) w g gr gs 30 U A m c M x1 x2 s1 s2 40 41) (RdX.up HP.out) (by kernel_rfl) (by rfl) (by kernel_rfl) (HX0.out _) ?_ ?_
              · simp only [famAllY]
                repeat' apply And.intro
                · rw [if_neg (by decide)]
                  intro f W hl
                  simp [Oper.looksAt, Op.operands, Call.operands, famAt, famOf, isV] at hl
                  simp [famWants, execOp, rho, go_sem, hl, famUpon, famOf, isV, Grows.refl]
                · rw [if_pos (by decide)]
                  intro L f W hi hcl hwt hX hl
                  simp [Oper.looksAt, Op.operands, Call.operands, famAt, famOf, isV] at hl
                  have h9 : L 9 = false := by
                    cases e : L 9 with
                    | false => rfl
                    | true => rw [hcl 7 1 (by kernel_rfl) (hcl 9 7 (by kernel_rfl) e)] at hi; cases hi
                  have k8 := hX.row h9
                  simp [famWants, execOp, rho, go_sem, hl, k8, famUpon, famOf, isV]
                  exact hX.pass (by decide) (by decide)
                · rw [if_neg (by decide)]
                  intro f W hl
                  simp [Oper.looksAt, Op.operands, Call.operands, famAt, famOf, isV] at hl
                  simp [famWants, execOp, rho, go_sem, hl, famUpon, famOf, isV, Grows.refl]
                · rw [if_neg (by decide)]
                  intro f W hl
                  simp [Oper.looksAt, Op.operands, Call.operands, famAt, famOf, isV] at hl
                  simp [famWants, execOp, rho, go_sem, hl, famUpon, famOf, isV, Grows.refl]
                · rw [if_pos (by decide)]
                  intro L f W hi hcl hwt hX hl
                  simp [Oper.looksAt, Op.operands, Call.operands, famAt, famOf, isV] at hl
                  have h5 : L 5 = false := by
                    cases e : L 5 with
                    | false => rfl
                    | true => rw [hcl 5 4 (by kernel_rfl) e] at hi; cases hi
                  have h6 : L 6 = false := by
                    cases e : L 6 with
                    | false => rfl
                    | true => rw [hcl 6 5 (by kernel_rfl) e] at h5; cases h5
                  have h7 : L 7 = false := by
                    cases e : L 7 with
                    | false => rfl
                    | true => rw [hcl 7 6 (by kernel_rfl) e] at h6; cases h6
                  have h9 : L 9 = false := by
                    cases e : L 9 with
                    | false => rfl
                    | true => rw [hcl 9 7 (by kernel_rfl) e] at h7; cases h7
                  have hc := HIN.out W (hX.before hi)
                  simp [famWants, execOp, rho, go_sem, hl, famUpon, famOf, isV]
                  refine hc.mono ?_
                  rintro e w'' ⟨rfl, hr', hg'⟩
                  exact ⟨_, rfl, rfl, hX.int hg h1 h2 (by decide) h6 h7 h9 hr' hg'⟩
                · rw [if_neg (by decide)]
                  intro f W hl
                  simp [Oper.looksAt, Op.operands, Call.operands, famAt, famOf, isV] at hl
                  simp [famWants, execOp, rho, go_sem, hl, famUpon, famOf, isV, Grows.refl]
                · rw [if_pos (by decide)]
                  intro L f W hi hcl hwt hX hl
                  simp [Oper.looksAt, Op.operands, Call.operands, famAt, famOf, isV] at hl
                  have h7 : L 7 = false := by
                    cases e : L 7 with
                    | false => rfl
                    | true => rw [hcl 7 6 (by kernel_rfl) e] at hi; cases hi
                  have h9 : L 9 = false := by
                    cases e : L 9 with
                    | false => rfl
                    | true => rw [hcl 9 7 (by kernel_rfl) e] at h7; cases h7
                  simp [famWants, execOp, rho, go_sem, hl, famUpon, famOf, isV]
                  exact hX.lit HP.out (by decide) h7 h9
                · rw [if_pos (by decide)]
                  intro L f W hi hcl hwt hX hl
                  simp [Oper.looksAt, Op.operands, Call.operands, famAt, famOf, isV] at hl
                  have h6 : L 6 = true := hwt 6 (by kernel_rfl)
                  have h4 : L 4 = true := hcl 5 4 (by kernel_rfl) (hcl 6 5 (by kernel_rfl) h6)
                  have h9 : L 9 = false := by
                    cases e : L 9 with
                    | false => rfl
                    | true => rw [hcl 9 7 (by kernel_rfl) e] at hi; cases hi
                  obtain ⟨b, eb, hBb⟩ := hX.2.2.2.1 h6 hi
                  have hrw := hX.2.2.2.2.1
                  rw [hi] at hrw
                  have hrw : DRow W w.heap.size (.slice A m c) M := by simpa using hrw
                  obtain ⟨v', W', hrun, hR', hg', _⟩ := run_dapp W w.heap.size 23 (.slice A m c) M hrw (fun _ => True) (some ⟨b, 0, none⟩) 1 1 [(x1, x2)] rfl (blo_rds hBb) (by rw [HM.out]; simp; omega) hX.1.size
                  refine ⟨fun _ => ?_, fun hh => ?_⟩
                  · simp only [execOp, resolve, invoke, builtin, rho, Sem.run_bind, Sem.run_pure, Result.andThen_ok, List.map_toArray, List.map_cons, List.map_nil, hl, eb, hrun, famUpon]
                    exact ⟨fun d hd => by cases hd; exact trivial, hX.app HP.out HM.out (by decide) (by decide) h4 h6 hi h9 hR' hg'⟩
                  · simp [famWants] at hh
                · rw [if_neg (by decide)]
                  intro f W hl
                  simp [Oper.looksAt, Op.operands, Call.operands, famAt, famOf, isV] at hl
                  simp [famWants, execOp, rho, go_sem, hl, famUpon, famOf, isV, Grows.refl]
                · rw [if_pos (by decide)]
                  intro L f W hi hcl hwt hX hl
                  simp [Oper.looksAt, Op.operands, Call.operands, famAt, famOf, isV] at hl
                  have h7 : L 7 = true := hwt 7 (by kernel_rfl)
                  have h4 : L 4 = true := hcl 5 4 (by kernel_rfl) (hcl 6 5 (by kernel_rfl) (hcl 7 6 (by kernel_rfl) h7))
                  obtain ⟨A', c', eq, k8, f8, hX'⟩ := hX.sto HP.out h1 h2 h3 (by decide) h4 h7 hi
                  simp [famWants, execOp, rho, go_sem, hl, eq, k8, f8, famUpon, famOf, isV]
                  exact hX'
                · trivial
              · intro L' u W hL hX hu
                obtain ⟨q1, q2, q3, A', c', e41, q4, q5⟩ := hX.fin (hL 4 (by decide)) (hL 7 (by decide)) (hL 9 (by decide))
                have e0 : u 34 = .pointer (some ⟨gs, 8, none⟩) := hu 34 (by decide)
                simp only [fill, Act.put, List.setIfInBounds_toArray, List.set_cons_zero, List.set_cons_succ]
                refine wpList_nil ?_
                have hln : lenAt gs wr = m := HLN.out
                have hln' : lenAt gs W = m + 1 := lenAt_blo q5
                clear hu hL hX HX0 HIN e0 e41
                go_wp2
                go_roundw
                case rel => exact ⟨m + 1, M ++ [(x1, x2)], s2, A', c', Lib.hid (by rw [List.length_append, HM.out]; rfl), HSM, fun _ => hc7, by omega, q3, q5, q4, q2, q1⟩
                case measure => rw [hln, hln']; omega
            · have he' : (s.2 == 0) = false := by simpa using he
              have HGR2 : Hid (D.gR L = (M, s)) := Lib.hid (HSo.out.bad he)
              go_wp2_with fail
              refine hE.mono ?_
              rintro e w5 ⟨rfl, rfl⟩
              go_wp2_with (refine wpList_setv _ rfl 30 _ _ rfl Try.sizeSet gr _ rfl U A m c rfl hBr' rfl ?_)
              intro w4 hRes4 hg4
              have hne := hrow.blo hBr' (by decide)
              have hR4 : DRow w4 w.heap.size (.slice A m c) M := hrow.grown hg4 (fun b hb e => hne (hb.trans e))
              have hrr4 := HP.out.far hrs h1 hg4
              have hgb4 := gb_new hgb hg4 (fun b hb => by injection hb with hb; omega)
              obtain ⟨y0, y1, y2, y3, y4, y5, y6, y7, y8⟩ := set9 hRes4
              clear z0 z1 z2 z3 z4 z5 z6 z7 z8
              go_wp2
              refine bodyPost_ret (v := sv U A m c) ?_ rfl ?_
              · simp [results, Try.results49, go_sem, y0, y1, y2, y3, y4, y5, y6, y7, y8]
              unfold GotPost
              rw [HGR2.out]
              simp only
              rw [HM.out, ← HUU.out]
              exact ⟨A, c, rfl, hR4, hrr4, hgb4⟩
          · have HGR2 : Hid (D.gR L = (M, s)) := Lib.hid (HSo.out.done (by rw [HM.out, ← HC.out]; omega))
            go_wp2_with (refine wpList_setv _ rfl 30 _ _ rfl Try.sizeSet gr _ rfl U A m c rfl hBr' rfl ?_)
            intro w4 hRes4 hg4
            have hne := hrow.blo hBr' (by decide)
            have hR4 : DRow w4 w.heap.size (.slice A m c) M := hrow.grown hg4 (fun b hb e => hne (hb.trans e))
            have hrr4 := HP.out.far hrs h1 hg4
            have hgb4 := gb_new hgb hg4 (fun b hb => by injection hb with hb; omega)
            obtain ⟨y0, y1, y2, y3, y4, y5, y6, y7, y8⟩ := set9 hRes4
            clear z0 z1 z2 z3 z4 z5 z6 z7 z8
            go_wp2
            refine bodyPost_ret (v := sv U A m c) ?_ rfl ?_
            · simp [results, Try.results49, go_sem, y0, y1, y2, y3, y4, y5, y6, y7, y8]
            unfold GotPost
            rw [HGR2.out]
            simp only
            rw [HM.out, ← HUU.out]
            exact ⟨A, c, rfl, hR4, hrr4, hgb4⟩
end Go.Proofs.Ytegppdobpihbnaa
