/- Layer 7, the document's own: ReadAll. -/
import Derived.Test.YtlckappnpdkihaaEvRefGet
import Derived.Test.YtlckappnpdkihaaEvR9
namespace Go.Proofs.Ytlckappnpdkihaa
set_option linter.unusedVariables false
set_option linter.unusedSimpArgs false
open Go.ChangeShapes Go.WideShapes Go.ChangeAt Go.RowKit

def GotA (g h : Nat) (K : List Int) (R : List E.Ev × D.St) (w : World) (e : Ending) (w' : World) : Prop :=
  ∃ A c m, e = .returned (.slice A R.1.length c) ∧ plain m = R.1 ∧ EOwn w' (fun b => w.heap.size ≤ b) w.heap.size (.slice A R.1.length c) m ∧ Ml w' g h K R.2.1 R.2.2 ∧ w.grownBy w' (some g)
def RbSt (g h : Nat) (K : List Int) (R : List E.Ev × D.St) (w0 : World) (n i : Nat) (v : Value) (w : World) : Prop :=
  ∃ A N c m si, v = .slice A N c ∧ Hid (N = m.length ∧ m.length = i) ∧ i ≤ 768 ∧ Hid (si.2 = 0 → n ≤ 768) ∧ Hid (Saf R n (plain m) si) ∧ w0.grownBy w (some g) ∧ EOwn w (fun b => w0.heap.size ≤ b) w0.heap.size (.slice A N c) m ∧ Ml w g h K si.1 si.2
theorem Ml.byt {w : World} {g h : Nat} {L l : List Int} {x : Int} (hr : Ml w g h L l x) : Byt l := by
  obtain ⟨p, hr, rfl⟩ := hr
  exact (hr.2.2.1).drop p

set_option maxRecDepth 100000 in
set_option maxHeartbeats 8000000 in
theorem ereadall_any {g h : Nat} {K : List Int} {st : D.St} {w : World} (hr : Ml w g h K st.1 st.2) :
    Calls Try.prog 52 #[.pointer (some ⟨g, 0, none⟩)] w (GotA g h K (allS st) w) := by
  have hgl := hr.lt
  have hhl := hr.lth
  have hpos : 0 ≤ (D.nxt st).1 := nxt_pos (s := st) hr.byt
  have hint : Calls Try.prog 64 #[.pointer (some ⟨g, 0, none⟩)] w (RIntAll g h K (D.nxt st) w) := rint_all hr
  obtain ⟨R, hRR⟩ : ∃ R, R = allS st := ⟨_, rfl⟩
  rw [← hRR]
  unfold allS at hRR
  obtain ⟨N, s, hns⟩ : ∃ N s, D.nxt st = (N, s) := ⟨_, _, rfl⟩
  rw [hns] at hint hRR hpos
  simp only at hpos hRR
  obtain ⟨n, rfl⟩ := Int.eq_ofNat_of_zero_le hpos
  rw [Int.toNat_natCast] at hRR
  have HRR := Lib.hid hRR
  clear hRR hns
  go_enter Try.func52, Try.ntmps52
  go_wp2_with fail
  refine hint.mono ?_
  rintro e w1 ⟨rfl, hr1, hg1⟩
  simp only at hr1
  clear hint hr
  obtain ⟨sc, hsc⟩ : ∃ sc, sc = E.cutA (n : Int) s := ⟨_, rfl⟩
  have HS : Hid (Saf R n [] sc) := Lib.hid (Saf.start (by rw [HRR.out, hsc]))
  have HC : Hid (sc.2 = 0 → n ≤ 768) := Lib.hid (fun hh => by
    rw [hsc] at hh
    unfold E.cutA at hh
    split at hh
    · exact absurd hh (D.failS_ne (by omega) _)
    · omega)
  have HSC := Lib.hid hsc
  clear hsc
  by_cases h768 : 768 < n
  · have h1 : (768 : Int) < (n : Int) := by omega
    have hfail := rfail_all (n := 6) hr1
    go_wp2_with fail
    refine hfail.mono ?_
    rintro e w2 ⟨rfl, hr2, hg2⟩
    have hr3 : Ml w2 g h K sc.1 sc.2 := by rw [HSC.out]; unfold E.cutA; rw [if_pos h1]; exact hr2
    have hg3 := gb_trans hg1 hg2
    clear hfail hr2 hg2 h1 h768
    go_wp2_with fail
    go_loopw [3, 5] (fun ov iv wr => ∃ i : Nat, iv = .int .i64 i ∧ i ≤ n ∧ RbSt g h K R w n i ov wr) (fun _ iv _ => n - (intOf iv).toNat)
    case atStart => exact ⟨0, rfl, by omega, none, 0, 0, [], sc, rfl, Lib.hid ⟨rfl, rfl⟩, by omega, HC, HS, hg3, EOwn.nil _ _ _, hr3⟩
    case round =>
      obtain ⟨i, rfl, hi, Ao, No, co, m, si, rfl, HNo, hi7, HCi, HSi, hgr, hO, hRr⟩ := hrel
      obtain ⟨_, _, _, _, _, x2, _⟩ := hRr.cells
      have fin : ¬ (i < n ∧ si.2 = 0) → Hid (R = (plain m, si)) := fun hh => Lib.hid (by
        by_cases h1 : i < n
        · exact HSi.out.bad (fun h2 => hh ⟨h1, h2⟩)
        · exact HSi.out.done (by rw [plain_len, HNo.out.2]; exact h1))
      by_cases hlt : i < n
      · have hi1 : (i : Int) < (n : Int) := by omega
        by_cases h0 : si.2 = 0
        · have hx0 : (si.2 == 0) = true := by simpa using h0
          have hn7 := HCi.out h0
          have hev := eread_any hRr
          have hlm : (plain m).length < n := by rw [plain_len, HNo.out.2]; exact hlt
          have HM := Lib.hid (HSi.out.more h0 hlm)
          have hszr := hgr.size
          have hm96 := rdL_len si
          have HST : Hid (E.stp si = if (E.rdL si).2.2 = 0 ∧ E.right (E.rdF si) (E.rdL si).1 = false then ((E.rdL si).2.1, 4) else (E.rdL si).2) := Lib.hid rfl
          unfold GotE at hev
          obtain ⟨F, hF⟩ : ∃ F, F = E.rdF si := ⟨_, rfl⟩
          obtain ⟨M, hM⟩ : ∃ M, M = (E.rdL si).1 := ⟨_, rfl⟩
          obtain ⟨t, ht⟩ : ∃ t, t = (E.rdL si).2 := ⟨_, rfl⟩
          obtain ⟨s', hs'⟩ : ∃ s', s' = E.stp si := ⟨_, rfl⟩
          obtain ⟨k, hk⟩ : ∃ k, k = M.length := ⟨_, rfl⟩
          rw [← hF, ← hM, ← ht, ← hk] at hev
          rw [← hF, ← hM, ← hs'] at HM
          rw [← hF, ← hM, ← hs', ← ht] at HST
          rw [← hM, ← hk] at hm96
          have HK := Lib.hid hk
          have h0' := Lib.hid h0
          clear hF hM ht hs' hlm hk fin HSi h0
          go_wp2_with fail
          refine hev.mono ?_
          rintro e w4 ⟨A4, c4, rfl, hD4, hR4, hg4⟩
          have hgr4 := gb_trans hgr hg4
          have hO4 := hO.keep (w' := w4) (fun b hb hl => hg4.block b hl (fun e => by injection e with e; rcases hb with hb | hb <;> omega))
          obtain ⟨w5, hw5⟩ : ∃ W, w4.alloc (.cells (ecs F A4 k c4) 28) = W := ⟨_, rfl⟩
          obtain ⟨ge, hge⟩ : ∃ q, q = w4.heap.size := ⟨_, rfl⟩
          have hb5 : Below w4.heap.size w4 w5 := by rw [← hw5]; exact b_alloc _ _
          have hX5 : Blo w5 ge 28 (ecs F A4 k c4) := by rw [← hw5, hge]; exact Blo.made _ _ _
          have hR5 := hR4.new hb5
          have hO5 := hO4.new hb5
          have hD5 : DRow w5 wr.heap.size (.slice A4 k c4) M := hD4.new hb5
          have hgr5 : w.grownBy w5 (some g) := gb_trans hgr4 (gb_below hb5 _)
          have hge4 : w4.heap.size ≤ ge := by omega
          have hsz4 := hgr4.size
          obtain ⟨_, _, _, _, _, y2, _⟩ := hR5.cells
          have HW5 := Lib.hid hw5
          have HGE := Lib.hid hge
          have y2' := y2
          rw [← HW5.out] at y2'
          clear hev hw5 hge x2 hx0 hO hRr hgr hg4 hR4 hO4 hgr4 hD4 hb5
          by_cases ht0 : t.2 = 0
          · have htb : (t.2 == 0) = true := by simpa using ht0
            have hright := eright_any _ F A4 k c4 M w5 HK.out.symm hD5.rdsT (by unfold maxLen; omega)
            obtain ⟨z0, z1, z2, z3, z4, z5, z6, z7, z8, z9, z10, z11, z12, z13⟩ := set14 hX5
            rw [← HW5.out, HGE.out] at z0 z1 z2 z3 z4 z5 z6 z7 z8 z9 z10 z11 z12 z13
            have HT0 := Lib.hid ht0
            clear ht0
            go_wp2_with fail
            rw [HW5.out, ← HGE.out]
            refine hright.mono ?_
            rintro e w6 ⟨rfl, hb6⟩
            have hX6 := hX5.new hb6
            have hR6 := hR5.new hb6
            have hO6 := hO5.new hb6
            have hD6 := hD5.new hb6
            have hgr6 : w.grownBy w6 (some g) := gb_trans hgr5 (gb_below hb6 _)
            have hsz6 := hgr6.size
            clear hright z0 z1 z2 z3 z4 z5 z6 z7 z8 z9 z10 z11 z12 z13 hX5 hR5 hO5 hD5 hgr5 hb6 y2 y2'
            cases hq : E.right F M with
            | false =>
              have HS' : Hid (s' = (t.1, 4)) := Lib.hid (by rw [HST.out, if_pos ⟨HT0.out, hq⟩])
              clear hq
              obtain ⟨p6, hm6, ep6⟩ := hR6
              obtain ⟨_, _, q0, q1, q2, f1, f2, _⟩ := hm6.cells
              have hE6 := hm6.setE 4
              have hR7 : Ml (w6.setCell ⟨g, 2, none⟩ (.int .i64 4)) g h K s'.1 s'.2 := by rw [HS'.out]; exact ⟨p6, hE6.1, ep6⟩
              have hg7 := hE6.2
              have hX7 := hX6.grown hg7 (fun e => by injection e with e; omega)
              have hO7 := hO6.keep (w' := w6.setCell ⟨g, 2, none⟩ (.int .i64 4)) (fun b hb hl => hg7.block b hl (fun e => by injection e with e; rcases hb with hb | hb <;> omega))
              have hD7 := hD6.grown hg7 (fun b hb e => by injection e with e; have := (hD6.lt b hb).1; omega)
              have hgr7 := gb_trans hgr6 hg7
              obtain ⟨w7, hw7⟩ : ∃ W, w6.setCell ⟨g, 2, none⟩ (.int .i64 4) = W := ⟨_, rfl⟩
              rw [hw7] at hR7 hX7 hO7 hD7 hgr7
              have HW7 := Lib.hid hw7
              clear hw7 hE6 hg7 hm6 hX6 hO6 hD6 hgr6
              obtain ⟨z0, z1, z2, z3, z4, z5, z6, z7, z8, z9, z10, z11, z12, z13⟩ := set14 hX7
              rw [← HW7.out] at z0 z1 z2 z3 z4 z5 z6 z7 z8 z9 z10 z11 z12 z13
              have hap : Rds w7 (fun b => w.heap.size ≤ b ∧ some b ≠ (Value.slice Ao No co).ownBlock) A4 (dvs M) := hO7.apart hD7 (fun b hb => by omega)
              have hlit := blo_ers ⟨F, M, A4, c4⟩ (Blo.made w7 28 (EvV.cells ⟨F, M, A4, c4⟩))
              simp only [EvV.cells] at hlit
              rw [← HK.out] at hlit
              have hsz7 := hgr7.size
              have e1 := hO7.new (b_alloc w7 (.cells (ecs F A4 k c4) 28))
              have hszz : w7.heap.size = w6.heap.size := by rw [← HW7.out]; simp [World.setCell]
              rw [hszz] at hlit
              rw [← HW7.out] at e1 hlit
              go_wp2_with (at_builtin; refine wpList_eapp _ rfl _ _ rfl w.heap.size _ m rfl e1.row (fun _ => True) _ 1 1 [⟨F, M, A4, c4⟩] rfl rfl hlit (by have := HNo.out.2; omega) (by simp; omega) ?_)
              intro v8 w8 hrow8 hg8 hv8
              rw [HW7.out] at hg8 e1
              have hv9 : v8.ownBlock = (Value.slice Ao No co).ownBlock ∨ v8.ownBlock = some (w7.alloc (.cells (ecs F A4 k c4) 28)).heap.size := by simpa [hszz] using hv8
              have hO8 := e1.snoc hrow8 hg8 hv9 (hap.alloc _)
              have hgr8 : w.grownBy w8 (some g) := gb_new (gb_alloc hgr7 (.cells (ecs F A4 k c4) 28)) hg8 (fun b hb => (hO7.row.lt b hb).1)
              have hR8 : Ml w8 g h K s'.1 s'.2 := (hR7.new (b_alloc w7 (.cells (ecs F A4 k c4) 28))).grown hg8 (fun e => by have := (hO7.row.lt g e.symm).1; omega) (fun e => by have := (hO7.row.lt h e.symm).1; omega)
              obtain ⟨A8, c8, rfl, _⟩ := hrow8.form
              obtain ⟨N8, hN8⟩ : ∃ N, N = (m ++ [(⟨F, M, A4, c4⟩ : EvV)]).length := ⟨_, rfl⟩
              rw [← hN8] at hO8 ⊢
              have HN8 : Hid (N8 = (m ++ [(⟨F, M, A4, c4⟩ : EvV)]).length ∧ (m ++ [(⟨F, M, A4, c4⟩ : EvV)]).length = i + 1) := Lib.hid ⟨hN8, by simp [HNo.out.2]⟩
              have HM8 : Hid (Saf R n (plain (m ++ [(⟨F, M, A4, c4⟩ : EvV)])) s') := Lib.hid (by rw [plain_app]; exact HM.out)
              clear hN8 hrow8 hg8 hv8 hlit hap e1 hO7 hR7 hgr7 hX7 hD7 z0 z1 z2 z3 z4 z5 z6 z7 z8 z9 z10 z11 z12 z13
              go_wp2
              go_roundw
              case rel => exact ⟨i + 1, by go_num, by omega, A8, N8, c8, _, s', rfl, HN8, by omega, Lib.hid (fun _ => hn7), HM8, hgr8, hO8, hR8⟩
              case measure => simp [intOf]; omega
            | true =>
              have HS' : Hid (s' = t) := Lib.hid (by rw [HST.out, if_neg (fun hh => by rw [hq] at hh; cases hh.2)])
              clear hq
              have hR7 : Ml w6 g h K s'.1 s'.2 := by rw [HS'.out]; exact hR6
              have hX7 := hX6
              have hO7 := hO6
              have hD7 := hD6
              have hgr7 := hgr6
              obtain ⟨w7, hw7⟩ : ∃ W, w6 = W := ⟨_, rfl⟩
              subst hw7
              clear hR6 hX6 hO6 hD6 hgr6
              obtain ⟨z0, z1, z2, z3, z4, z5, z6, z7, z8, z9, z10, z11, z12, z13⟩ := set14 hX7
              have hap : Rds w6 (fun b => w.heap.size ≤ b ∧ some b ≠ (Value.slice Ao No co).ownBlock) A4 (dvs M) := hO7.apart hD7 (fun b hb => by omega)
              have hlit := blo_ers ⟨F, M, A4, c4⟩ (Blo.made w6 28 (EvV.cells ⟨F, M, A4, c4⟩))
              simp only [EvV.cells] at hlit
              rw [← HK.out] at hlit
              have hsz7 := hgr7.size
              have e1 := hO7.new (b_alloc w6 (.cells (ecs F A4 k c4) 28))
              go_wp2_with (at_builtin; refine wpList_eapp _ rfl _ _ rfl w.heap.size _ m rfl e1.row (fun _ => True) _ 1 1 [⟨F, M, A4, c4⟩] rfl rfl hlit (by have := HNo.out.2; omega) (by simp; omega) ?_)
              intro v8 w8 hrow8 hg8 hv8
              have hO8 := e1.snoc hrow8 hg8 (by simpa using hv8) (hap.alloc _)
              have hgr8 : w.grownBy w8 (some g) := gb_new (gb_alloc hgr7 (.cells (ecs F A4 k c4) 28)) hg8 (fun b hb => (hO7.row.lt b hb).1)
              have hR8 : Ml w8 g h K s'.1 s'.2 := (hR7.new (b_alloc w6 (.cells (ecs F A4 k c4) 28))).grown hg8 (fun e => by have := (hO7.row.lt g e.symm).1; omega) (fun e => by have := (hO7.row.lt h e.symm).1; omega)
              obtain ⟨A8, c8, rfl, _⟩ := hrow8.form
              obtain ⟨N8, hN8⟩ : ∃ N, N = (m ++ [(⟨F, M, A4, c4⟩ : EvV)]).length := ⟨_, rfl⟩
              rw [← hN8] at hO8 ⊢
              have HN8 : Hid (N8 = (m ++ [(⟨F, M, A4, c4⟩ : EvV)]).length ∧ (m ++ [(⟨F, M, A4, c4⟩ : EvV)]).length = i + 1) := Lib.hid ⟨hN8, by simp [HNo.out.2]⟩
              have HM8 : Hid (Saf R n (plain (m ++ [(⟨F, M, A4, c4⟩ : EvV)])) s') := Lib.hid (by rw [plain_app]; exact HM.out)
              clear hN8 hrow8 hg8 hv8 hlit hap e1 hO7 hR7 hgr7 hX7 hD7 z0 z1 z2 z3 z4 z5 z6 z7 z8 z9 z10 z11 z12 z13
              go_wp2
              go_roundw
              case rel => exact ⟨i + 1, by go_num, by omega, A8, N8, c8, _, s', rfl, HN8, by omega, Lib.hid (fun _ => hn7), HM8, hgr8, hO8, hR8⟩
              case measure => simp [intOf]; omega
          · have htb : (t.2 == 0) = false := by simpa using ht0
            have HS' : Hid (s' = t) := Lib.hid (by rw [HST.out, if_neg (fun hh => ht0 hh.1)])
            have hR7 : Ml w5 g h K s'.1 s'.2 := by rw [HS'.out]; exact hR5
            have hX7 := hX5
            have hO7 := hO5
            have hD7 := hD5
            have hgr7 := hgr5
            clear ht0 hR5 hX5 hO5 hD5 hgr5 y2
            obtain ⟨z0, z1, z2, z3, z4, z5, z6, z7, z8, z9, z10, z11, z12, z13⟩ := set14 hX7
            rw [← HW5.out, HGE.out] at z0 z1 z2 z3 z4 z5 z6 z7 z8 z9 z10 z11 z12 z13
            have hap : Rds w5 (fun b => w.heap.size ≤ b ∧ some b ≠ (Value.slice Ao No co).ownBlock) A4 (dvs M) := hO7.apart hD7 (fun b hb => by omega)
            have hlit := blo_ers ⟨F, M, A4, c4⟩ (Blo.made w5 28 (EvV.cells ⟨F, M, A4, c4⟩))
            simp only [EvV.cells] at hlit
            rw [← HK.out] at hlit
            have hsz7 := hgr7.size
            have e1 := hO7.new (b_alloc w5 (.cells (ecs F A4 k c4) 28))
            have hszz : w5.heap.size = w4.heap.size + 1 := by rw [← HW5.out]; simp
            rw [hszz] at hlit
            rw [← HW5.out] at e1 hlit
            go_wp2_with (at_builtin; refine wpList_eapp _ rfl _ _ rfl w.heap.size _ m rfl e1.row (fun _ => True) _ 1 1 [⟨F, M, A4, c4⟩] rfl rfl hlit (by have := HNo.out.2; omega) (by simp; omega) ?_)
            intro v8 w8 hrow8 hg8 hv8
            rw [HW5.out] at hg8 e1
            have hv9 : v8.ownBlock = (Value.slice Ao No co).ownBlock ∨ v8.ownBlock = some (w5.alloc (.cells (ecs F A4 k c4) 28)).heap.size := by simpa [hszz] using hv8
            have hO8 := e1.snoc hrow8 hg8 hv9 (hap.alloc _)
            have hgr8 : w.grownBy w8 (some g) := gb_new (gb_alloc hgr7 (.cells (ecs F A4 k c4) 28)) hg8 (fun b hb => (hO7.row.lt b hb).1)
            have hR8 : Ml w8 g h K s'.1 s'.2 := (hR7.new (b_alloc w5 (.cells (ecs F A4 k c4) 28))).grown hg8 (fun e => by have := (hO7.row.lt g e.symm).1; omega) (fun e => by have := (hO7.row.lt h e.symm).1; omega)
            obtain ⟨A8, c8, rfl, _⟩ := hrow8.form
            obtain ⟨N8, hN8⟩ : ∃ N, N = (m ++ [(⟨F, M, A4, c4⟩ : EvV)]).length := ⟨_, rfl⟩
            rw [← hN8] at hO8 ⊢
            have HN8 : Hid (N8 = (m ++ [(⟨F, M, A4, c4⟩ : EvV)]).length ∧ (m ++ [(⟨F, M, A4, c4⟩ : EvV)]).length = i + 1) := Lib.hid ⟨hN8, by simp [HNo.out.2]⟩
            have HM8 : Hid (Saf R n (plain (m ++ [(⟨F, M, A4, c4⟩ : EvV)])) s') := Lib.hid (by rw [plain_app]; exact HM.out)
            clear hN8 hrow8 hg8 hv8 hlit hap e1 hO7 hR7 hgr7 hX7 hD7 z0 z1 z2 z3 z4 z5 z6 z7 z8 z9 z10 z11 z12 z13
            go_wp2
            go_roundw
            case rel => exact ⟨i + 1, by go_num, by omega, A8, N8, c8, _, s', rfl, HN8, by omega, Lib.hid (fun _ => hn7), HM8, hgr8, hO8, hR8⟩
            case measure => simp [intOf]; omega
        · have hx0 : (si.2 == 0) = false := by simpa using h0
          have HR := fin (fun hh => h0 hh.2)
          clear h0 fin
          go_wp2
          go_ret
          unfold GotA
          rw [HR.out]
          simp only
          rw [plain_len, ← HNo.out.1]
          exact ⟨Ao, co, m, rfl, rfl, hO, hRr, hgr⟩
      · have HR := fin (fun hh => hlt hh.1)
        clear fin
        go_wp2
        go_ret
        unfold GotA
        rw [HR.out]
        simp only
        rw [plain_len, ← HNo.out.1]
        exact ⟨Ao, co, m, rfl, rfl, hO, hRr, hgr⟩
  · have h1 : ¬ (768 : Int) < (n : Int) := by omega
    have hr3 : Ml w1 g h K sc.1 sc.2 := by rw [HSC.out]; unfold E.cutA; rw [if_neg h1]; exact hr1
    have hg3 := hg1
    clear h768
    go_wp2_with fail
    go_loopw [3, 5] (fun ov iv wr => ∃ i : Nat, iv = .int .i64 i ∧ i ≤ n ∧ RbSt g h K R w n i ov wr) (fun _ iv _ => n - (intOf iv).toNat)
    case atStart => exact ⟨0, rfl, by omega, none, 0, 0, [], sc, rfl, Lib.hid ⟨rfl, rfl⟩, by omega, HC, HS, hg3, EOwn.nil _ _ _, hr3⟩
    case round =>
      obtain ⟨i, rfl, hi, Ao, No, co, m, si, rfl, HNo, hi7, HCi, HSi, hgr, hO, hRr⟩ := hrel
      obtain ⟨_, _, _, _, _, x2, _⟩ := hRr.cells
      have fin : ¬ (i < n ∧ si.2 = 0) → Hid (R = (plain m, si)) := fun hh => Lib.hid (by
        by_cases h1 : i < n
        · exact HSi.out.bad (fun h2 => hh ⟨h1, h2⟩)
        · exact HSi.out.done (by rw [plain_len, HNo.out.2]; exact h1))
      by_cases hlt : i < n
      · have hi1 : (i : Int) < (n : Int) := by omega
        by_cases h0 : si.2 = 0
        · have hx0 : (si.2 == 0) = true := by simpa using h0
          have hn7 := HCi.out h0
          have hev := eread_any hRr
          have hlm : (plain m).length < n := by rw [plain_len, HNo.out.2]; exact hlt
          have HM := Lib.hid (HSi.out.more h0 hlm)
          have hszr := hgr.size
          have hm96 := rdL_len si
          have HST : Hid (E.stp si = if (E.rdL si).2.2 = 0 ∧ E.right (E.rdF si) (E.rdL si).1 = false then ((E.rdL si).2.1, 4) else (E.rdL si).2) := Lib.hid rfl
          unfold GotE at hev
          obtain ⟨F, hF⟩ : ∃ F, F = E.rdF si := ⟨_, rfl⟩
          obtain ⟨M, hM⟩ : ∃ M, M = (E.rdL si).1 := ⟨_, rfl⟩
          obtain ⟨t, ht⟩ : ∃ t, t = (E.rdL si).2 := ⟨_, rfl⟩
          obtain ⟨s', hs'⟩ : ∃ s', s' = E.stp si := ⟨_, rfl⟩
          obtain ⟨k, hk⟩ : ∃ k, k = M.length := ⟨_, rfl⟩
          rw [← hF, ← hM, ← ht, ← hk] at hev
          rw [← hF, ← hM, ← hs'] at HM
          rw [← hF, ← hM, ← hs', ← ht] at HST
          rw [← hM, ← hk] at hm96
          have HK := Lib.hid hk
          have h0' := Lib.hid h0
          clear hF hM ht hs' hlm hk fin HSi h0
          go_wp2_with fail
          refine hev.mono ?_
          rintro e w4 ⟨A4, c4, rfl, hD4, hR4, hg4⟩
          have hgr4 := gb_trans hgr hg4
          have hO4 := hO.keep (w' := w4) (fun b hb hl => hg4.block b hl (fun e => by injection e with e; rcases hb with hb | hb <;> omega))
          obtain ⟨w5, hw5⟩ : ∃ W, w4.alloc (.cells (ecs F A4 k c4) 28) = W := ⟨_, rfl⟩
          obtain ⟨ge, hge⟩ : ∃ q, q = w4.heap.size := ⟨_, rfl⟩
          have hb5 : Below w4.heap.size w4 w5 := by rw [← hw5]; exact b_alloc _ _
          have hX5 : Blo w5 ge 28 (ecs F A4 k c4) := by rw [← hw5, hge]; exact Blo.made _ _ _
          have hR5 := hR4.new hb5
          have hO5 := hO4.new hb5
          have hD5 : DRow w5 wr.heap.size (.slice A4 k c4) M := hD4.new hb5
          have hgr5 : w.grownBy w5 (some g) := gb_trans hgr4 (gb_below hb5 _)
          have hge4 : w4.heap.size ≤ ge := by omega
          have hsz4 := hgr4.size
          obtain ⟨_, _, _, _, _, y2, _⟩ := hR5.cells
          have HW5 := Lib.hid hw5
          have HGE := Lib.hid hge
          have y2' := y2
          rw [← HW5.out] at y2'
          clear hev hw5 hge x2 hx0 hO hRr hgr hg4 hR4 hO4 hgr4 hD4 hb5
          by_cases ht0 : t.2 = 0
          · have htb : (t.2 == 0) = true := by simpa using ht0
            have hright := eright_any _ F A4 k c4 M w5 HK.out.symm hD5.rdsT (by unfold maxLen; omega)
            obtain ⟨z0, z1, z2, z3, z4, z5, z6, z7, z8, z9, z10, z11, z12, z13⟩ := set14 hX5
            rw [← HW5.out, HGE.out] at z0 z1 z2 z3 z4 z5 z6 z7 z8 z9 z10 z11 z12 z13
            have HT0 := Lib.hid ht0
            clear ht0
            go_wp2_with fail
            rw [HW5.out, ← HGE.out]
            refine hright.mono ?_
            rintro e w6 ⟨rfl, hb6⟩
            have hX6 := hX5.new hb6
            have hR6 := hR5.new hb6
            have hO6 := hO5.new hb6
            have hD6 := hD5.new hb6
            have hgr6 : w.grownBy w6 (some g) := gb_trans hgr5 (gb_below hb6 _)
            have hsz6 := hgr6.size
            clear hright z0 z1 z2 z3 z4 z5 z6 z7 z8 z9 z10 z11 z12 z13 hX5 hR5 hO5 hD5 hgr5 hb6 y2 y2'
            cases hq : E.right F M with
            | false =>
              have HS' : Hid (s' = (t.1, 4)) := Lib.hid (by rw [HST.out, if_pos ⟨HT0.out, hq⟩])
              clear hq
              obtain ⟨p6, hm6, ep6⟩ := hR6
              obtain ⟨_, _, q0, q1, q2, f1, f2, _⟩ := hm6.cells
              have hE6 := hm6.setE 4
              have hR7 : Ml (w6.setCell ⟨g, 2, none⟩ (.int .i64 4)) g h K s'.1 s'.2 := by rw [HS'.out]; exact ⟨p6, hE6.1, ep6⟩
              have hg7 := hE6.2
              have hX7 := hX6.grown hg7 (fun e => by injection e with e; omega)
              have hO7 := hO6.keep (w' := w6.setCell ⟨g, 2, none⟩ (.int .i64 4)) (fun b hb hl => hg7.block b hl (fun e => by injection e with e; rcases hb with hb | hb <;> omega))
              have hD7 := hD6.grown hg7 (fun b hb e => by injection e with e; have := (hD6.lt b hb).1; omega)
              have hgr7 := gb_trans hgr6 hg7
              obtain ⟨w7, hw7⟩ : ∃ W, w6.setCell ⟨g, 2, none⟩ (.int .i64 4) = W := ⟨_, rfl⟩
              rw [hw7] at hR7 hX7 hO7 hD7 hgr7
              have HW7 := Lib.hid hw7
              clear hw7 hE6 hg7 hm6 hX6 hO6 hD6 hgr6
              obtain ⟨z0, z1, z2, z3, z4, z5, z6, z7, z8, z9, z10, z11, z12, z13⟩ := set14 hX7
              rw [← HW7.out] at z0 z1 z2 z3 z4 z5 z6 z7 z8 z9 z10 z11 z12 z13
              have hap : Rds w7 (fun b => w.heap.size ≤ b ∧ some b ≠ (Value.slice Ao No co).ownBlock) A4 (dvs M) := hO7.apart hD7 (fun b hb => by omega)
              have hlit := blo_ers ⟨F, M, A4, c4⟩ (Blo.made w7 28 (EvV.cells ⟨F, M, A4, c4⟩))
              simp only [EvV.cells] at hlit
              rw [← HK.out] at hlit
              have hsz7 := hgr7.size
              have e1 := hO7.new (b_alloc w7 (.cells (ecs F A4 k c4) 28))
              have hszz : w7.heap.size = w6.heap.size := by rw [← HW7.out]; simp [World.setCell]
              rw [hszz] at hlit
              rw [← HW7.out] at e1 hlit
              go_wp2_with (at_builtin; refine wpList_eapp _ rfl _ _ rfl w.heap.size _ m rfl e1.row (fun _ => True) _ 1 1 [⟨F, M, A4, c4⟩] rfl rfl hlit (by have := HNo.out.2; omega) (by simp; omega) ?_)
              intro v8 w8 hrow8 hg8 hv8
              rw [HW7.out] at hg8 e1
              have hv9 : v8.ownBlock = (Value.slice Ao No co).ownBlock ∨ v8.ownBlock = some (w7.alloc (.cells (ecs F A4 k c4) 28)).heap.size := by simpa [hszz] using hv8
              have hO8 := e1.snoc hrow8 hg8 hv9 (hap.alloc _)
              have hgr8 : w.grownBy w8 (some g) := gb_new (gb_alloc hgr7 (.cells (ecs F A4 k c4) 28)) hg8 (fun b hb => (hO7.row.lt b hb).1)
              have hR8 : Ml w8 g h K s'.1 s'.2 := (hR7.new (b_alloc w7 (.cells (ecs F A4 k c4) 28))).grown hg8 (fun e => by have := (hO7.row.lt g e.symm).1; omega) (fun e => by have := (hO7.row.lt h e.symm).1; omega)
              obtain ⟨A8, c8, rfl, _⟩ := hrow8.form
              obtain ⟨N8, hN8⟩ : ∃ N, N = (m ++ [(⟨F, M, A4, c4⟩ : EvV)]).length := ⟨_, rfl⟩
              rw [← hN8] at hO8 ⊢
              have HN8 : Hid (N8 = (m ++ [(⟨F, M, A4, c4⟩ : EvV)]).length ∧ (m ++ [(⟨F, M, A4, c4⟩ : EvV)]).length = i + 1) := Lib.hid ⟨hN8, by simp [HNo.out.2]⟩
              have HM8 : Hid (Saf R n (plain (m ++ [(⟨F, M, A4, c4⟩ : EvV)])) s') := Lib.hid (by rw [plain_app]; exact HM.out)
              clear hN8 hrow8 hg8 hv8 hlit hap e1 hO7 hR7 hgr7 hX7 hD7 z0 z1 z2 z3 z4 z5 z6 z7 z8 z9 z10 z11 z12 z13
              go_wp2
              go_roundw
              case rel => exact ⟨i + 1, by go_num, by omega, A8, N8, c8, _, s', rfl, HN8, by omega, Lib.hid (fun _ => hn7), HM8, hgr8, hO8, hR8⟩
              case measure => simp [intOf]; omega
            | true =>
              have HS' : Hid (s' = t) := Lib.hid (by rw [HST.out, if_neg (fun hh => by rw [hq] at hh; cases hh.2)])
              clear hq
              have hR7 : Ml w6 g h K s'.1 s'.2 := by rw [HS'.out]; exact hR6
              have hX7 := hX6
              have hO7 := hO6
              have hD7 := hD6
              have hgr7 := hgr6
              obtain ⟨w7, hw7⟩ : ∃ W, w6 = W := ⟨_, rfl⟩
              subst hw7
              clear hR6 hX6 hO6 hD6 hgr6
              obtain ⟨z0, z1, z2, z3, z4, z5, z6, z7, z8, z9, z10, z11, z12, z13⟩ := set14 hX7
              have hap : Rds w6 (fun b => w.heap.size ≤ b ∧ some b ≠ (Value.slice Ao No co).ownBlock) A4 (dvs M) := hO7.apart hD7 (fun b hb => by omega)
              have hlit := blo_ers ⟨F, M, A4, c4⟩ (Blo.made w6 28 (EvV.cells ⟨F, M, A4, c4⟩))
              simp only [EvV.cells] at hlit
              rw [← HK.out] at hlit
              have hsz7 := hgr7.size
              have e1 := hO7.new (b_alloc w6 (.cells (ecs F A4 k c4) 28))
              go_wp2_with (at_builtin; refine wpList_eapp _ rfl _ _ rfl w.heap.size _ m rfl e1.row (fun _ => True) _ 1 1 [⟨F, M, A4, c4⟩] rfl rfl hlit (by have := HNo.out.2; omega) (by simp; omega) ?_)
              intro v8 w8 hrow8 hg8 hv8
              have hO8 := e1.snoc hrow8 hg8 (by simpa using hv8) (hap.alloc _)
              have hgr8 : w.grownBy w8 (some g) := gb_new (gb_alloc hgr7 (.cells (ecs F A4 k c4) 28)) hg8 (fun b hb => (hO7.row.lt b hb).1)
              have hR8 : Ml w8 g h K s'.1 s'.2 := (hR7.new (b_alloc w6 (.cells (ecs F A4 k c4) 28))).grown hg8 (fun e => by have := (hO7.row.lt g e.symm).1; omega) (fun e => by have := (hO7.row.lt h e.symm).1; omega)
              obtain ⟨A8, c8, rfl, _⟩ := hrow8.form
              obtain ⟨N8, hN8⟩ : ∃ N, N = (m ++ [(⟨F, M, A4, c4⟩ : EvV)]).length := ⟨_, rfl⟩
              rw [← hN8] at hO8 ⊢
              have HN8 : Hid (N8 = (m ++ [(⟨F, M, A4, c4⟩ : EvV)]).length ∧ (m ++ [(⟨F, M, A4, c4⟩ : EvV)]).length = i + 1) := Lib.hid ⟨hN8, by simp [HNo.out.2]⟩
              have HM8 : Hid (Saf R n (plain (m ++ [(⟨F, M, A4, c4⟩ : EvV)])) s') := Lib.hid (by rw [plain_app]; exact HM.out)
              clear hN8 hrow8 hg8 hv8 hlit hap e1 hO7 hR7 hgr7 hX7 hD7 z0 z1 z2 z3 z4 z5 z6 z7 z8 z9 z10 z11 z12 z13
              go_wp2
              go_roundw
              case rel => exact ⟨i + 1, by go_num, by omega, A8, N8, c8, _, s', rfl, HN8, by omega, Lib.hid (fun _ => hn7), HM8, hgr8, hO8, hR8⟩
              case measure => simp [intOf]; omega
          · have htb : (t.2 == 0) = false := by simpa using ht0
            have HS' : Hid (s' = t) := Lib.hid (by rw [HST.out, if_neg (fun hh => ht0 hh.1)])
            have hR7 : Ml w5 g h K s'.1 s'.2 := by rw [HS'.out]; exact hR5
            have hX7 := hX5
            have hO7 := hO5
            have hD7 := hD5
            have hgr7 := hgr5
            clear ht0 hR5 hX5 hO5 hD5 hgr5 y2
            obtain ⟨z0, z1, z2, z3, z4, z5, z6, z7, z8, z9, z10, z11, z12, z13⟩ := set14 hX7
            rw [← HW5.out, HGE.out] at z0 z1 z2 z3 z4 z5 z6 z7 z8 z9 z10 z11 z12 z13
            have hap : Rds w5 (fun b => w.heap.size ≤ b ∧ some b ≠ (Value.slice Ao No co).ownBlock) A4 (dvs M) := hO7.apart hD7 (fun b hb => by omega)
            have hlit := blo_ers ⟨F, M, A4, c4⟩ (Blo.made w5 28 (EvV.cells ⟨F, M, A4, c4⟩))
            simp only [EvV.cells] at hlit
            rw [← HK.out] at hlit
            have hsz7 := hgr7.size
            have e1 := hO7.new (b_alloc w5 (.cells (ecs F A4 k c4) 28))
            have hszz : w5.heap.size = w4.heap.size + 1 := by rw [← HW5.out]; simp
            rw [hszz] at hlit
            rw [← HW5.out] at e1 hlit
            go_wp2_with (at_builtin; refine wpList_eapp _ rfl _ _ rfl w.heap.size _ m rfl e1.row (fun _ => True) _ 1 1 [⟨F, M, A4, c4⟩] rfl rfl hlit (by have := HNo.out.2; omega) (by simp; omega) ?_)
            intro v8 w8 hrow8 hg8 hv8
            rw [HW5.out] at hg8 e1
            have hv9 : v8.ownBlock = (Value.slice Ao No co).ownBlock ∨ v8.ownBlock = some (w5.alloc (.cells (ecs F A4 k c4) 28)).heap.size := by simpa [hszz] using hv8
            have hO8 := e1.snoc hrow8 hg8 hv9 (hap.alloc _)
            have hgr8 : w.grownBy w8 (some g) := gb_new (gb_alloc hgr7 (.cells (ecs F A4 k c4) 28)) hg8 (fun b hb => (hO7.row.lt b hb).1)
            have hR8 : Ml w8 g h K s'.1 s'.2 := (hR7.new (b_alloc w5 (.cells (ecs F A4 k c4) 28))).grown hg8 (fun e => by have := (hO7.row.lt g e.symm).1; omega) (fun e => by have := (hO7.row.lt h e.symm).1; omega)
            obtain ⟨A8, c8, rfl, _⟩ := hrow8.form
            obtain ⟨N8, hN8⟩ : ∃ N, N = (m ++ [(⟨F, M, A4, c4⟩ : EvV)]).length := ⟨_, rfl⟩
            rw [← hN8] at hO8 ⊢
            have HN8 : Hid (N8 = (m ++ [(⟨F, M, A4, c4⟩ : EvV)]).length ∧ (m ++ [(⟨F, M, A4, c4⟩ : EvV)]).length = i + 1) := Lib.hid ⟨hN8, by simp [HNo.out.2]⟩
            have HM8 : Hid (Saf R n (plain (m ++ [(⟨F, M, A4, c4⟩ : EvV)])) s') := Lib.hid (by rw [plain_app]; exact HM.out)
            clear hN8 hrow8 hg8 hv8 hlit hap e1 hO7 hR7 hgr7 hX7 hD7 z0 z1 z2 z3 z4 z5 z6 z7 z8 z9 z10 z11 z12 z13
            go_wp2
            go_roundw
            case rel => exact ⟨i + 1, by go_num, by omega, A8, N8, c8, _, s', rfl, HN8, by omega, Lib.hid (fun _ => hn7), HM8, hgr8, hO8, hR8⟩
            case measure => simp [intOf]; omega
        · have hx0 : (si.2 == 0) = false := by simpa using h0
          have HR := fin (fun hh => h0 hh.2)
          clear h0 fin
          go_wp2
          go_ret
          unfold GotA
          rw [HR.out]
          simp only
          rw [plain_len, ← HNo.out.1]
          exact ⟨Ao, co, m, rfl, rfl, hO, hRr, hgr⟩
      · have HR := fin (fun hh => hlt hh.1)
        clear fin
        go_wp2
        go_ret
        unfold GotA
        rw [HR.out]
        simp only
        rw [plain_len, ← HNo.out.1]
        exact ⟨Ao, co, m, rfl, rfl, hO, hRr, hgr⟩
end Go.Proofs.Ytlckappnpdkihaa
