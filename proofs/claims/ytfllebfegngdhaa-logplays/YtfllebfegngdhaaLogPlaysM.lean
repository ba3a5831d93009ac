/- Layer 14: what LogPlays comes to. -/
import Derived.Test.YtfllebfegngdhaaLgPlay
import Derived.Deep.CutBlock
import Derived.Deep.DeepCutAuto
namespace Go.Proofs.Ytfllebfegngdhaa
set_option linter.unusedVariables false
set_option linter.unusedSimpArgs false
open Go.ChangeShapes Go.WideShapes Go.ChangeAt Go.RowKit Go.Deep

set_option maxRecDepth 100000 in
set_option maxHeartbeats 4000000 in
theorem logplays_main (Z : Int) (A : Option Addr) (c : Nat) (l : List Lg.O) (w : World) (h : LOps w (· < w.heap.size) A l) (hl : l.length ≤ 140737488355328) :
    Calls Try.prog 3 #[.int .i64 Z, .slice A l.length c] w fun e w' => e = .returned (.bool true) ∧ Below w.heap.size w w' := by
  go_enter Try.func3, Try.ntmps3
  go_wp2_with fail
  refine (lgalive_any w).mono ?_
  rintro e w1 ⟨rfl, hb1⟩
  go_wp2_with fail
  refine (lggreat_any w1 _ A c l (h.below hb1) hl).mono ?_
  rintro e w2 ⟨b, rfl, hgr, hb2⟩
  have hb02 := below_new hb1 hb2
  cases b with
  | true =>
    clear hgr
    go_wp2
    go_ret
    exact ⟨rfl, hb02⟩
  | false =>
    obtain ⟨hl100, hm2⟩ := hgr rfl
    have HM2 := Lib.hid hm2
    clear hgr hb1 hb2 hm2
    go_wp2_with fail
    refine (pnew_any Z w2).mono ?_
    intro e w3 hP
    unfold PNewPost at hP
    by_cases hz : 1 ≤ Z ∧ Z ≤ 16384
    · rw [if_pos hz] at hP
      obtain ⟨g, rfl, h1, h2⟩ := hP
      have hb3 := below_new hb02 h2
      have hs2 := hb02.size
      go_wp2_with fail
      refine (rnew_any Z w3).mono ?_
      intro e w4 hP
      unfold RNewPost at hP
      rw [if_pos hz] at hP
      obtain ⟨gm, rfl, h3, h4⟩ := hP
      have hb4 := below_new hb3 h4
      have hs4 := h4.size
      have hs3 := h2.size
      have hD : DPM w w4 w4.heap.size w4.heap.size g gm Z [] [] [] [] := ⟨fun b => w2.heap.size ≤ b ∧ b < w3.heap.size, fun b => w3.heap.size ≤ b ∧ b < w4.heap.size, (h1.mono fun b hb hl => ⟨hb, hl⟩).keep fun b _ hl => h4.block b hl, h3.mono fun b hb hl => ⟨hb, hl⟩, fun b hb => ⟨by omega, by omega, .inl (by omega)⟩, fun b hb => ⟨by omega, hb.2, .inl hb.2⟩, fun b hp hq => by omega⟩
      have hO0 : Dk.Ok Z [] [] := Dk.Ok.new hz.1 hz.2
      have hBy0 : Lg.By [] [] := .new fun x hx => by simp at hx
      clear h1 h2 h3 h4 hb3 hz hb02 hs2 hs4 hs3
      go_wp2_with fail
      go_loopw [43] (fun iv wr => ∃ (i : Nat) (L : List Int) (us : List Dk.U), iv = .int .i64 i ∧ i ≤ l.length ∧ us.length ≤ 16384 * i ∧ Dk.Ok Z L us ∧ Lg.By L us ∧ DPM w wr wr.heap.size wr.heap.size g gm Z L us L us ∧ Below w.heap.size w wr) (fun iv _ => l.length - (intOf iv).toNat)
      case atStart => exact ⟨0, [], [], rfl, Nat.zero_le _, by simp, hO0, hBy0, hD, hb4⟩
      case round =>
        obtain ⟨i, L, us, rfl, hi, hu, hO, hBy, hD, hwr⟩ := hrel
        obtain ⟨wo, hwo⟩ : ∃ W, W = wr := ⟨_, rfl⟩
        subst hwo
        clear hb4 hO0 hBy0
        by_cases hlt : i < l.length
        · have hOr := h.below hwr
          obtain ⟨ad, rfl, c0, c1, c2, c3⟩ := hOr.at hlt
          have hok := hOr.inn l[i] (List.getElem_mem hlt)
          have hom := HM2.out l[i] (List.getElem_mem hlt)
          generalize l[i] = o at c0 c1 c2 c3 hok hom
          obtain ⟨ok, oN, oA, on, oc, oxs, oB, om, od, ous, obs⟩ := o
          simp only at c0 c1 c2 c3 hom
          obtain ⟨hn, hn47, hor, hxb, hm, _, hos, hob, hoz, hNf⟩ := hok
          simp only at hn hn47 hor hxb hm hos hob hoz hNf
          subst hn
          obtain ⟨w4, hw4⟩ : ∃ W, wo.alloc (.cells #[.int .i64 ok, .int .i64 oN, .slice oA oxs.length oc, .slice oB om od] 35) = W := ⟨_, rfl⟩
          have hb4 : Below wo.heap.size wo w4 := by rw [← hw4]; exact b_alloc _ _
          have hB4 : Blo w4 wo.heap.size 35 #[.int .i64 ok, .int .i64 oN, .slice oA oxs.length oc, .slice oB om od] := by rw [← hw4]; exact Blo.made _ _ _
          have hbw4 := below_new hwr hb4
          have hw4s := hbw4.size
          have hpart := hD.part hb4
          have hu9 : us.length ≤ 2000000 := by omega
          have hlen' := Lg.stp_len hO ok oN oxs obs
          have hOk' := Lg.stp_ok hO ok oN oxs obs
          have hBy' := Lg.stp_by (Z := Z) hBy ok oN hxb (bs := obs) (fun b hb => (hoz b hb).2)
          obtain ⟨⟨x, L', us'⟩, hst⟩ : ∃ s, s = Lg.stp Z L us ok oN oxs obs := ⟨_, rfl⟩
          rw [← hst] at hlen' hOk' hBy'
          simp only at hlen' hOk' hBy'
          have HST := Lib.hid hst
          have HX0 : Hid (∀ (ip iq : Nat) f, PXe ip iq w w4 wo.heap.size g gm Z L us L' us' (fun _ => false) f w4) := Lib.hid (fun ip iq f => ⟨⟨hbw4, Nat.le_refl _⟩, fun _ _ _ => rfl, by simpa using hpart⟩)
          have HBq : Hid (∀ W : World, (∀ b, wo.heap.size ≤ b → b < w4.heap.size → W.heap[b]? = w4.heap[b]?) → Blo W wo.heap.size 35 #[.int .i64 ok, .int .i64 oN, .slice oA oxs.length oc, .slice oB om od]) := Lib.hid (fun W hW => hB4.keep (hW _ (Nat.le_refl _) hB4.lt))
          have HAX : Hid (∀ W : World, Below w.heap.size w W → Rds W (· < w.heap.size) oA (u8s oxs)) := Lib.hid (fun W hW => hor.keep fun b hb _ => by rw [hW.block b hb, hwr.block b hb])
          have HAL : Hid (∀ W : World, Below w.heap.size w W → Rds W (· < w.heap.size) oB ous ∧ BRd W (· < w.heap.size) ous obs) := Lib.hid (fun W hW => ⟨hos.keep fun b hb _ => by rw [hW.block b hb, hwr.block b hb], hob.keep fun b hb _ => by rw [hW.block b hb, hwr.block b hb]⟩)
          have HD4 : Hid (DPM w w4 wo.heap.size w4.heap.size g gm Z L us L us) := Lib.hid hpart
          have HBW4 := Lib.hid hbw4
          have HOK := Lib.hid (And.intro hO (And.intro hBy (And.intro hxb (And.intro hm hoz))))
          obtain ⟨d0, d1, d2, d3⟩ := op4_cells hB4
          have HOK' := Lib.hid (And.intro hOk' (And.intro hBy' hlen'))
          clear hOr hD hpart hB4 hb4 hst hor hos hob hO hBy hOk' hBy' hlen' hxb hm hoz hbw4
          go_upto_block 2 with fail
          go_cut [11, 12] (fun av bv wx => av = .int .i64 x ∧ bv = .int .i64 x ∧ Below w.heap.size w wx ∧ DPM w wx wx.heap.size wx.heap.size g gm Z L' us' L' us')
          case first =>
            by_cases h1 : ok = 1
            · subst h1
              have HS : Hid (Lg.wrt Z L us oxs = (x, L', us')) := Lib.hid (by rw [HST.out]; simp [Lg.stp])
              have HPD : Hid (∀ (Lf : Nat → Bool) (f : Nat → Value) (W : World), PXe 3 7 w w4 wo.heap.size g gm Z L us L' us' Lf f W → Lf 3 = false → Calls Try.prog 11 #[.pointer (some ⟨g, 0, none⟩), .slice oA oxs.length oc] W fun e w' => e = .returned (.int .i64 x) ∧ PXe 3 7 w w4 wo.heap.size g gm Z L us L' us' (lst1 Lf 3) (updT f (some 54) (.int .i64 x)) w') := Lib.hid (fun Lf f W hX h2 => hX.prog h2 (by decide) fun fp k1 k2 => by
                have := plwrite_any k1 HOK.out.1 (by omega) (· < w.heap.size) oA oxs.length oc oxs rfl (HAX.out W hX.1.1) HOK.out.2.2.1 hn47
                rw [HS.out] at this
                exact this)
              have HMD : Hid (∀ (Lf : Nat → Bool) (f : Nat → Value) (W : World), PXe 3 7 w w4 wo.heap.size g gm Z L us L' us' Lf f W → Lf 7 = false → Calls Try.prog 12 #[.pointer (some ⟨gm, 0, none⟩), .slice oA oxs.length oc] W fun e w' => e = .returned (.int .i64 x) ∧ PXe 3 7 w w4 wo.heap.size g gm Z L us L' us' (lst1 Lf 7) (updT f (some 58) (.int .i64 x)) w') := Lib.hid (fun Lf f W hX h5 => hX.doc h5 (by decide) fun fq k1 k2 => by
                have := rlwrite_any k1 HOK.out.1 (by omega) (· < w.heap.size) oA oxs.length oc oxs rfl (HAX.out W hX.1.1) HOK.out.2.2.1 hn47
                rw [HS.out] at this
                exact this)
              go_wp2_with fail
              refine wp_famY (size := 138) (D := [51, 52, 53, 54, 55, 56, 57, 58, 11, 12]) [2, 3, 6, 7] [] [(51, isV (.pointer (some ⟨g, 0, none⟩))), (52, isV (.pointer (some ⟨wo.heap.size, 2, none⟩))), (53, isV (.slice oA oxs.length oc)), (54, isV (.int .i64 x)), (55, isV (.pointer (some ⟨gm, 0, none⟩))), (56, isV (.pointer (some ⟨wo.heap.size, 2, none⟩))), (57, isV (.slice oA oxs.length oc)), (58, isV (.int .i64 x)), (11, isV (.int .i64 x)), (12, isV (.int .i64 x))] (PXe 3 7 w w4 wo.heap.size g gm Z L us L' us') (PXe.up hw4s (by decide) (by decide)) (by kernel_rfl) (by rfl) (by kernel_rfl) (HX0.out 3 7 _) ?_ ?_
              · simp only [famAllY]
                repeat' apply And.intro
                · rw [if_neg (by decide)]
                  intro f V hl
                  simp [Oper.looksAt, Op.operands, Call.operands, famAt, famOf, isV] at hl
                  simp [famWants, boolIs_bool, boolIs_undef, execOp, rho, go_sem, hl, famUpon, famOf, isV, Grows.refl]
                · rw [if_neg (by decide)]
                  intro f V hl
                  simp [Oper.looksAt, Op.operands, Call.operands, famAt, famOf, isV] at hl
                  simp [famWants, boolIs_bool, boolIs_undef, execOp, rho, go_sem, hl, famUpon, famOf, isV, Grows.refl]
                · rw [if_pos (by decide)]
                  intro Lf f W hi hcl hwt hX hl
                  simp [Oper.looksAt, Op.operands, Call.operands, famAt, famOf, isV] at hl
                  obtain ⟨d0, d1, d2, d3⟩ := op4_cells (HBq.out W hX.2.1)
                  simp [famWants, execOp, rho, go_sem, hl, d2, famUpon, famOf, isV]
                  exact hX.pass (by decide)
                · rw [if_pos (by decide)]
                  intro Lf f W hi hcl hwt hX hl
                  simp [Oper.looksAt, Op.operands, Call.operands, famAt, famOf, isV] at hl
                  have hc := HPD.out Lf f W hX hi
                  simp [famWants, execOp, rho, go_sem, hl, famUpon, famOf, isV]
                  refine hc.mono ?_
                  rintro e w'' ⟨rfl, hX'⟩
                  exact ⟨_, rfl, rfl, hX'⟩
                · rw [if_neg (by decide)]
                  intro f V hl
                  simp [Oper.looksAt, Op.operands, Call.operands, famAt, famOf, isV] at hl
                  simp [famWants, boolIs_bool, boolIs_undef, execOp, rho, go_sem, hl, famUpon, famOf, isV, Grows.refl]
                · rw [if_neg (by decide)]
                  intro f V hl
                  simp [Oper.looksAt, Op.operands, Call.operands, famAt, famOf, isV] at hl
                  simp [famWants, boolIs_bool, boolIs_undef, execOp, rho, go_sem, hl, famUpon, famOf, isV, Grows.refl]
                · rw [if_pos (by decide)]
                  intro Lf f W hi hcl hwt hX hl
                  simp [Oper.looksAt, Op.operands, Call.operands, famAt, famOf, isV] at hl
                  obtain ⟨d0, d1, d2, d3⟩ := op4_cells (HBq.out W hX.2.1)
                  simp [famWants, execOp, rho, go_sem, hl, d2, famUpon, famOf, isV]
                  exact hX.pass (by decide)
                · rw [if_pos (by decide)]
                  intro Lf f W hi hcl hwt hX hl
                  simp [Oper.looksAt, Op.operands, Call.operands, famAt, famOf, isV] at hl
                  have hc := HMD.out Lf f W hX hi
                  simp [famWants, execOp, rho, go_sem, hl, famUpon, famOf, isV]
                  refine hc.mono ?_
                  rintro e w'' ⟨rfl, hX'⟩
                  exact ⟨_, rfl, rfl, hX'⟩
                · rw [if_neg (by decide)]
                  intro f V hl
                  simp [Oper.looksAt, Op.operands, Call.operands, famAt, famOf, isV] at hl
                  simp [famWants, boolIs_bool, boolIs_undef, execOp, rho, go_sem, hl, famUpon, famOf, isV, Grows.refl]
                · rw [if_neg (by decide)]
                  intro f V hl
                  simp [Oper.looksAt, Op.operands, Call.operands, famAt, famOf, isV] at hl
                  simp [famWants, boolIs_bool, boolIs_undef, execOp, rho, go_sem, hl, famUpon, famOf, isV, Grows.refl]
                · trivial
              · intro Lf u W hL hX hu
                have e11 : u 11 = .int .i64 x := hu 11 (by decide)
                have e12 : u 12 = .int .i64 x := hu 12 (by decide)
                simp only [fill, Act.put, List.setIfInBounds_toArray, List.set_cons_zero, List.set_cons_succ, e11, e12]
                refine wpList_nil ?_
                obtain ⟨⟨hbW, hsW⟩, hkW, hDW⟩ := hX
                rw [hL 3 (by decide), hL 7 (by decide)] at hDW
                simp only [if_true] at hDW
                have HR := Lib.hid (And.intro hbW hDW.join)
                clear hu hL e11 e12 HX0 HPD HMD hbW hsW hkW hDW d0 d1 d2 d3
                go_wp2_with fail
                go_meet
                exact ⟨rfl, rfl, HR.out⟩
            have g1 : (ok == 1) = false := by simpa using h1
            by_cases h2 : ok = 2
            · subst h2
              have HS : Hid (x = 0 ∧ (Lg.mnd L us).1 = L' ∧ (Lg.mnd L us).2 = us') := Lib.hid (by have := HST.out; simp [Lg.stp] at this; exact ⟨this.1, by rw [← this.2], by rw [← this.2]⟩)
              have C1 := HD4.out.prog HBW4.out (Nat.le_refl _) (r := .int .i64 0) (L' := L') (us' := us') (fun fp k1 k2 => by
                have := plmend_any k1 HOK.out.1 HOK.out.2.1 (by omega)
                rw [HS.out.2.1, HS.out.2.2] at this
                exact this)
              go_wp2_with fail
              refine C1.mono ?_
              rintro e w5 ⟨rfl, hD5, hb5, hs5, hk5⟩
              obtain ⟨d0, d1, d2, d3⟩ := op4_cells (HBq.out w5 hk5)
              have C2 := hD5.doc hb5 hs5 (r := .tuple #[]) (L' := L') (um' := us') (fun fq k1 k2 => by
                have := rlmend_any k1 HOK.out.1 HOK.out.2.1 (by omega)
                rw [HS.out.2.1, HS.out.2.2] at this
                exact this)
              clear C1 hD5 hb5 hs5 hk5
              go_wp2_with fail
              refine C2.mono ?_
              rintro e w6 ⟨rfl, hD6, hb6, hs6, hk6⟩
              have HR := Lib.hid (And.intro hb6 hD6.join)
              clear C2 hD6 hb6 hs6 hk6 d0 d1 d2 d3 HX0
              have hx0 := HS.out.1
              subst hx0
              go_wp2_with fail
              go_meet
              exact ⟨rfl, rfl, HR.out⟩
            have g2 : (ok == 2) = false := by simpa using h2
            by_cases h3 : ok = 3
            · subst h3
              have HS : Hid (Lg.rwr Z L us obs = (x, L', us')) := Lib.hid (by rw [HST.out]; simp [Lg.stp])
              have HPD : Hid (∀ (Lf : Nat → Bool) (f : Nat → Value) (W : World), PXe 3 7 w w4 wo.heap.size g gm Z L us L' us' Lf f W → Lf 3 = false → Calls Try.prog 15 #[.pointer (some ⟨g, 0, none⟩), .slice oB om od] W fun e w' => e = .returned (.int .i64 x) ∧ PXe 3 7 w w4 wo.heap.size g gm Z L us L' us' (lst1 Lf 3) (updT f (some 70) (.int .i64 x)) w') := Lib.hid (fun Lf f W hX h2 => hX.prog h2 (by decide) fun fp k1 k2 => by
                have := plrewrite_any k1 HOK.out.1 (by omega) (· < w.heap.size) oB om od ous obs HOK.out.2.2.2.1 (by omega) (HAL.out W hX.1.1).1 (HAL.out W hX.1.1).2 HOK.out.2.2.2.2
                rw [HS.out] at this
                exact this)
              have HMD : Hid (∀ (Lf : Nat → Bool) (f : Nat → Value) (W : World), PXe 3 7 w w4 wo.heap.size g gm Z L us L' us' Lf f W → Lf 7 = false → Calls Try.prog 16 #[.pointer (some ⟨gm, 0, none⟩), .slice oB om od] W fun e w' => e = .returned (.int .i64 x) ∧ PXe 3 7 w w4 wo.heap.size g gm Z L us L' us' (lst1 Lf 7) (updT f (some 74) (.int .i64 x)) w') := Lib.hid (fun Lf f W hX h5 => hX.doc h5 (by decide) fun fq k1 k2 => by
                have := rlrewrite_any k1 HOK.out.1 (by omega) (· < w.heap.size) oB om od ous obs HOK.out.2.2.2.1 (by omega) (HAL.out W hX.1.1).1 (HAL.out W hX.1.1).2 HOK.out.2.2.2.2
                rw [HS.out] at this
                exact this)
              go_wp2_with fail
              refine wp_famY (size := 138) (D := [67, 68, 69, 70, 71, 72, 73, 74, 11, 12]) [2, 3, 6, 7] [] [(67, isV (.pointer (some ⟨g, 0, none⟩))), (68, isV (.pointer (some ⟨wo.heap.size, 3, none⟩))), (69, isV (.slice oB om od)), (70, isV (.int .i64 x)), (71, isV (.pointer (some ⟨gm, 0, none⟩))), (72, isV (.pointer (some ⟨wo.heap.size, 3, none⟩))), (73, isV (.slice oB om od)), (74, isV (.int .i64 x)), (11, isV (.int .i64 x)), (12, isV (.int .i64 x))] (PXe 3 7 w w4 wo.heap.size g gm Z L us L' us') (PXe.up hw4s (by decide) (by decide)) (by kernel_rfl) (by rfl) (by kernel_rfl) (HX0.out 3 7 _) ?_ ?_
              · simp only [famAllY]
                repeat' apply And.intro
                · rw [if_neg (by decide)]
                  intro f V hl
                  simp [Oper.looksAt, Op.operands, Call.operands, famAt, famOf, isV] at hl
                  simp [famWants, boolIs_bool, boolIs_undef, execOp, rho, go_sem, hl, famUpon, famOf, isV, Grows.refl]
                · rw [if_neg (by decide)]
                  intro f V hl
                  simp [Oper.looksAt, Op.operands, Call.operands, famAt, famOf, isV] at hl
                  simp [famWants, boolIs_bool, boolIs_undef, execOp, rho, go_sem, hl, famUpon, famOf, isV, Grows.refl]
                · rw [if_pos (by decide)]
                  intro Lf f W hi hcl hwt hX hl
                  simp [Oper.looksAt, Op.operands, Call.operands, famAt, famOf, isV] at hl
                  obtain ⟨d0, d1, d2, d3⟩ := op4_cells (HBq.out W hX.2.1)
                  simp [famWants, execOp, rho, go_sem, hl, d3, famUpon, famOf, isV]
                  exact hX.pass (by decide)
                · rw [if_pos (by decide)]
                  intro Lf f W hi hcl hwt hX hl
                  simp [Oper.looksAt, Op.operands, Call.operands, famAt, famOf, isV] at hl
                  have hc := HPD.out Lf f W hX hi
                  simp [famWants, execOp, rho, go_sem, hl, famUpon, famOf, isV]
                  refine hc.mono ?_
                  rintro e w'' ⟨rfl, hX'⟩
                  exact ⟨_, rfl, rfl, hX'⟩
                · rw [if_neg (by decide)]
                  intro f V hl
                  simp [Oper.looksAt, Op.operands, Call.operands, famAt, famOf, isV] at hl
                  simp [famWants, boolIs_bool, boolIs_undef, execOp, rho, go_sem, hl, famUpon, famOf, isV, Grows.refl]
                · rw [if_neg (by decide)]
                  intro f V hl
                  simp [Oper.looksAt, Op.operands, Call.operands, famAt, famOf, isV] at hl
                  simp [famWants, boolIs_bool, boolIs_undef, execOp, rho, go_sem, hl, famUpon, famOf, isV, Grows.refl]
                · rw [if_pos (by decide)]
                  intro Lf f W hi hcl hwt hX hl
                  simp [Oper.looksAt, Op.operands, Call.operands, famAt, famOf, isV] at hl
                  obtain ⟨d0, d1, d2, d3⟩ := op4_cells (HBq.out W hX.2.1)
                  simp [famWants, execOp, rho, go_sem, hl, d3, famUpon, famOf, isV]
                  exact hX.pass (by decide)
                · rw [if_pos (by decide)]
                  intro Lf f W hi hcl hwt hX hl
                  simp [Oper.looksAt, Op.operands, Call.operands, famAt, famOf, isV] at hl
                  have hc := HMD.out Lf f W hX hi
                  simp [famWants, execOp, rho, go_sem, hl, famUpon, famOf, isV]
                  refine hc.mono ?_
                  rintro e w'' ⟨rfl, hX'⟩
                  exact ⟨_, rfl, rfl, hX'⟩
                · rw [if_neg (by decide)]
                  intro f V hl
                  simp [Oper.looksAt, Op.operands, Call.operands, famAt, famOf, isV] at hl
                  simp [famWants, boolIs_bool, boolIs_undef, execOp, rho, go_sem, hl, famUpon, famOf, isV, Grows.refl]
                · rw [if_neg (by decide)]
                  intro f V hl
                  simp [Oper.looksAt, Op.operands, Call.operands, famAt, famOf, isV] at hl
                  simp [famWants, boolIs_bool, boolIs_undef, execOp, rho, go_sem, hl, famUpon, famOf, isV, Grows.refl]
                · trivial
              · intro Lf u W hL hX hu
                have e11 : u 11 = .int .i64 x := hu 11 (by decide)
                have e12 : u 12 = .int .i64 x := hu 12 (by decide)
                simp only [fill, Act.put, List.setIfInBounds_toArray, List.set_cons_zero, List.set_cons_succ, e11, e12]
                refine wpList_nil ?_
                obtain ⟨⟨hbW, hsW⟩, hkW, hDW⟩ := hX
                rw [hL 3 (by decide), hL 7 (by decide)] at hDW
                simp only [if_true] at hDW
                have HR := Lib.hid (And.intro hbW hDW.join)
                clear hu hL e11 e12 HX0 HPD HMD hbW hsW hkW hDW d0 d1 d2 d3
                go_wp2_with fail
                go_meet
                exact ⟨rfl, rfl, HR.out⟩
            have g3 : (ok == 3) = false := by simpa using h3
            by_cases h4 : ok = 4
            · subst h4
              have HS : Hid (Dk.apE Z L us oxs = x ∧ L = L' ∧ Dk.apU Z L us oxs = us') := Lib.hid (by have := HST.out; simp [Lg.stp] at this; exact ⟨this.1.symm, this.2.1.symm, this.2.2.symm⟩)
              have HPD : Hid (∀ (Lf : Nat → Bool) (f : Nat → Value) (W : World), PXe 3 7 w w4 wo.heap.size g gm Z L us L' us' Lf f W → Lf 3 = false → Calls Try.prog 17 #[.pointer (some ⟨g, 0, none⟩), .slice oA oxs.length oc] W fun e w' => e = .returned (.int .i64 x) ∧ PXe 3 7 w w4 wo.heap.size g gm Z L us L' us' (lst1 Lf 3) (updT f (some 80) (.int .i64 x)) w') := Lib.hid (fun Lf f W hX h2 => hX.prog h2 (by decide) fun fp k1 k2 => by
                have := pappend_any k1 HOK.out.1 (by omega) (· < w.heap.size) oA oxs.length oc oxs rfl (HAX.out W hX.1.1) (fun b hb hl hf => by have := (k2 b hf).1; omega) hn47
                rw [HS.out.1, HS.out.2.2, show PskPost (.int .i64 x) Z L us' fp g W = PskPost (.int .i64 x) Z L' us' fp g W by rw [HS.out.2.1]] at this
                exact this)
              have HMD : Hid (∀ (Lf : Nat → Bool) (f : Nat → Value) (W : World), PXe 3 7 w w4 wo.heap.size g gm Z L us L' us' Lf f W → Lf 7 = false → Calls Try.prog 18 #[.pointer (some ⟨gm, 0, none⟩), .slice oA oxs.length oc] W fun e w' => e = .returned (.int .i64 x) ∧ PXe 3 7 w w4 wo.heap.size g gm Z L us L' us' (lst1 Lf 7) (updT f (some 84) (.int .i64 x)) w') := Lib.hid (fun Lf f W hX h5 => hX.doc h5 (by decide) fun fq k1 k2 => by
                have := rappend_any k1 HOK.out.1 (by omega) (· < w.heap.size) oA oxs.length oc oxs rfl (HAX.out W hX.1.1) (fun b hb hl hf => by have := (k2 b hf).1; omega) hn47
                rw [HS.out.1, HS.out.2.2, show DskPost (.int .i64 x) Z L us' fq gm W = DskPost (.int .i64 x) Z L' us' fq gm W by rw [HS.out.2.1]] at this
                exact this)
              go_wp2_with fail
              refine wp_famY (size := 138) (D := [77, 78, 79, 80, 81, 82, 83, 84, 11, 12]) [2, 3, 6, 7] [] [(77, isV (.pointer (some ⟨g, 0, none⟩))), (78, isV (.pointer (some ⟨wo.heap.size, 2, none⟩))), (79, isV (.slice oA oxs.length oc)), (80, isV (.int .i64 x)), (81, isV (.pointer (some ⟨gm, 0, none⟩))), (82, isV (.pointer (some ⟨wo.heap.size, 2, none⟩))), (83, isV (.slice oA oxs.length oc)), (84, isV (.int .i64 x)), (11, isV (.int .i64 x)), (12, isV (.int .i64 x))] (PXe 3 7 w w4 wo.heap.size g gm Z L us L' us') (PXe.up hw4s (by decide) (by decide)) (by kernel_rfl) (by rfl) (by kernel_rfl) (HX0.out 3 7 _) ?_ ?_
              · simp only [famAllY]
                repeat' apply And.intro
                · rw [if_neg (by decide)]
                  intro f V hl
                  simp [Oper.looksAt, Op.operands, Call.operands, famAt, famOf, isV] at hl
                  simp [famWants, boolIs_bool, boolIs_undef, execOp, rho, go_sem, hl, famUpon, famOf, isV, Grows.refl]
                · rw [if_neg (by decide)]
                  intro f V hl
                  simp [Oper.looksAt, Op.operands, Call.operands, famAt, famOf, isV] at hl
                  simp [famWants, boolIs_bool, boolIs_undef, execOp, rho, go_sem, hl, famUpon, famOf, isV, Grows.refl]
                · rw [if_pos (by decide)]
                  intro Lf f W hi hcl hwt hX hl
                  simp [Oper.looksAt, Op.operands, Call.operands, famAt, famOf, isV] at hl
                  obtain ⟨d0, d1, d2, d3⟩ := op4_cells (HBq.out W hX.2.1)
                  simp [famWants, execOp, rho, go_sem, hl, d2, famUpon, famOf, isV]
                  exact hX.pass (by decide)
                · rw [if_pos (by decide)]
                  intro Lf f W hi hcl hwt hX hl
                  simp [Oper.looksAt, Op.operands, Call.operands, famAt, famOf, isV] at hl
                  have hc := HPD.out Lf f W hX hi
                  simp [famWants, execOp, rho, go_sem, hl, famUpon, famOf, isV]
                  refine hc.mono ?_
                  rintro e w'' ⟨rfl, hX'⟩
                  exact ⟨_, rfl, rfl, hX'⟩
                · rw [if_neg (by decide)]
                  intro f V hl
                  simp [Oper.looksAt, Op.operands, Call.operands, famAt, famOf, isV] at hl
                  simp [famWants, boolIs_bool, boolIs_undef, execOp, rho, go_sem, hl, famUpon, famOf, isV, Grows.refl]
                · rw [if_neg (by decide)]
                  intro f V hl
                  simp [Oper.looksAt, Op.operands, Call.operands, famAt, famOf, isV] at hl
                  simp [famWants, boolIs_bool, boolIs_undef, execOp, rho, go_sem, hl, famUpon, famOf, isV, Grows.refl]
                · rw [if_pos (by decide)]
                  intro Lf f W hi hcl hwt hX hl
                  simp [Oper.looksAt, Op.operands, Call.operands, famAt, famOf, isV] at hl
                  obtain ⟨d0, d1, d2, d3⟩ := op4_cells (HBq.out W hX.2.1)
                  simp [famWants, execOp, rho, go_sem, hl, d2, famUpon, famOf, isV]
                  exact hX.pass (by decide)
                · rw [if_pos (by decide)]
                  intro Lf f W hi hcl hwt hX hl
                  simp [Oper.looksAt, Op.operands, Call.operands, famAt, famOf, isV] at hl
                  have hc := HMD.out Lf f W hX hi
                  simp [famWants, execOp, rho, go_sem, hl, famUpon, famOf, isV]
                  refine hc.mono ?_
                  rintro e w'' ⟨rfl, hX'⟩
                  exact ⟨_, rfl, rfl, hX'⟩
                · rw [if_neg (by decide)]
                  intro f V hl
                  simp [Oper.looksAt, Op.operands, Call.operands, famAt, famOf, isV] at hl
                  simp [famWants, boolIs_bool, boolIs_undef, execOp, rho, go_sem, hl, famUpon, famOf, isV, Grows.refl]
                · rw [if_neg (by decide)]
                  intro f V hl
                  simp [Oper.looksAt, Op.operands, Call.operands, famAt, famOf, isV] at hl
                  simp [famWants, boolIs_bool, boolIs_undef, execOp, rho, go_sem, hl, famUpon, famOf, isV, Grows.refl]
                · trivial
              · intro Lf u W hL hX hu
                have e11 : u 11 = .int .i64 x := hu 11 (by decide)
                have e12 : u 12 = .int .i64 x := hu 12 (by decide)
                simp only [fill, Act.put, List.setIfInBounds_toArray, List.set_cons_zero, List.set_cons_succ, e11, e12]
                refine wpList_nil ?_
                obtain ⟨⟨hbW, hsW⟩, hkW, hDW⟩ := hX
                rw [hL 3 (by decide), hL 7 (by decide)] at hDW
                simp only [if_true] at hDW
                have HR := Lib.hid (And.intro hbW hDW.join)
                clear hu hL e11 e12 HX0 HPD HMD hbW hsW hkW hDW d0 d1 d2 d3
                go_wp2_with fail
                go_meet
                exact ⟨rfl, rfl, HR.out⟩
            have g4 : (ok == 4) = false := by simpa using h4
            by_cases h5 : ok = 5
            · subst h5
              have HS : Hid (x = 0 ∧ Dk.aft L (us.take (Dk.cut oN us.length)) = L' ∧ [] = us') := Lib.hid (by have := HST.out; simp [Lg.stp] at this; exact ⟨this.1, this.2.1.symm, this.2.2.symm⟩)
              have C1 := HD4.out.prog HBW4.out (Nat.le_refl _) (r := .tuple #[]) (L' := L') (us' := us') (fun fp k1 k2 => by
                have := pcrash_any k1 HOK.out.1 (by omega) oN hNf
                rw [HS.out.2.1, HS.out.2.2] at this
                exact this)
              go_wp2_with fail
              refine C1.mono ?_
              rintro e w5 ⟨rfl, hD5, hb5, hs5, hk5⟩
              obtain ⟨d0, d1, d2, d3⟩ := op4_cells (HBq.out w5 hk5)
              have C2 := hD5.doc hb5 hs5 (r := .tuple #[]) (L' := L') (um' := us') (fun fq k1 k2 => by
                have := rcrash_any k1 HOK.out.1 (by omega) oN
                rw [HS.out.2.1, HS.out.2.2] at this
                exact this)
              clear C1 hD5 hb5 hs5 hk5
              go_wp2_with fail
              refine C2.mono ?_
              rintro e w6 ⟨rfl, hD6, hb6, hs6, hk6⟩
              have HR := Lib.hid (And.intro hb6 hD6.join)
              clear C2 hD6 hb6 hs6 hk6 d0 d1 d2 d3 HX0
              have hx0 := HS.out.1
              subst hx0
              go_wp2_with fail
              go_meet
              exact ⟨rfl, rfl, HR.out⟩
            have g5 : (ok == 5) = false := by simpa using h5
            by_cases h6 : ok = 6
            · subst h6
              have HS : Hid (Dk.swE Z oxs = x ∧ L = L' ∧ Dk.swU Z us oxs = us') := Lib.hid (by have := HST.out; simp [Lg.stp] at this; exact ⟨this.1.symm, this.2.1.symm, this.2.2.symm⟩)
              have HPD : Hid (∀ (Lf : Nat → Bool) (f : Nat → Value) (W : World), PXe 3 7 w w4 wo.heap.size g gm Z L us L' us' Lf f W → Lf 3 = false → Calls Try.prog 21 #[.pointer (some ⟨g, 0, none⟩), .slice oA oxs.length oc] W fun e w' => e = .returned (.int .i64 x) ∧ PXe 3 7 w w4 wo.heap.size g gm Z L us L' us' (lst1 Lf 3) (updT f (some 100) (.int .i64 x)) w') := Lib.hid (fun Lf f W hX h2 => hX.prog h2 (by decide) fun fp k1 k2 => by
                have := pswap_any k1 HOK.out.1 (by omega) (· < w.heap.size) oA oxs.length oc oxs rfl (HAX.out W hX.1.1) (fun b hb hl hf => by have := (k2 b hf).1; omega) hn47
                rw [HS.out.1, HS.out.2.2, show PskPost (.int .i64 x) Z L us' fp g W = PskPost (.int .i64 x) Z L' us' fp g W by rw [HS.out.2.1]] at this
                exact this)
              have HMD : Hid (∀ (Lf : Nat → Bool) (f : Nat → Value) (W : World), PXe 3 7 w w4 wo.heap.size g gm Z L us L' us' Lf f W → Lf 7 = false → Calls Try.prog 22 #[.pointer (some ⟨gm, 0, none⟩), .slice oA oxs.length oc] W fun e w' => e = .returned (.int .i64 x) ∧ PXe 3 7 w w4 wo.heap.size g gm Z L us L' us' (lst1 Lf 7) (updT f (some 104) (.int .i64 x)) w') := Lib.hid (fun Lf f W hX h5 => hX.doc h5 (by decide) fun fq k1 k2 => by
                have := rswap_any k1 (by omega) (· < w.heap.size) oA oxs.length oc oxs rfl (HAX.out W hX.1.1) hn47
                rw [HS.out.1, HS.out.2.2, show DskPost (.int .i64 x) Z L us' fq gm W = DskPost (.int .i64 x) Z L' us' fq gm W by rw [HS.out.2.1]] at this
                exact this)
              go_wp2_with fail
              refine wp_famY (size := 138) (D := [97, 98, 99, 100, 101, 102, 103, 104, 11, 12]) [2, 3, 6, 7] [] [(97, isV (.pointer (some ⟨g, 0, none⟩))), (98, isV (.pointer (some ⟨wo.heap.size, 2, none⟩))), (99, isV (.slice oA oxs.length oc)), (100, isV (.int .i64 x)), (101, isV (.pointer (some ⟨gm, 0, none⟩))), (102, isV (.pointer (some ⟨wo.heap.size, 2, none⟩))), (103, isV (.slice oA oxs.length oc)), (104, isV (.int .i64 x)), (11, isV (.int .i64 x)), (12, isV (.int .i64 x))] (PXe 3 7 w w4 wo.heap.size g gm Z L us L' us') (PXe.up hw4s (by decide) (by decide)) (by kernel_rfl) (by rfl) (by kernel_rfl) (HX0.out 3 7 _) ?_ ?_
              · simp only [famAllY]
                repeat' apply And.intro
                · rw [if_neg (by decide)]
                  intro f V hl
                  simp [Oper.looksAt, Op.operands, Call.operands, famAt, famOf, isV] at hl
                  simp [famWants, boolIs_bool, boolIs_undef, execOp, rho, go_sem, hl, famUpon, famOf, isV, Grows.refl]
                · rw [if_neg (by decide)]
                  intro f V hl
                  simp [Oper.looksAt, Op.operands, Call.operands, famAt, famOf, isV] at hl
                  simp [famWants, boolIs_bool, boolIs_undef, execOp, rho, go_sem, hl, famUpon, famOf, isV, Grows.refl]
                · rw [if_pos (by decide)]
                  intro Lf f W hi hcl hwt hX hl
                  simp [Oper.looksAt, Op.operands, Call.operands, famAt, famOf, isV] at hl
                  obtain ⟨d0, d1, d2, d3⟩ := op4_cells (HBq.out W hX.2.1)
                  simp [famWants, execOp, rho, go_sem, hl, d2, famUpon, famOf, isV]
                  exact hX.pass (by decide)
                · rw [if_pos (by decide)]
                  intro Lf f W hi hcl hwt hX hl
                  simp [Oper.looksAt, Op.operands, Call.operands, famAt, famOf, isV] at hl
                  have hc := HPD.out Lf f W hX hi
                  simp [famWants, execOp, rho, go_sem, hl, famUpon, famOf, isV]
                  refine hc.mono ?_
                  rintro e w'' ⟨rfl, hX'⟩
                  exact ⟨_, rfl, rfl, hX'⟩
                · rw [if_neg (by decide)]
                  intro f V hl
                  simp [Oper.looksAt, Op.operands, Call.operands, famAt, famOf, isV] at hl
                  simp [famWants, boolIs_bool, boolIs_undef, execOp, rho, go_sem, hl, famUpon, famOf, isV, Grows.refl]
                · rw [if_neg (by decide)]
                  intro f V hl
                  simp [Oper.looksAt, Op.operands, Call.operands, famAt, famOf, isV] at hl
                  simp [famWants, boolIs_bool, boolIs_undef, execOp, rho, go_sem, hl, famUpon, famOf, isV, Grows.refl]
                · rw [if_pos (by decide)]
                  intro Lf f W hi hcl hwt hX hl
                  simp [Oper.looksAt, Op.operands, Call.operands, famAt, famOf, isV] at hl
                  obtain ⟨d0, d1, d2, d3⟩ := op4_cells (HBq.out W hX.2.1)
                  simp [famWants, execOp, rho, go_sem, hl, d2, famUpon, famOf, isV]
                  exact hX.pass (by decide)
                · rw [if_pos (by decide)]
                  intro Lf f W hi hcl hwt hX hl
                  simp [Oper.looksAt, Op.operands, Call.operands, famAt, famOf, isV] at hl
                  have hc := HMD.out Lf f W hX hi
                  simp [famWants, execOp, rho, go_sem, hl, famUpon, famOf, isV]
                  refine hc.mono ?_
                  rintro e w'' ⟨rfl, hX'⟩
                  exact ⟨_, rfl, rfl, hX'⟩
                · rw [if_neg (by decide)]
                  intro f V hl
                  simp [Oper.looksAt, Op.operands, Call.operands, famAt, famOf, isV] at hl
                  simp [famWants, boolIs_bool, boolIs_undef, execOp, rho, go_sem, hl, famUpon, famOf, isV, Grows.refl]
                · rw [if_neg (by decide)]
                  intro f V hl
                  simp [Oper.looksAt, Op.operands, Call.operands, famAt, famOf, isV] at hl
                  simp [famWants, boolIs_bool, boolIs_undef, execOp, rho, go_sem, hl, famUpon, famOf, isV, Grows.refl]
                · trivial
              · intro Lf u W hL hX hu
                have e11 : u 11 = .int .i64 x := hu 11 (by decide)
                have e12 : u 12 = .int .i64 x := hu 12 (by decide)
                simp only [fill, Act.put, List.setIfInBounds_toArray, List.set_cons_zero, List.set_cons_succ, e11, e12]
                refine wpList_nil ?_
                obtain ⟨⟨hbW, hsW⟩, hkW, hDW⟩ := hX
                rw [hL 3 (by decide), hL 7 (by decide)] at hDW
                simp only [if_true] at hDW
                have HR := Lib.hid (And.intro hbW hDW.join)
                clear hu hL e11 e12 HX0 HPD HMD hbW hsW hkW hDW d0 d1 d2 d3
                go_wp2_with fail
                go_meet
                exact ⟨rfl, rfl, HR.out⟩
            have g6 : (ok == 6) = false := by simpa using h6
            have HS : Hid (x = 0 ∧ L = L' ∧ us = us') := Lib.hid (by have := HST.out; simp [Lg.stp, h1, h2, h3, h4, h5, h6] at this; exact ⟨this.1, this.2.1.symm, this.2.2.symm⟩)
            obtain ⟨e1, e2, e3⟩ := HS.out
            subst e1
            have HR : Hid (Below w.heap.size w w4 ∧ DPM w w4 w4.heap.size w4.heap.size g gm Z L' us' L' us') := Lib.hid ⟨HBW4.out, by rw [← e2, ← e3]; exact HD4.out.join⟩
            clear e2 e3 d0 d1 d2 d3 HX0 h1 h2 h3 h4 h5 h6
            go_wp2_with fail
            go_meet
            exact ⟨rfl, rfl, HR.out⟩
          case rest =>
          obtain ⟨rfl, rfl, hbx, hDx⟩ := hcut
          have hu9' : us'.length ≤ 800000000 := by have := HOK'.out.2.2; omega
          have C1 := hDx.lread HOK'.out.1 HOK'.out.2.1 hu9'
          have HCn : Hid ((F.all (Dk.aft L' us')).1.length ≤ 1000000) := Lib.hid (by have := F.all_cnt (Dk.aft L' us'); have := HOK'.out.1.last; have := HOK'.out.1.hi; omega)
          have HSm4 : Hid (∀ b ∈ (F.all (Dk.aft L' us')).1, b.length ≤ 1000000) := Lib.hid (fun b hb => by have := F.all_small (Dk.aft L' us') b hb; omega)
          have HAf : Hid ((Dk.aft L' us').length ≤ 1000000) := Lib.hid (by have := HOK'.out.1.last; have := HOK'.out.1.hi; omega)
          obtain ⟨tb, htb⟩ : ∃ tb, tb = Lg.torn L' us' := ⟨_, rfl⟩
          have HTB := Lib.hid htb
          rw [← htb] at C1
          clear htb HX0 HD4 HBW4 HAX HAL HBq HST d0 d1 d2 d3 HOK
          go_wp2_with fail
          refine C1.mono ?_
          rintro e w7 ⟨A7, N7, c7, vs7, rfl, hN7, hr7, hv7, hb7⟩
          have hD7 := hDx.new hb7
          have C2 := hD7.rlread HOK'.out.1 HOK'.out.2.1 hu9'
          rw [← HTB.out] at C2
          have HV7 := Lib.hid (And.intro hN7 (And.intro hr7 hv7))
          have HB7 := Lib.hid (below_new hbx hb7)
          clear C1 hDx hbx hN7 hr7 hv7 hb7
          go_wp2_with fail
          refine C2.mono ?_
          rintro e w8 ⟨A8, N8, c8, vs8, rfl, hN8, hr8, hv8, hb8⟩
          have hD8 := hD7.new hb8
          have HSm := Lib.hid (BRd.same (c := c7) (d := c8) (HV7.out.2.1.new hb8) hr8 (HV7.out.2.2.new hb8) hv8 HV7.out.1 hN8 HCn.out HSm4.out)
          have HB8 := Lib.hid (below_new HB7.out hb8)
          have hxx : (x != x) = false := by simp
          have htt : (tb != tb) = false := by simp
          have HD8 := Lib.hid hD8
          clear C2 hD7 hD8 hN8 hr8 hv8 hb8 HV7 HB7
          go_wp2_with fail
          refine HSm.out.mono ?_
          rintro e w9 ⟨rfl, nd, rfl⟩
          have hb9 := below_drewN (Below.refl w8.heap.size w8) nd
          have hD9 := HD8.out.new hb9
          have HB9 := Lib.hid (below_new HB8.out hb9)
          have C3 := hD9.read HOK'.out.1 (by omega)
          clear HSm HB8 hb9 HD8
          go_wp2_with fail
          refine C3.mono ?_
          rintro e wa ⟨Aa, ca, rfl, hRa, hba⟩
          have hDa := hD9.new hba
          have C4 := hDa.rread HOK'.out.1 (by omega)
          have HBa := Lib.hid (below_new HB9.out hba)
          have HRa := Lib.hid hRa
          obtain ⟨q, hq⟩ : ∃ q : Nat, (Dk.aft L' us').length = q := ⟨_, rfl⟩
          have HQ := Lib.hid hq
          rw [hq]
          clear C3 hD9 hRa hba HB9 hq
          go_wp2_with fail
          refine C4.mono ?_
          rintro e wb ⟨Ab, cb, rfl, hRb, hbb⟩
          have HDb := Lib.hid (hDa.new hbb)
          have HSy := Lib.hid (same_yes _ _ Aa Ab ca cb (Dk.aft L' us') wb ((HRa.out.new hbb).rds) hRb.rds HAf.out)
          rw [HQ.out] at HSy ⊢
          have HBb := Lib.hid (below_new HBa.out hbb)
          clear C4 hDa hRb hbb HRa HBa
          go_wp2_with fail
          refine HSy.out.mono ?_
          rintro e wc ⟨rfl, ne, rfl⟩
          have hbc := below_drewN (Below.refl wb.heap.size wb) ne
          have HDc := Lib.hid (HDb.out.new hbc)
          have HBc := Lib.hid (below_new HBb.out hbc)
          clear HSy HBb HDb hbc
          go_wp2
          go_roundw
          case rel => exact ⟨i + 1, L', us', by go_num, by omega, by have := HOK'.out.2.2; omega, HOK'.out.1, HOK'.out.2.1, HDc.out.join, HBc.out⟩
          case measure => simp [intOf]; omega
        · go_wp2
          go_ret
          exact ⟨rfl, hwr⟩
    · rw [if_neg hz] at hP
      obtain ⟨rfl, hP⟩ := hP
      have hb3 := below_new hb02 hP
      clear hP hb02
      go_wp2_with fail
      refine (rnew_any Z w3).mono ?_
      intro e w4 hP
      unfold RNewPost at hP
      rw [if_neg hz] at hP
      obtain ⟨rfl, rfl⟩ := hP
      clear hz
      go_wp2
      go_ret
      exact ⟨rfl, hb3⟩
end Go.Proofs.Ytfllebfegngdhaa
