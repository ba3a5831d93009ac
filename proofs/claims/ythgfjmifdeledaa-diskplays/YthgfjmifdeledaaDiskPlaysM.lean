/- Layer 13: what DiskPlays comes to. -/
import Derived.Test.YthgfjmifdeledaaDkPlayR
namespace Go.Proofs.Ythgfjmifdeledaa
set_option linter.unusedVariables false
set_option linter.unusedSimpArgs false
open Go.ChangeShapes Go.WideShapes Go.ChangeAt Go.RowKit Go.Deep

set_option maxRecDepth 100000 in
set_option maxHeartbeats 4000000 in
theorem diskplays_main (Z : Int) (A : Option Addr) (c : Nat) (l : List Dk.O) (w : World) (h : ORds w (· < w.heap.size) A l) (hl : l.length ≤ 140737488355328) :
    Calls Try.prog 3 #[.int .i64 Z, .slice A l.length c] w fun e w' => e = .returned (.bool true) ∧ Below w.heap.size w w' := by
  obtain ⟨i0, hi0, hz0, hz1, hz2⟩ := info_parts Try.rowU8
  go_enter Try.func3, Try.ntmps3
  go_wp2_with fail
  refine (dkalive_any w).mono ?_
  rintro e w1 ⟨rfl, hb1⟩
  go_wp2_with fail
  refine (dkgreat_any w1 _ A c l (h.below hb1) hl).mono ?_
  rintro e w2 ⟨b, rfl, hgr, hb2⟩
  have hb02 := below_new hb1 hb2
  cases b with
  | true =>
    clear hgr
    go_wp2
    go_ret
    exact ⟨rfl, hb02⟩
  | false =>
    have hl200 := hgr rfl
    clear hgr hb1 hb2
    go_wp2_with fail
    refine (pnew_any Z w2).mono ?_
    intro e w3 hP
    unfold PNewPost at hP
    by_cases hz : 1 ≤ Z ∧ Z ≤ 16384
    · rw [if_pos hz] at hP
      obtain ⟨g, rfl, h1, h2⟩ := hP
      have hb3 := below_new hb02 h2
      have hs2 := hb02.size
      go_wp2_with fail
      refine (rnew_any Z w3).mono ?_
      intro e w4 hP
      unfold RNewPost at hP
      rw [if_pos hz] at hP
      obtain ⟨gm, rfl, h3, h4⟩ := hP
      have hb4 := below_new hb3 h4
      have hs4 := h4.size
      have hs3 := h2.size
      have hD : DPM w w4 w4.heap.size w4.heap.size g gm Z [] [] [] [] := ⟨fun b => w2.heap.size ≤ b ∧ b < w3.heap.size, fun b => w3.heap.size ≤ b ∧ b < w4.heap.size, (h1.mono fun b hb hl => ⟨hb, hl⟩).keep fun b _ hl => h4.block b hl, h3.mono fun b hb hl => ⟨hb, hl⟩, fun b hb => ⟨by omega, by omega, .inl (by omega)⟩, fun b hb => ⟨by omega, hb.2, .inl hb.2⟩, fun b hp hq => by omega⟩
      have hO0 : Dk.Ok Z [] [] := Dk.Ok.new hz.1 hz.2
      clear h1 h2 h3 h4 hb3 hz hb02 hs2 hs4 hs3
      go_wp2_with fail
      go_loopw [45] (fun iv wr => ∃ (i : Nat) (L : List Int) (us : List Dk.U), iv = .int .i64 i ∧ i ≤ l.length ∧ us.length ≤ 16384 * i ∧ Dk.Ok Z L us ∧ DPM w wr wr.heap.size wr.heap.size g gm Z L us L us ∧ Below w.heap.size w wr) (fun iv _ => l.length - (intOf iv).toNat)
      case atStart => exact ⟨0, [], [], rfl, Nat.zero_le _, by simp, hO0, hD, hb4⟩
      case round =>
        obtain ⟨i, L, us, rfl, hi, hu, hO, hD, hwr⟩ := hrel
        obtain ⟨wo, hwo⟩ : ∃ W, W = wr := ⟨_, rfl⟩
        subst hwo
        clear hb4 hO0
        have hswr := hwr.size
        by_cases hlt : i < l.length
        · have hOr := h.below hwr
          obtain ⟨ad, rfl, c0, c1, c2⟩ := hOr.at hlt
          obtain ⟨hn, hn47, hor⟩ := hOr.inn l[i] (List.getElem_mem hlt)
          have hNf := hOr.fits l[i] (List.getElem_mem hlt)
          generalize l[i] = o at c0 c1 c2 hn hn47 hor hNf
          obtain ⟨ok, oN, oA, on, oc, oxs⟩ := o
          simp only at c0 c1 c2 hn hn47 hor hNf
          subst hn
          obtain ⟨w4, hw4⟩ : ∃ W, wo.alloc (.cells #[.int .i64 ok, .int .i64 oN, .slice oA oxs.length oc] 34) = W := ⟨_, rfl⟩
          have hb4 : Below wo.heap.size wo w4 := by rw [← hw4]; exact b_alloc _ _
          have hB4 : Blo w4 wo.heap.size 34 #[.int .i64 ok, .int .i64 oN, .slice oA oxs.length oc] := by rw [← hw4]; exact Blo.made _ _ _
          have hz4 : w4.heap.size = wo.heap.size + 1 := by rw [← hw4]; simp
          obtain ⟨w5, hw5⟩ : ∃ W, w4.alloc (.cells #[.int .i64 ok, .int .i64 oN, .slice oA oxs.length oc] 34) = W := ⟨_, rfl⟩
          have hb5 : Below w4.heap.size w4 w5 := by rw [← hw5]; exact b_alloc _ _
          have hB5 : Blo w5 (wo.heap.size + 1) 34 #[.int .i64 ok, .int .i64 oN, .slice oA oxs.length oc] := by rw [← hw5, ← hz4]; exact Blo.made _ _ _
          have hz5 : w5.heap.size = wo.heap.size + 2 := by rw [← hw5]; simp [hz4]
          obtain ⟨w6, hw6⟩ : ∃ W, w5.alloc (.cells #[] 5) = W := ⟨_, rfl⟩
          have hb6 : Below w5.heap.size w5 w6 := by rw [← hw6]; exact b_alloc _ _
          have hown6 : w6.ownsRow (wo.heap.size + 2) 5 1 (.slice (some ⟨wo.heap.size + 2, 0, none⟩) 0 0) 0 [] := by rw [← hw6, ← hz5]; exact World.ownsRow_lit w5 #[] 0 (Nat.le_refl _) (by unfold maxLen; omega) rfl
          have hB46 := (hB4.new hb5).new hb6
          have hB56 := hB5.new hb6
          have hb46 := below_new hb5 hb6
          have hbr6 := below_new hb4 hb46
          have hor6 := hor.below hbr6 (fun b hb _ => by omega)
          obtain ⟨d0, d1, d2, _⟩ := mdk_cells hB4
          obtain ⟨j0, j1, j2, _⟩ := mdk_cells hB46
          have hs6 : wo.heap.size + 2 ≤ w6.heap.size := by have := hb6.size; omega
          have hlen6 : oxs.length ≤ 140737488355328 := hn47
          clear hOr
          go_wp2_with (at_builtin; refine wpList_app _ rfl _ _ 32 rfl (wo.heap.size + 2) 5 i0 (.int .u8 0) 1 Try.underlying32 hi0 hz0 hz1 hz2 rfl _ _ _ rfl hown6 _ oA oxs.length oc (u8s oxs) rfl (by simp) hor6 (one_ints _ _) (by unfold maxLen; omega) (by omega) hs6 ?_)
          intro v7 w7 hown7 hg7 hv7
          obtain ⟨A7, c7, rfl, hc7, _⟩ := own_form hown7
          have hown7' : w7.ownsRow (wo.heap.size + 2) 5 1 (.slice A7 oxs.length c7) oxs.length (u8s oxs) := by simpa using hown7
          have hb7 : Below wo.heap.size wo w7 := hbr6.grown hg7 hbr6.size fun k hk => by simp [Value.ownBlock] at hk; omega
          have hB47 := hB46.grown hg7 (by simp [Value.ownBlock])
          have hB57 := hB56.grown hg7 (by simp [Value.ownBlock])
          obtain ⟨w8, hw8⟩ : ∃ W, w7.setCell ⟨wo.heap.size + 1, 2, none⟩ (.slice A7 oxs.length c7) = W := ⟨_, rfl⟩
          have hBp8 : Blo w8 (wo.heap.size + 1) 34 #[.int .i64 ok, .int .i64 oN, .slice A7 oxs.length c7] := by rw [← hw8]; simpa using hB57.put 2 (.slice A7 oxs.length c7)
          have hBq8 : Blo w8 wo.heap.size 34 #[.int .i64 ok, .int .i64 oN, .slice oA oxs.length oc] := by rw [← hw8]; exact hB47.other (by simp) _
          have hg8 : w7.grownBy w8 (some (wo.heap.size + 1)) := by rw [← hw8]; exact gb_set (World.grownBy.refl _ _) (.inl rfl) _
          have hown8 : w8.ownsRow (wo.heap.size + 2) 5 1 (.slice A7 oxs.length c7) oxs.length (u8s oxs) := own_keep hown7' fun b e hl => hg8.block b hl fun e' => own_blo hown7' hB57 (by decide) (by rw [e, e'])
          have hb8 : Below wo.heap.size wo w8 := hb7.grown hg8 hb7.size fun k hk => by injection hk with hk; omega
          obtain ⟨f0, f1, f2, f3, f4, f5⟩ := mdk_cells hB57
          have hbw8 := below_new hwr hb8
          have hw8s := hbw8.size
          have hs8 := hb8.size
          have hpart := hD.part hb8
          have hr8 : Rds w8 (fun b => wo.heap.size + 2 ≤ b ∧ b < w8.heap.size) A7 (u8s oxs) := fun j u hu => by
            obtain ⟨ad', e, ⟨hb, _⟩, hcell⟩ := own_rds hown8 j u hu
            have hlt := M.cellLt hcell
            rw [M.addBlock] at hlt
            exact ⟨ad', e, ⟨by omega, hlt⟩, hcell⟩
          have hBop : wo.heap.size + 2 ≤ w8.heap.size := by have := hB57.lt; have := hg8.size; have := hg7.size; omega
          have hu9 : us.length ≤ 900000000 := by omega
          have hlen' := Dk.stp_len hO ok oN oxs
          have hOk' := Dk.stp_ok hO ok oN oxs
          obtain ⟨⟨x, L', us'⟩, hst⟩ : ∃ s, s = Dk.stp Z L us ok oN oxs := ⟨_, rfl⟩
          rw [← hst] at hlen' hOk'
          simp only at hlen' hOk'
          have HX0 : Hid (∀ f, PXd w w8 wo.heap.size g gm Z L us L' us' (fun _ => false) f w8) := Lib.hid (fun f => ⟨⟨hbw8, Nat.le_refl _⟩, fun _ _ _ => rfl, by simpa using hpart⟩)
          have HBp : Hid (∀ W : World, (∀ b, wo.heap.size ≤ b → b < w8.heap.size → W.heap[b]? = w8.heap[b]?) → Blo W (wo.heap.size + 1) 34 #[.int .i64 ok, .int .i64 oN, .slice A7 oxs.length c7]) := Lib.hid (fun W hW => hBp8.keep (hW _ (by omega) hBp8.lt))
          have HBq : Hid (∀ W : World, (∀ b, wo.heap.size ≤ b → b < w8.heap.size → W.heap[b]? = w8.heap[b]?) → Blo W wo.heap.size 34 #[.int .i64 ok, .int .i64 oN, .slice oA oxs.length oc]) := Lib.hid (fun W hW => hBq8.keep (hW _ (by omega) hBq8.lt))
          have HPD : Hid (∀ (Lf : Nat → Bool) (f : Nat → Value) (W : World), PXd w w8 wo.heap.size g gm Z L us L' us' Lf f W → Lf 2 = false → Calls Try.prog 11 #[.pointer (some ⟨g, 0, none⟩), opv ok oN A7 oxs.length c7] W fun e w' => e = .returned (.int .i64 x) ∧ PXd w w8 wo.heap.size g gm Z L us L' us' (lst1 Lf 2) (updT f (some 57) (.int .i64 x)) w') := Lib.hid (fun Lf f W hX h2 => hX.prog h2 fun fp k1 k2 => by
            have := pdo_any k1 hO hu9 ok oN (fun b => wo.heap.size + 2 ≤ b ∧ b < w8.heap.size) A7 oxs.length c7 oxs rfl (hr8.keep fun b hb _ => hX.2.1 b (by omega) hb.2) (fun b hb hl hf => by have := (k2 b hf).2.2; omega) hn47
            rw [← hst] at this
            exact this)
          have HMD : Hid (∀ (Lf : Nat → Bool) (f : Nat → Value) (W : World), PXd w w8 wo.heap.size g gm Z L us L' us' Lf f W → Lf 5 = false → Calls Try.prog 12 #[.pointer (some ⟨gm, 0, none⟩), opv ok oN oA oxs.length oc] W fun e w' => e = .returned (.int .i64 x) ∧ PXd w w8 wo.heap.size g gm Z L us L' us' (lst1 Lf 5) (updT f (some 60) (.int .i64 x)) w') := Lib.hid (fun Lf f W hX h5 => hX.doc h5 fun fq k1 k2 => by
            have := rdo_any k1 hO hu9 ok oN (· < w.heap.size) oA oxs.length oc oxs rfl (hor.keep fun b hb _ => by rw [hX.1.1.block b hb, hwr.block b hb]) (fun b hb hl hf => by have := (k2 b hf).1; omega) hn47
            rw [← hst] at this
            exact this)
          have HOW := Lib.hid hown8
          clear hown7 hown7' hg7 hv7 hb7 hB47 hB57 hown6 hB46 hB56 hb46 hbr6 hor6 hb4 hb5 hb6 hB4 hB5 hst hg8 hpart hr8 hBp8 hBq8 hor hD hO hown8
          go_wp2_with fail
          refine wp_famY (size := 120) (D := [55, 56, 57, 58, 59, 60, 61]) [1, 2, 4, 5] [] [(55, isV (.pointer (some ⟨g, 0, none⟩))), (56, isV (opv ok oN A7 oxs.length c7)), (57, isV (.int .i64 x)), (58, isV (.pointer (some ⟨gm, 0, none⟩))), (59, isV (opv ok oN oA oxs.length oc)), (60, isV (.int .i64 x)), (61, isV (.bool false))] (PXd w w8 wo.heap.size g gm Z L us L' us') (PXd.up hw8s) (by kernel_rfl) (by rfl) (by kernel_rfl) (HX0.out _) ?_ ?_
          · simp only [famAllY]
            repeat' apply And.intro
            · rw [if_neg (by decide)]
              intro f V hl
              simp [Oper.looksAt, Op.operands, Call.operands, famAt, famOf, isV] at hl
              simp [famWants, boolIs_bool, boolIs_undef, execOp, rho, go_sem, hl, famUpon, famOf, isV, Grows.refl]
            · rw [if_pos (by decide)]
              intro Lf f W hi hcl hwt hX hl
              simp [Oper.looksAt, Op.operands, Call.operands, famAt, famOf, isV] at hl
              obtain ⟨d0, d1, d2, _⟩ := mdk_cells (HBp.out W hX.2.1)
              simp [famWants, execOp, rho, go_sem, hl, d0, d1, d2, famUpon, famOf, isV]
              exact hX.pass (by decide)
            · rw [if_pos (by decide)]
              intro Lf f W hi hcl hwt hX hl
              simp [Oper.looksAt, Op.operands, Call.operands, famAt, famOf, isV] at hl
              have hc := HPD.out Lf f W hX hi
              simp [famWants, execOp, rho, go_sem, hl, famUpon, famOf, isV]
              refine hc.mono ?_
              rintro e w'' ⟨rfl, hX'⟩
              exact ⟨_, rfl, rfl, hX'⟩
            · rw [if_neg (by decide)]
              intro f V hl
              simp [Oper.looksAt, Op.operands, Call.operands, famAt, famOf, isV] at hl
              simp [famWants, boolIs_bool, boolIs_undef, execOp, rho, go_sem, hl, famUpon, famOf, isV, Grows.refl]
            · rw [if_pos (by decide)]
              intro Lf f W hi hcl hwt hX hl
              simp [Oper.looksAt, Op.operands, Call.operands, famAt, famOf, isV] at hl
              obtain ⟨d0, d1, d2, _⟩ := mdk_cells (HBq.out W hX.2.1)
              simp [famWants, execOp, rho, go_sem, hl, d0, d1, d2, famUpon, famOf, isV]
              exact hX.pass (by decide)
            · rw [if_pos (by decide)]
              intro Lf f W hi hcl hwt hX hl
              simp [Oper.looksAt, Op.operands, Call.operands, famAt, famOf, isV] at hl
              have hc := HMD.out Lf f W hX hi
              simp [famWants, execOp, rho, go_sem, hl, famUpon, famOf, isV]
              refine hc.mono ?_
              rintro e w'' ⟨rfl, hX'⟩
              exact ⟨_, rfl, rfl, hX'⟩
            · rw [if_neg (by decide)]
              intro f V hl
              simp [Oper.looksAt, Op.operands, Call.operands, famAt, famOf, isV] at hl
              simp [famWants, boolIs_bool, boolIs_undef, execOp, rho, go_sem, hl, famUpon, famOf, isV, Grows.refl]
            · trivial
          · intro Lf u W hL hX hu
            have e61 : u 61 = .bool false := hu 61 (by decide)
            simp only [fill, Act.put, List.setIfInBounds_toArray, List.set_cons_zero, List.set_cons_succ, e61]
            refine wpList_nil ?_
            obtain ⟨⟨hbW, hsW⟩, hkW, hDW⟩ := hX
            rw [hL 2 (by decide), hL 5 (by decide)] at hDW
            simp only [if_true] at hDW
            clear hu hL e61 HX0 HPD HMD
            have hBpW := HBp.out W hkW
            have hownW : W.ownsRow (wo.heap.size + 2) 5 1 (.slice A7 oxs.length c7) oxs.length (u8s oxs) := own_keep HOW.out fun b e hl => hkW b (by have := (World.ownsRow.lt HOW.out b e).1; omega) hl
            have hOB : ∀ b, (Value.slice A7 oxs.length 0).ownBlock = some b → wo.heap.size + 2 ≤ b ∧ b < w8.heap.size := fun b e => World.ownsRow.lt HOW.out b (by rw [← e]; exact ownBlock_any _ _ _ _ _)
            obtain ⟨d0, d1, d2, _⟩ := mdk_cells hBpW
            have hSo := Soft.start hownW
            clear hownW HOW HBq
            go_wp2_with fail
            clear d0 d1 d2
            go_loopw [65] (fun jv ws => ∃ j : Nat, jv = .int .i64 j ∧ j ≤ oxs.length ∧ Soft W ws A7 oxs.length) (fun jv _ => oxs.length - (intOf jv).toNat)
            case atStart => exact ⟨0, rfl, Nat.zero_le _, hSo⟩
            case round =>
              obtain ⟨j, rfl, hj, hS⟩ := hrel
              clear hSo
              by_cases hjl : j < oxs.length
              · obtain ⟨h7, z, e7, hc, hf, hset⟩ := hS.at hjl
                subst e7
                have hBw := hBpW.grown hS.1 (fun e => by have := hOB _ e.symm; omega)
                have HBw : Hid (∀ V, Grows wr V → Blo V (wo.heap.size + 1) 34 #[.int .i64 ok, .int .i64 oN, .slice (some ⟨h7, 0, none⟩) oxs.length c7]) := Lib.hid (fun V hV => hBw.new hV)
                have HCw : Hid (∀ V, Grows wr V → V.cell? ⟨h7, j, none⟩ = some (.int .u8 z)) := Lib.hid (fun V hV => cell_up hc hV)
                have hjd : (j : Int) < (oxs.length : Int) := by omega
                go_wp2_with fail
                refine wp_fam (n := 9) (size := 120) (D := [68, 69, 70, 71, 72, 73, 74, 75, 76]) [(68, isV (.pointer (some ⟨wo.heap.size + 1, 2, none⟩))), (69, isV (.slice (some ⟨h7, 0, none⟩) oxs.length c7)), (70, isV (.int .i64 (j : Int))), (71, isV (.pointer (some ⟨wo.heap.size + 1, 2, none⟩))), (72, isV (.slice (some ⟨h7, 0, none⟩) oxs.length c7)), (73, isV (.int .i64 (j : Int))), (74, isV (.pointer (some ⟨h7, j, none⟩))), (75, isV (.int .u8 z)), (76, isV (.int .u8 (IntKind.u8.wrap (z + 1))))] (by kernel_rfl) (by rfl) (by kernel_rfl) ?_ ?_
                · simp only [List.take_succ_cons, List.take_zero, famAll]
                  repeat' apply And.intro
                  · intro f V hg hl
                    simp [Oper.looksAt, Op.operands, Call.operands, famAt, famOf, isV] at hl
                    simp [famWants, boolIs_bool, boolIs_undef, execOp, rho, go_sem, hl, famUpon, famOf, isV, Grows.refl]
                  · intro f V hg hl
                    obtain ⟨b0, b1, b2, _⟩ := mdk_cells (HBw.out V hg)
                    simp [Oper.looksAt, Op.operands, Call.operands, famAt, famOf, isV] at hl
                    simp [famWants, boolIs_bool, boolIs_undef, execOp, rho, go_sem, hl, b2, famUpon, famOf, isV, Grows.refl]
                  · intro f V hg hl
                    simp [Oper.looksAt, Op.operands, Call.operands, famAt, famOf, isV] at hl
                    simp [famWants, boolIs_bool, boolIs_undef, execOp, rho, go_sem, hl, famUpon, famOf, isV, Grows.refl]
                  · intro f V hg hl
                    simp [Oper.looksAt, Op.operands, Call.operands, famAt, famOf, isV] at hl
                    simp [famWants, boolIs_bool, boolIs_undef, execOp, rho, go_sem, hl, famUpon, famOf, isV, Grows.refl]
                  · intro f V hg hl
                    obtain ⟨b0, b1, b2, _⟩ := mdk_cells (HBw.out V hg)
                    simp [Oper.looksAt, Op.operands, Call.operands, famAt, famOf, isV] at hl
                    simp [famWants, boolIs_bool, boolIs_undef, execOp, rho, go_sem, hl, b2, famUpon, famOf, isV, Grows.refl]
                  · intro f V hg hl
                    simp [Oper.looksAt, Op.operands, Call.operands, famAt, famOf, isV] at hl
                    simp [famWants, boolIs_bool, boolIs_undef, execOp, rho, go_sem, hl, famUpon, famOf, isV, Grows.refl]
                  · intro f V hg hl
                    simp [Oper.looksAt, Op.operands, Call.operands, famAt, famOf, isV] at hl
                    simp [famWants, boolIs_bool, boolIs_undef, execOp, rho, go_sem, hl, hjl, hjd, M.addMk, famUpon, famOf, isV, Grows.refl]
                  · intro f V hg hl
                    have q := HCw.out V hg
                    simp [Oper.looksAt, Op.operands, Call.operands, famAt, famOf, isV] at hl
                    simp [famWants, boolIs_bool, boolIs_undef, execOp, rho, go_sem, hl, q, famUpon, famOf, isV, Grows.refl]
                  · intro f V hg hl
                    simp [Oper.looksAt, Op.operands, Call.operands, famAt, famOf, isV] at hl
                    simp [famWants, boolIs_bool, boolIs_undef, execOp, rho, go_sem, hl, famUpon, famOf, isV, Grows.refl]
                  · trivial
                · intro u V hg hu
                  have e69 : u 69 = .slice (some ⟨h7, 0, none⟩) oxs.length c7 := hu 69 (by decide)
                  have e70 : u 70 = .int .i64 (j : Int) := hu 70 (by decide)
                  have e76 : u 76 = .int .u8 (IntKind.u8.wrap (z + 1)) := hu 76 (by decide)
                  simp only [List.drop_succ_cons, List.drop_zero, fill, Act.put, List.setIfInBounds_toArray, List.set_cons_zero, List.set_cons_succ, e69, e70, e76]
                  have hSV := hS.newK hg
                  obtain ⟨g7, z', e', hc', hf', hset⟩ := hSV.at hjl
                  injection e' with e'
                  injection e' with e'
                  subst e'
                  have hfin := hset (IntKind.u8.wrap (z + 1))
                  clear hu e69 e70 e76 hSV hset hS HBw HCw hBw
                  go_wp2
                  go_roundw
                  case rel => exact ⟨j + 1, by go_num, by omega, hfin⟩
                  case measure => simp [intOf]; omega
              · have hD9 := hDW.gb hS.1 (fun b e => by have := hOB b e; omega)
                have hb9 : Below w.heap.size w wr := hbW.grown hS.1 hbW.size (fun k hk => by have := hOB k hk; omega)
                clear hS hDW hbW hkW hBpW hOB HBp
                obtain ⟨R, hR⟩ : ∃ R, R = Dk.aft L' us' := ⟨_, rfl⟩
                have hRl : (R.length : Int) ≤ Z := by rw [hR]; exact hOk'.last
                have hZ := hOk'.hi
                have hus9 : us'.length ≤ 900000000 := by omega
                have hrd := hD9.read hOk' hus9
                rw [← hR] at hrd
                have hrd := Lib.hid hrd
                have HR := Lib.hid hR
                clear hR
                go_wp2_with fail
                refine hrd.out.mono ?_
                rintro e wa ⟨Aa, ca, rfl, hra, hba⟩
                have hbns := hb9.size
                have hDa := hD9.join.part hba
                have hb0a := below_new hb9 hba
                clear hrd hD9 hb9
                have hgot := hra.mono (fq := fun b => b < wa.heap.size) fun b _ hl => hl
                have hinn := hra.inn
                have HRR : Hid (∀ V, Grows wa V → Calls Try.prog 15 #[.pointer (some ⟨gm, 0, none⟩)] V (NewB R V)) := Lib.hid (fun V hV => by rw [HR.out]; exact (hDa.new hV).rread hOk' hus9)
                have HWT : Hid (∀ V, Grows wa V → Calls Try.prog 16 #[.pointer (some ⟨g, 0, none⟩)] V fun e w' => e = .returned (.int .i64 (us'.length : Int)) ∧ Below V.heap.size V w') := Lib.hid (fun V hV => (hDa.new hV).wait hOk' hus9)
                have HRM : Hid (∀ V, Grows wa V → Calls Try.prog 17 #[.pointer (some ⟨g, 0, none⟩)] V fun e w' => e = .returned (.int .i64 (Z - R.length)) ∧ Below V.heap.size V w') := Lib.hid (fun V hV => by rw [HR.out]; exact (hDa.new hV).room hOk' hus9)
                obtain ⟨Aw, cw, hwts⟩ := hDa.waits
                have HWS := Lib.hid hwts
                have HSM : Hid (∀ V A9 c9, Grows wa V → ByR V (fun b => wa.heap.size ≤ b) (.slice A9 R.length c9) R → Calls Try.prog 14 #[.slice Aa R.length ca, .slice A9 R.length c9] V fun e w' => e = .returned (.bool true) ∧ Below V.heap.size V w') := Lib.hid (fun V A9 c9 hV h9 => (same_yes _ _ Aa A9 ca c9 R V (hgot.new hV).rds h9.rds (by omega)).mono fun e w' ⟨he, hd⟩ => ⟨he, hd.below _⟩)
                have hwrz : IntKind.i64.wrap (Z - R.length) = Z - R.length := IntWalk.i64_in _ (by omega)
                have HO' := Lib.hid hOk'
                clear hwts hra hba hOk'
                go_wp2_with fail
                refine wp_fam (n := 24) (size := 120) (D := [81, 82, 83, 84, 85, 86, 87, 88, 89, 90, 91, 92, 93, 94, 95, 96, 97, 98, 99, 100, 101, 102, 103, 104]) [(81, isV (.slice Aa R.length ca)), (82, isV (.pointer (some ⟨gm, 0, none⟩))), (83, byV wa.heap.size R), (84, isV (.bool true)), (85, isV (.bool false)), (86, isV (.bool false)), (87, isV (.pointer (some ⟨g, 0, none⟩))), (88, isV (.int .i64 (us'.length : Int))), (89, isV (.pointer (some ⟨gm, 0, none⟩))), (90, isV (.pointer (some ⟨gm, 0, none⟩))), (91, isV (.pointer (some ⟨gm, 2, none⟩))), (92, isV (.slice Aw us'.length cw)), (93, isV (.int .i64 (us'.length : Int))), (94, isV (.bool false)), (95, isV (.bool false)), (96, isV (.bool false)), (97, isV (.pointer (some ⟨g, 0, none⟩))), (98, isV (.int .i64 (Z - R.length))), (99, isV (.int .i64 Z)), (100, isV (.slice Aa R.length ca)), (101, isV (.int .i64 (R.length : Int))), (102, isV (.int .i64 (Z - R.length))), (103, isV (.bool false)), (104, isV (.bool false))] (by kernel_rfl) (by rfl) (by kernel_rfl) ?_ ?_
                · simp only [List.take_succ_cons, List.take_zero, famAll]
                  repeat' apply And.intro
                  · intro f V hg hl
                    simp [Oper.looksAt, Op.operands, Call.operands, famAt, famOf, isV] at hl
                    simp [famWants, boolIs_bool, boolIs_undef, execOp, rho, go_sem, hl, famUpon, famOf, isV, Grows.refl]
                  · intro f V hg hl
                    simp [Oper.looksAt, Op.operands, Call.operands, famAt, famOf, isV] at hl
                    simp [famWants, boolIs_bool, boolIs_undef, execOp, rho, go_sem, hl, famUpon, famOf, isV, Grows.refl]
                  · intro f V hg hl
                    simp [Oper.looksAt, Op.operands, Call.operands, famAt, famOf, isV] at hl
                    simp [famWants, boolIs_bool, boolIs_undef, execOp, rho, go_sem, hl, famUpon, famOf, isV, Grows.refl]
                    refine (HRR.out V hg).mono ?_
                    rintro e w'' ⟨B, d, rfl, hR9, hb⟩
                    exact ⟨_, rfl, hb, B, d, rfl, hR9.mono fun b hb _ => Nat.le_trans (Below.size hg) hb⟩
                  · intro f V hg hl
                    simp [Oper.looksAt, Op.operands, Call.operands, famAt, famOf, isV] at hl
                    obtain ⟨e81, B, d, e83, h83⟩ := hl
                    simp [famWants, boolIs_bool, boolIs_undef, execOp, rho, go_sem, e81, e83, famUpon, famOf, isV, Grows.refl]
                    refine (HSM.out V B d hg h83).mono ?_
                    rintro e w'' ⟨rfl, hb⟩
                    exact ⟨rfl, hb⟩
                  · intro f V hg hl
                    simp [Oper.looksAt, Op.operands, Call.operands, famAt, famOf, isV] at hl
                    simp [famWants, boolIs_bool, boolIs_undef, execOp, rho, go_sem, hl, famUpon, famOf, isV, Grows.refl]
                  · intro f V hg hl
                    simp [Oper.looksAt, Op.operands, Call.operands, famAt, famOf, isV] at hl
                    simp [famWants, boolIs_bool, boolIs_undef, execOp, rho, go_sem, hl, famUpon, famOf, isV, Grows.refl]
                  · intro f V hg hl
                    simp [Oper.looksAt, Op.operands, Call.operands, famAt, famOf, isV] at hl
                    simp [famWants, boolIs_bool, boolIs_undef, execOp, rho, go_sem, hl, famUpon, famOf, isV, Grows.refl]
                  · intro f V hg hl
                    simp [Oper.looksAt, Op.operands, Call.operands, famAt, famOf, isV] at hl
                    simp [famWants, boolIs_bool, boolIs_undef, execOp, rho, go_sem, hl, famUpon, famOf, isV, Grows.refl]
                    refine (HWT.out V hg).mono ?_
                    rintro e w'' ⟨rfl, hb⟩
                    exact ⟨rfl, hb⟩
                  · intro f V hg hl
                    simp [Oper.looksAt, Op.operands, Call.operands, famAt, famOf, isV] at hl
                    simp [famWants, boolIs_bool, boolIs_undef, execOp, rho, go_sem, hl, famUpon, famOf, isV, Grows.refl]
                  · intro f V hg hl
                    simp [Oper.looksAt, Op.operands, Call.operands, famAt, famOf, isV] at hl
                    simp [famWants, boolIs_bool, boolIs_undef, execOp, rho, go_sem, hl, famUpon, famOf, isV, Grows.refl]
                  · intro f V hg hl
                    simp [Oper.looksAt, Op.operands, Call.operands, famAt, famOf, isV] at hl
                    simp [famWants, boolIs_bool, boolIs_undef, execOp, rho, go_sem, hl, famUpon, famOf, isV, Grows.refl]
                  · intro f V hg hl
                    have q := HWS.out V hg
                    simp [Oper.looksAt, Op.operands, Call.operands, famAt, famOf, isV] at hl
                    simp [famWants, boolIs_bool, boolIs_undef, execOp, rho, go_sem, hl, q, famUpon, famOf, isV, Grows.refl]
                  · intro f V hg hl
                    simp [Oper.looksAt, Op.operands, Call.operands, famAt, famOf, isV] at hl
                    simp [famWants, boolIs_bool, boolIs_undef, execOp, rho, go_sem, hl, famUpon, famOf, isV, Grows.refl]
                  · intro f V hg hl
                    simp [Oper.looksAt, Op.operands, Call.operands, famAt, famOf, isV] at hl
                    simp [famWants, boolIs_bool, boolIs_undef, execOp, rho, go_sem, hl, famUpon, famOf, isV, Grows.refl]
                  · intro f V hg hl
                    simp [Oper.looksAt, Op.operands, Call.operands, famAt, famOf, isV] at hl
                    simp [famWants, boolIs_bool, boolIs_undef, execOp, rho, go_sem, hl, famUpon, famOf, isV, Grows.refl]
                  · intro f V hg hl
                    simp [Oper.looksAt, Op.operands, Call.operands, famAt, famOf, isV] at hl
                    simp [famWants, boolIs_bool, boolIs_undef, execOp, rho, go_sem, hl, famUpon, famOf, isV, Grows.refl]
                  · intro f V hg hl
                    simp [Oper.looksAt, Op.operands, Call.operands, famAt, famOf, isV] at hl
                    simp [famWants, boolIs_bool, boolIs_undef, execOp, rho, go_sem, hl, famUpon, famOf, isV, Grows.refl]
                  · intro f V hg hl
                    simp [Oper.looksAt, Op.operands, Call.operands, famAt, famOf, isV] at hl
                    simp [famWants, boolIs_bool, boolIs_undef, execOp, rho, go_sem, hl, famUpon, famOf, isV, Grows.refl]
                    refine (HRM.out V hg).mono ?_
                    rintro e w'' ⟨rfl, hb⟩
                    exact ⟨rfl, hb⟩
                  · intro f V hg hl
                    simp [Oper.looksAt, Op.operands, Call.operands, famAt, famOf, isV] at hl
                    simp [famWants, boolIs_bool, boolIs_undef, execOp, rho, go_sem, hl, famUpon, famOf, isV, Grows.refl]
                  · intro f V hg hl
                    simp [Oper.looksAt, Op.operands, Call.operands, famAt, famOf, isV] at hl
                    simp [famWants, boolIs_bool, boolIs_undef, execOp, rho, go_sem, hl, famUpon, famOf, isV, Grows.refl]
                  · intro f V hg hl
                    simp [Oper.looksAt, Op.operands, Call.operands, famAt, famOf, isV] at hl
                    simp [famWants, boolIs_bool, boolIs_undef, execOp, rho, go_sem, hl, famUpon, famOf, isV, Grows.refl]
                  · intro f V hg hl
                    simp [Oper.looksAt, Op.operands, Call.operands, famAt, famOf, isV] at hl
                    simp [famWants, boolIs_bool, boolIs_undef, execOp, rho, go_sem, hl, hwrz, famUpon, famOf, isV, Grows.refl]
                  · intro f V hg hl
                    simp [Oper.looksAt, Op.operands, Call.operands, famAt, famOf, isV] at hl
                    simp [famWants, boolIs_bool, boolIs_undef, execOp, rho, go_sem, hl, famUpon, famOf, isV, Grows.refl]
                  · intro f V hg hl
                    simp [Oper.looksAt, Op.operands, Call.operands, famAt, famOf, isV] at hl
                    simp [famWants, boolIs_bool, boolIs_undef, execOp, rho, go_sem, hl, famUpon, famOf, isV, Grows.refl]
                  · trivial
                · intro u V hg hu
                  have e104 : u 104 = .bool false := hu 104 (by decide)
                  simp only [List.drop_succ_cons, List.drop_zero, fill, Act.put, List.setIfInBounds_toArray, List.set_cons_zero, List.set_cons_succ, e104]
                  refine wpList_nil ?_
                  have hDV := hDa.new hg
                  have hb0V := below_new hb0a hg
                  have hSo := Soft.start (hgot.new hg).own
                  have hOG : ∀ b, (Value.slice Aa R.length 0).ownBlock = some b → wr.heap.size ≤ b ∧ b < wa.heap.size := fun b e => by
                    have e' : (Value.slice Aa R.length ca).ownBlock = some b := by rw [← e]; exact ownBlock_any _ _ _ _ _
                    exact ⟨hinn b e', (World.ownsRow.lt hgot.own b e').2⟩
                  obtain ⟨wn, hwn⟩ : ∃ W, W = wr := ⟨_, rfl⟩
                  subst hwn
                  clear hu e104 HRR HWT HRM HWS HSM hinn hgot
                  go_wp2_with fail
                  go_loopw [107] (fun jv ws => ∃ j : Nat, jv = .int .i64 j ∧ j ≤ R.length ∧ Soft V ws Aa R.length) (fun jv _ => R.length - (intOf jv).toNat)
                  case atStart => exact ⟨0, rfl, Nat.zero_le _, hSo⟩
                  case round =>
                    obtain ⟨j9, rfl, hj9, hS⟩ := hrel
                    clear hSo
                    by_cases hjl9 : j9 < R.length
                    · obtain ⟨h9, z, e9, hc, hf, hset⟩ := hS.at hjl9
                      subst e9
                      have hfin := hset (IntKind.u8.wrap (z + 1))
                      clear hset hS
                      go_wp2
                      go_roundw
                      case rel => exact ⟨j9 + 1, by go_num, by omega, hfin⟩
                      case measure => simp [intOf]; omega
                    · have hDn := (hDV.gb hS.1 (fun b e => hOG b e)).join
                      have hbn : Below w.heap.size w wr := hb0V.grown hS.1 hb0V.size (fun k hk => by have := hOG k hk; have := hbns; omega)
                      have hOn := HO'.out
                      clear hS hDV hb0V hOG hwrz
                      go_wp2
                      go_roundw
                      case rel => exact ⟨i + 1, L', us', by go_num, by omega, by omega, hOn, hDn, hbn⟩
                      case measure => simp [intOf]; omega
        · go_wp2
          go_ret
          exact ⟨rfl, hwr⟩
    · rw [if_neg hz] at hP
      obtain ⟨rfl, hb3⟩ := hP
      have hb03 := below_new hb02 hb3
      clear hb02 hb3
      go_wp2_with fail
      refine (rnew_any Z w3).mono ?_
      intro e w4 hP
      unfold RNewPost at hP
      rw [if_neg hz] at hP
      obtain ⟨rfl, rfl⟩ := hP
      clear hz
      go_wp2
      go_ret
      exact ⟨rfl, hb03⟩
end Go.Proofs.Ythgfjmifdeledaa
