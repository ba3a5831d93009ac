/- Layer 13: what DiskLasts comes to. -/
import Derived.Test.YthgfjmifdeledaaDkTwo
import Derived.Test.YthgfjmifdeledaaDiskSwapsM
namespace Go.Proofs.Ythgfjmifdeledaa
set_option linter.unusedVariables false
set_option linter.unusedSimpArgs false
open Go.ChangeShapes Go.WideShapes Go.ChangeAt Go.RowKit Go.Deep

/-- Rows of bytes as they stand in a row. -/
def BRows (w : World) (vs : List Value) (bs : List (List Int)) : Prop := ∀ (i : Nat) u b, vs[i]? = some u → bs[i]? = some b → ∃ A c, u = .slice A b.length c ∧ Rds w (· < w.heap.size) A (u8s b) ∧ b.length ≤ 140737488355328
set_option maxRecDepth 100000 in
set_option maxHeartbeats 4000000 in
theorem disklasts_main (Z : Int) (A : Option Addr) (c : Nat) (l : List Dk.O) (B : Option Addr) (cb : Nat) (vs : List Value) (bs : List (List Int)) (keep : Int) (w : World) (h : ORds w (· < w.heap.size) A l) (hl : l.length ≤ 140737488355328)
    (hv : Rds w (· < w.heap.size) B vs) (hvb : vs.length = bs.length) (hbs : BRows w vs bs) (hkf : keep < 9223372036854775808) :
    Calls Try.prog 4 #[.agg #[.int .i64 Z, .slice A l.length c, .slice B bs.length cb, .int .i64 keep]] w fun e w' => e = .returned (.bool true) ∧ Below w.heap.size w w' := by
  obtain ⟨w1, hw1⟩ : ∃ W, w.alloc (.cells #[.int .i64 Z, .slice A l.length c, .slice B bs.length cb, .int .i64 keep] 47) = W := ⟨_, rfl⟩
  have hb1 : Below w.heap.size w w1 := by rw [← hw1]; exact b_alloc _ _
  have hB1 : Blo w1 w.heap.size 47 #[.int .i64 Z, .slice A l.length c, .slice B bs.length cb, .int .i64 keep] := by rw [← hw1]; exact Blo.made _ _ _
  have HW := Lib.hid hw1
  have HVB := Lib.hid hvb
  have HBS := Lib.hid hbs
  clear hw1 hvb hbs
  go_enter Try.func4, Try.ntmps4
  go_wp2_with fail
  rw [HW.out]
  refine (dkalive_any w1).mono ?_
  rintro e w2 ⟨rfl, hb2⟩
  have hB2 := hB1.new hb2
  have hb02 := below_new hb1 hb2
  have d0 : w2.cell? ⟨w.heap.size, 0, none⟩ = some (.int .i64 Z) := by simpa using hB2.cell 0
  have d1 : w2.cell? ⟨w.heap.size, 1, none⟩ = some (.slice A l.length c) := by simpa using hB2.cell 1
  have d2 : w2.cell? ⟨w.heap.size, 2, none⟩ = some (.slice B bs.length cb) := by simpa using hB2.cell 2
  have d3 : w2.cell? ⟨w.heap.size, 3, none⟩ = some (.int .i64 keep) := by simpa using hB2.cell 3
  clear hB1 hB2 hb1 hb2
  go_wp2_with fail
  go_quiet (fail)
  obtain ⟨w3, hd, hw3⟩ : ∃ W, Drew w2 W ∧ w2.drewN nq = W := ⟨_, ⟨nq, rfl⟩, rfl⟩
  rw [hw3]
  have hb03 : Below w.heap.size w w3 := below_new hb02 (hd.below _)
  clear d0 d1 d2 d3 hw3 hb02 hd
  go_wp2_with fail
  refine (dkgreat_any w3 _ A c l (h.below hb03) hl).mono ?_
  rintro e w4 ⟨b, rfl, hgr, hb4⟩
  have hb04 := below_new hb03 hb4
  cases b with
  | true =>
    clear hgr
    go_wp2
    go_ret
    exact ⟨rfl, hb04⟩
  | false =>
    have hl200 := hgr rfl
    clear hgr hb03 hb4
    by_cases g1 : (50 : Int) < (bs.length : Int)
    · go_wp2
      go_ret
      exact ⟨rfl, hb04⟩
    have hbs50 : bs.length ≤ 50 := by omega
    go_wp2_with fail
    refine (pnew_any Z w4).mono ?_
    intro e w5 hP
    unfold PNewPost at hP
    by_cases hz : 1 ≤ Z ∧ Z ≤ 16384
    · rw [if_pos hz] at hP
      obtain ⟨g, rfl, h1, h2⟩ := hP
      have hb05 := below_new hb04 h2
      have hs4 := hb04.size
      have hD5 : DS w w5 g Z [] [] := ⟨Dk.Ok.new hz.1 hz.2, fun b => w4.heap.size ≤ b ∧ b < w5.heap.size, h1.mono fun b hb hl => ⟨hb, hl⟩, fun b hb => ⟨by omega, hb.2⟩, hb05⟩
      clear h1 h2 hb04 hb05 hs4
      go_wp2_with fail
      refine (pnew_any Z w5).mono ?_
      intro e w6 hP
      unfold PNewPost at hP
      rw [if_pos hz] at hP
      obtain ⟨g2, rfl, h1, h2⟩ := hP
      have hT6 : DTwo w w6 g g2 Z [] [] [] [] := DTwo.mk (fq := fun b => w5.heap.size ≤ b ∧ b < w6.heap.size) hD5 h2 (Dk.Ok.new hz.1 hz.2) (h1.mono fun b hb hl => ⟨hb, hl⟩) (fun b hb => hb)
      clear hD5 h1 h2 hz
      go_wp2_with fail
      go_loopw [58] (fun iv wr => ∃ (i : Nat) (L : List Int) (us : List Dk.U), iv = .int .i64 i ∧ i ≤ l.length ∧ us.length ≤ 16384 * i ∧ DTwo w wr g g2 Z L us L us) (fun iv _ => l.length - (intOf iv).toNat)
      case atStart => exact ⟨0, [], [], rfl, Nat.zero_le _, by simp, hT6⟩
      case round =>
        obtain ⟨i, L, us, rfl, hi, hu, hT⟩ := hrel
        clear hT6
        have hwr := hT.bel
        have hswr := hwr.size
        have hu9 : us.length ≤ 900000000 := by omega
        by_cases hlt : i < l.length
        · have hOr := h.below hwr
          obtain ⟨ad, rfl, c0, c1, c2⟩ := hOr.at hlt
          obtain ⟨hn, hn47, hor⟩ := hOr.inn l[i] (List.getElem_mem hlt)
          have hNf := hOr.fits l[i] (List.getElem_mem hlt)
          generalize l[i] = o at c0 c1 c2 hn hn47 hor hNf
          obtain ⟨ok, oN, oA, on, oc, oxs⟩ := o
          simp only at c0 c1 c2 hn hn47 hor hNf
          obtain ⟨w7, hw7⟩ : ∃ W, wr.alloc (.cells #[.int .i64 ok, .int .i64 oN, .slice oA on oc] 34) = W := ⟨_, rfl⟩
          have hb7 : Below wr.heap.size wr w7 := by rw [← hw7]; exact b_alloc _ _
          have hB7 : Blo w7 wr.heap.size 34 #[.int .i64 ok, .int .i64 oN, .slice oA on oc] := by rw [← hw7]; exact Blo.made _ _ _
          obtain ⟨d0, d1, d2, _⟩ := mdk_cells hB7
          have hz7 : w7.heap.size = wr.heap.size + 1 := by rw [← hw7]; simp
          have hlen' := Dk.stp_len hT.1 ok oN oxs
          have HDO := Lib.hid (hT.do hu9 hb7 ok oN (· < w.heap.size) oA on oc oxs hn (hor.below hb7 (fun b hb _ => by omega)) (fun b hb _ => .inl hb) hn47)
          obtain ⟨⟨x, L', us'⟩, hst⟩ : ∃ s, s = Dk.stp Z L us ok oN oxs := ⟨_, rfl⟩
          rw [← hst] at hlen' HDO
          simp only at hlen'
          have HST := Lib.hid hst
          have HN := Lib.hid (And.intro hn hor)
          clear hst hn hor hOr hswr hT
          go_wp2_with fail
          refine HDO.out.mono ?_
          rintro e w8 ⟨rfl, hT8, hk8⟩
          simp only at hT8 ⊢
          have hB8 : Blo w8 wr.heap.size 34 #[.int .i64 ok, .int .i64 oN, .slice oA on oc] := hB7.keep (hk8 _ (Nat.le_refl _) (by omega))
          clear d0 d1 d2 hk8 HDO hB7 hb7
          obtain ⟨d0, d1, d2, _⟩ := mdk_cells hB8
          have hb8 := hT8.bel
          have HDO2 := Lib.hid (hT8.symm.do hu9 (Below.refl _ _) ok oN (· < w.heap.size) oA on oc oxs HN.out.1 (HN.out.2.keep (w' := w8) fun b hb _ => by
            rw [hb8.block b hb, hwr.block b hb]) (fun b hb _ => .inl hb) hn47)
          rw [← HST.out] at HDO2
          clear hb8
          go_wp2_with fail
          refine HDO2.out.mono ?_
          rintro e w9 ⟨rfl, hT9, _⟩
          simp only at hT9 ⊢
          have hT9' := hT9.symm
          clear d0 d1 d2 hB8 hT8 HDO2 hT9 hwr
          go_wp2
          go_roundw
          case rel => exact ⟨i + 1, L', us', by go_num, by omega, by omega, hT9'⟩
          case measure => simp [intOf]; omega
        · clear hswr hwr
          have hO := hT.1
          have hZ := hO.hi
          have hZ1 := hO.lo
          go_wp2_with fail
          refine (hT.sync hu9 (Below.refl _ _)).mono ?_
          rintro e w7 ⟨rfl, hT7, _⟩
          go_wp2_with fail
          refine (hT7.symm.fst.wait hu9 (Below.refl _ _)).mono ?_
          rintro e w8 ⟨rfl, hb8⟩
          have hC := (hT7.new hb8).symm.crash hu9 (Below.refl _ _) us.length
          have e : Dk.cut us.length us.length = us.length := by unfold Dk.cut; omega
          rw [e, List.take_length] at hC
          obtain ⟨R, hR⟩ : ∃ R, R = Dk.aft L us := ⟨_, rfl⟩
          have hRl : R.length ≤ 16384 := by rw [hR]; have := hO.last; omega
          rw [← hR] at hC hT7
          have hC := Lib.hid hC
          clear e hR hT hT7 hb8 hO hu
          go_wp2_with fail
          refine hC.out.mono ?_
          rintro e w9 ⟨rfl, hT9, _⟩
          clear hC
          go_wp2_with fail
          refine (hT9.symm.fst.read (by simp) (Below.refl _ _)).mono ?_
          rintro e wa ⟨Aa, ca, rfl, hra, hba⟩
          rw [Dk.aft_nil] at hra ⊢
          go_wp2_with fail
          refine (hT9.fst.read (by simp) hba).mono ?_
          rintro e wb ⟨Ab, cc, rfl, hrb, hbb⟩
          rw [Dk.aft_nil] at hrb ⊢
          go_wp2_with fail
          refine (same_yes _ _ _ _ _ _ R _ (hra.new hbb).rds hrb.rds (by omega)).mono ?_
          rintro e wc ⟨rfl, hdr⟩
          have hX := hT9.symm.fst.dx hba
          have hlas := hra.mono (fq := fun b => w9.heap.size ≤ b ∧ b < wa.heap.size) fun b hb hl => ⟨hb, hl⟩
          have hbc := below_new hbb (hdr.below _)
          have hXc := hX.new hbc
          have hlac := hlas.new hbc
          have hXs : ∀ b, (w9.heap.size ≤ b ∧ b < wa.heap.size) → b < wc.heap.size := fun b hb => Nat.lt_of_lt_of_le hb.2 hbc.size
          clear hX hlas hrb hra hbb hdr hT9
          go_wp2_with fail
          refine (hXc.ds.wait (by simp) (Below.refl _ _)).mono ?_
          rintro e wd ⟨rfl, hbd⟩
          simp only [List.length_nil]
          have hXd := hXc.new hbd
          have hlad := hlac.new hbd
          have hXsd : ∀ b, (w9.heap.size ≤ b ∧ b < wa.heap.size) → b < wd.heap.size := fun b hb => Nat.lt_of_lt_of_le (hXs b hb) hbd.size
          clear hXc hlac hXs hbd hbc hba
          go_wp2_with fail
          go_loopw [14, 89] (fun wv iv wr => ∃ (j : Nat) (ys : List Int), iv = .int .i64 j ∧ wv = .int .i64 (ys.length : Int) ∧ j ≤ bs.length ∧ ys.length ≤ 1000 * j ∧ DX w wr (fun b => w9.heap.size ≤ b ∧ b < wa.heap.size) g Z R (ys.map .b) ∧ ByR wr (fun b => w9.heap.size ≤ b ∧ b < wa.heap.size) (.slice Aa R.length ca) R ∧ wd.heap.size ≤ wr.heap.size) (fun _ iv _ => bs.length - (intOf iv).toNat)
          case atStart => exact ⟨0, [], rfl, rfl, Nat.zero_le _, by simp, hXd, hlad, Nat.le_refl _⟩
          case round =>
            obtain ⟨j, ys, rfl, rfl, hj, hys, hX, hla, hsz⟩ := hrel
            clear hXd hlad
            have hXsq : ∀ b, (w9.heap.size ≤ b ∧ b < wa.heap.size) → b < wr.heap.size := fun b hb => Nat.lt_of_lt_of_le (hXsd b hb) hsz
            have hbq : Below w.heap.size w wr := by obtain ⟨_, _, _, _, h⟩ := hX; exact h
            have hym : (ys.map Dk.U.b).length ≤ 900000000 := by simp; omega
            by_cases hjl : j < bs.length
            · have hjv : j < vs.length := by rw [HVB.out]; exact hjl
              obtain ⟨ad, rfl, _, c0⟩ := (hv.new hbq).at hjv
              obtain ⟨Ax, cx, ex, hrx, hlx⟩ := HBS.out j vs[j] bs[j] (List.getElem?_eq_getElem hjv) (List.getElem?_eq_getElem hjl)
              rw [ex] at c0
              have hrx := hrx.new hbq
              clear ex
              generalize bs[j] = xs at c0 hrx hlx
              by_cases hx1 : (1000 : Int) < (xs.length : Int)
              · go_wp2
                go_ret
                exact ⟨rfl, hbq⟩
              have hA := Lib.hid (hX.append hXsq hym _ Ax _ cx xs rfl hrx (fun b hb _ => hb) hlx)
              have hla' := Lib.hid hla
              have hz2 : ((Dk.aft R (ys.map Dk.U.b)).length : Int) = (R.length : Int) + ys.length := by rw [Dk.aft_bytes]; simp
              by_cases hf : Z < (R.length : Int) + ys.length + xs.length
              · have HE : Hid (Dk.apE Z R (ys.map .b) xs = 7 ∧ Dk.apU Z R (ys.map .b) xs = ys.map .b) := Lib.hid (by unfold Dk.apE Dk.apU; rw [hz2, if_pos hf, if_pos hf]; exact ⟨rfl, rfl⟩)
                rw [HE.out.1, HE.out.2] at hA
                clear hX hla hf hz2 hrx hym HE
                go_wp2_with fail
                refine hA.out.mono ?_
                rintro e we ⟨rfl, hXe, hle, hke⟩
                have hlae := hla'.out.keep (w' := we) fun b hb hl => hke b hb hl
                clear hA hke hla'
                go_wp2
                go_roundw
                case rel =>
                  refine ⟨_, _, _, _, _, _, _, _, _, _, _, _, _, _, _, _, _, _, _, ⟨j + 1, ys, ?_, ?_, by omega, by omega, hXe, hlae, by omega⟩, rfl⟩
                  · go_num
                  · rfl
                case measure => simp [intOf]; omega
              · have HE : Hid (Dk.apE Z R (ys.map .b) xs = 0 ∧ Dk.apU Z R (ys.map .b) xs = (ys ++ xs).map .b) := Lib.hid (by unfold Dk.apE Dk.apU; rw [hz2, if_neg hf, if_neg hf, List.map_append]; exact ⟨rfl, rfl⟩)
                rw [HE.out.1, HE.out.2] at hA
                have hwr : IntKind.i64.wrap ((ys.length : Int) + xs.length) = ((ys ++ xs).length : Int) := by rw [List.length_append]; push_cast; exact IntWalk.i64_in _ (by omega)
                have HL : Hid ((ys ++ xs).length = ys.length + xs.length) := Lib.hid (by simp)
                generalize ys ++ xs = zs at hA hwr HL
                clear hX hla hf hz2 hrx hym HE
                go_wp2_with fail
                refine hA.out.mono ?_
                rintro e we ⟨rfl, hXe, hle, hke⟩
                have hlae := hla'.out.keep (w' := we) fun b hb hl => hke b hb hl
                clear hA hke hla'
                go_wp2
                go_roundw
                case rel =>
                  refine ⟨_, _, _, _, _, _, _, _, _, _, _, _, _, _, _, _, _, _, _, ⟨j + 1, zs, ?_, ?_, by omega, by rw [HL.out]; omega, hXe, hlae, by omega⟩, rfl⟩
                  · go_num
                  · rfl
                case measure => simp [intOf]; omega
            · obtain ⟨Q, hQ⟩ : ∃ Q, Q = Dk.aft R (ys.map Dk.U.b) := ⟨_, rfl⟩
              have hQe : Q = R ++ ys := by rw [hQ, Dk.aft_bytes]
              have hQl : Q.length = R.length + ys.length := by rw [hQe]; simp
              obtain ⟨NQ, hNQ⟩ : ∃ N, N = Q.length := ⟨_, rfl⟩
              have hys50 : ys.length ≤ 50000 := by omega
              have hO := hX.1
              clear hj hys
              have hRd := hX.ds.read hym (Below.refl _ _)
              rw [← hQ] at hRd
              have hRd := Lib.hid hRd
              have HQ := Lib.hid (And.intro hQe (And.intro hNQ hQl))
              clear hQ hQe hNQ hQl
              go_wp2_with fail
              refine hRd.out.mono ?_
              rintro e we ⟨Ae, ce, rfl, hre, hbe⟩
              have hce : Q.length ≤ ce := by
                obtain ⟨A', c', e, hc, _⟩ := hre.form
                injection e with e1 e2 e3
                omega
              have hXe := hX.dx hbe
              have hre2 := hre.mono (fq := fun b => (w9.heap.size ≤ b ∧ b < wa.heap.size) ∨ wr.heap.size ≤ b ∧ b < we.heap.size) fun b hb hl => .inr ⟨hb, hl⟩
              have hlae := (hla.new hbe).mono (fq := fun b => (w9.heap.size ≤ b ∧ b < wa.heap.size) ∨ wr.heap.size ≤ b ∧ b < we.heap.size) fun b hb hl => .inl hb
              have hse := hbe.size
              have hXse : ∀ b, ((w9.heap.size ≤ b ∧ b < wa.heap.size) ∨ wr.heap.size ≤ b ∧ b < we.heap.size) → b < we.heap.size := fun b hb => by
                rcases hb with hb | hb
                · have := hXsq b hb; omega
                · exact hb.2
              clear hRd hre hX hla hse hbe
              rw [← HQ.out.2.1]
              go_wp2_with fail
              refine (hXe.ds.wait hym (Below.refl _ _)).mono ?_
              rintro e wf ⟨rfl, hbf⟩
              rw [List.length_map]
              have hXf := hXe.new hbf
              have href := hre2.new hbf
              have hlaf := hlae.new hbf
              have hXsf : ∀ b, ((w9.heap.size ≤ b ∧ b < wa.heap.size) ∨ wr.heap.size ≤ b ∧ b < we.heap.size) → b < wf.heap.size := fun b hb => Nat.lt_of_lt_of_le (hXse b hb) hbf.size
              obtain ⟨hQe, hNQ, hQl⟩ := HQ.out
              have hwr1 : IntKind.i64.wrap ((R.length : Int) + ys.length) = (NQ : Int) := by rw [hNQ, hQl]; push_cast; exact IntWalk.i64_in _ (by omega)
              obtain ⟨k, hk⟩ : ∃ k, k = Dk.cut keep ys.length := ⟨_, rfl⟩
              have hkl : k ≤ ys.length := by rw [hk]; exact Dk.cut_le _ _
              have hki : max 0 (min keep (ys.length : Int)) = (k : Int) := by rw [hk, Dk.cut_int]
              obtain ⟨N, hN⟩ : ∃ N, N = R.length + k := ⟨_, rfl⟩
              have hwr2 : IntKind.i64.wrap ((R.length : Int) + (k : Int)) = (N : Int) := by rw [hN]; push_cast; exact IntWalk.i64_in _ (by omega)
              have hC := hXf.crash hXsf hym keep
              rw [List.length_map, ← hk, ← List.map_take, Dk.aft_bytes] at hC
              have hP : Q.take N = R ++ ys.take k := by rw [hQe, hN, List.take_length_add_append]
              have hP2 : Q.take R.length = R := by rw [hQe]; exact List.take_left
              rw [← hP] at hC
              have hPl : (Q.take N).length = N := by rw [List.length_take]; omega
              have hC := Lib.hid hC
              have HP := Lib.hid (And.intro hP2 hPl)
              have hNl : N ≤ NQ := by omega
              have hRl2 : R.length ≤ NQ := by omega
              have hs1 := run_bto Ae NQ ce N (by omega)
              have hs2 := run_bto Ae NQ ce R.length (by omega)
              have HB := Lib.hid (show Q.length ≤ 100000 ∧ N ≤ 100000 by omega)
              clear hXe hre2 hlae hXse hbf hk hN hP hP2 hPl hO hQe hQl hce hXsq hNQ
              go_wp2_with fail
              refine hC.out.mono ?_
              rintro e wg ⟨rfl, hXg, hsg, hkg⟩
              have hreg := href.keep (w' := wg) fun b hb hl => hkg b hb hl
              have hlag := hlaf.keep (w' := wg) fun b hb hl => hkg b hb hl
              clear hC hkg hXf href hlaf
              have hRd := hXg.ds.read (by simp) (Below.refl _ _)
              rw [Dk.aft_nil] at hRd
              have hRd := Lib.hid hRd
              go_wp2_with fail
              refine hRd.out.mono ?_
              rintro e wh ⟨Ah, ch, rfl, hrh, hbh⟩
              rw [HP.out.2]
              have hXh := hXg.new hbh
              have hreh := hreg.new hbh
              have hlah := hlag.new hbh
              have HS1 : Hid (Calls Try.prog 14 #[.slice Ah N ch, .slice Ae N ce] wh fun e w' => e = .returned (.bool true) ∧ Drew wh w') := Lib.hid (by
                have h1 := same_yes _ _ Ah Ae ch ce (Q.take N) wh hrh.rds (by have := hreh.rds.take N; rwa [← List.map_take] at this) (by rw [HP.out.2]; have := HB.out.2; omega)
                rwa [HP.out.2] at h1)
              clear hRd hrh hXg hreg hlag hbh
              go_wp2_with fail
              refine HS1.out.mono ?_
              rintro e wi ⟨rfl, hdi⟩
              have hri : Rds wi (fun b => (w9.heap.size ≤ b ∧ b < wa.heap.size) ∨ wr.heap.size ≤ b ∧ b < we.heap.size) Ae (u8s R) := by
                have := (hdi.rds hreh.rds).take R.length
                rwa [← List.map_take, HP.out.1] at this
              have HS2 := Lib.hid (same_yes _ _ Ae Aa ce ca R wi hri (hdi.rds hlah.rds) (by omega))
              have hXi := hXh.new (hdi.below _)
              clear HS1 hri hreh hlah hdi hXh
              go_wp2_with fail
              refine HS2.out.mono ?_
              rintro e wj ⟨rfl, hdj⟩
              have hXj := hXi.new (hdj.below _)
              clear HS2 hdj hXi
              go_wp2_with fail
              refine (hXj.ds.wait (by simp) (Below.refl _ _)).mono ?_
              rintro e wk ⟨rfl, hbk⟩
              simp only [List.length_nil]
              have hbw : Below w.heap.size w wk := by obtain ⟨_, _, _, _, h⟩ := hXj.new hbk; exact h
              clear hXj hbk hwr1 hwr2 hki hs1 hs2
              go_wp2
              go_ret
              exact ⟨rfl, hbw⟩
    · rw [if_neg hz] at hP
      obtain ⟨rfl, hb5⟩ := hP
      have hb05 := below_new hb04 hb5
      clear hb04 hb5
      go_wp2_with fail
      refine (pnew_any Z w5).mono ?_
      intro e w6 hP
      unfold PNewPost at hP
      rw [if_neg hz] at hP
      obtain ⟨rfl, hb6⟩ := hP
      have hb06 := below_new hb05 hb6
      clear hb05 hb6 hz
      go_wp2
      go_ret
      exact ⟨rfl, hb06⟩
end Go.Proofs.Ythgfjmifdeledaa
