/- Layer 13: what DiskRoom comes to. -/
import Derived.Test.YthgfjmifdeledaaDkLaw
import Derived.Test.YthgfjmifdeledaaSameY
namespace Go.Proofs.Ythgfjmifdeledaa
set_option linter.unusedVariables false
set_option linter.unusedSimpArgs false
open Go.ChangeShapes Go.WideShapes Go.ChangeAt Go.RowKit Go.Deep

theorem Dk.stp_room {Z : Int} {L : List Int} {us : List Dk.U} (k N : Int) (xs : List Int) {x : Int} {L' : List Int} {us' : List Dk.U} (h : Dk.stp Z L us k N xs = (x, L', us')) :
    (k = 1 → (x = 0 ↔ (xs.length : Int) ≤ Z - (Dk.aft L us).length)) ∧ (k = 2 → (x = 0 ↔ (xs.length : Int) ≤ Z)) ∧ (k = 3 → us' = [] ∧ Dk.aft L' us' = Dk.aft L us) ∧ (x ≠ 0 → Dk.aft L' us' = Dk.aft L us) := by
  unfold Dk.stp at h
  by_cases h1 : k = 1
  · rw [if_pos h1] at h
    injection h with e1 e2
    injection e2 with e2 e3
    unfold Dk.apE at e1
    unfold Dk.apU at e3
    refine ⟨fun _ => ?_, fun h => by omega, fun h => by omega, fun hx => ?_⟩
    · split at e1 <;> omega
    · split at e1
      · rw [if_pos (by assumption)] at e3; rw [← e2, ← e3]
      · exact absurd e1.symm hx
  · rw [if_neg h1] at h
    by_cases h2 : k = 2
    · rw [if_pos h2] at h
      injection h with e1 e2
      injection e2 with e2 e3
      unfold Dk.swE at e1
      unfold Dk.swU at e3
      refine ⟨fun h => by omega, fun _ => ?_, fun h => by omega, fun hx => ?_⟩
      · split at e1 <;> omega
      · split at e1
        · rw [if_pos (by assumption)] at e3; rw [← e2, ← e3]
        · exact absurd e1.symm hx
    · rw [if_neg h2] at h
      by_cases h3 : k = 3
      · rw [if_pos h3] at h
        injection h with e1 e2
        injection e2 with e2 e3
        exact ⟨fun h => by omega, fun h => by omega, fun _ => ⟨e3.symm, by rw [← e2, ← e3]; rfl⟩, fun hx => absurd e1.symm hx⟩
      · rw [if_neg h3] at h
        refine ⟨fun h => by omega, fun h => by omega, fun h => by omega, fun hx => ?_⟩
        split at h
        · injection h with e1 e2; exact absurd e1.symm hx
        · injection h with e1 e2; exact absurd e1.symm hx

set_option maxRecDepth 100000 in
set_option maxHeartbeats 4000000 in
theorem diskroom_main (Z : Int) (A : Option Addr) (c : Nat) (l : List Dk.O) (w : World) (h : ORds w (· < w.heap.size) A l) (hl : l.length ≤ 140737488355328) :
    Calls Try.prog 6 #[.int .i64 Z, .slice A l.length c] w fun e w' => e = .returned (.bool true) ∧ Below w.heap.size w w' := by
  go_enter Try.func6, Try.ntmps6
  go_wp2_with fail
  refine (dkalive_any w).mono ?_
  rintro e w1 ⟨rfl, hb1⟩
  go_wp2_with fail
  refine (dkgreat_any w1 _ A c l (h.below hb1) hl).mono ?_
  rintro e w2 ⟨b, rfl, hgr, hb2⟩
  have hb02 := below_new hb1 hb2
  cases b with
  | true =>
    clear hgr
    go_wp2
    go_ret
    exact ⟨rfl, hb02⟩
  | false =>
    have hl200 := hgr rfl
    clear hgr hb1 hb2
    go_wp2_with fail
    refine (pnew_any Z w2).mono ?_
    intro e w3 hP
    unfold PNewPost at hP
    by_cases hz : 1 ≤ Z ∧ Z ≤ 16384
    · rw [if_pos hz] at hP
      obtain ⟨g, rfl, h1, h2⟩ := hP
      have hb3 := below_new hb02 h2
      have hs2 := hb02.size
      have hD : DS w w3 g Z [] [] := ⟨Dk.Ok.new hz.1 hz.2, fun b => w2.heap.size ≤ b ∧ b < w3.heap.size, h1.mono fun b hb hl => ⟨hb, hl⟩, fun b hb => ⟨by omega, hb.2⟩, hb3⟩
      clear h1 h2 hb3 hz hb02
      go_wp2_with fail
      go_loopw [31] (fun iv wr => ∃ (i : Nat) (L : List Int) (us : List Dk.U), iv = .int .i64 i ∧ i ≤ l.length ∧ us.length ≤ 16384 * i ∧ DS w wr g Z L us) (fun iv _ => l.length - (intOf iv).toNat)
      case atStart => exact ⟨0, [], [], rfl, Nat.zero_le _, by simp, hD⟩
      case round =>
        obtain ⟨i, L, us, rfl, hi, hu, hD⟩ := hrel
        have hO := hD.1
        have hwr : Below w.heap.size w wr := by obtain ⟨_, _, _, _, h⟩ := hD; exact h
        have hswr := hwr.size
        by_cases hlt : i < l.length
        · have hOr := h.below hwr
          obtain ⟨ad, rfl, c0, c1, c2⟩ := hOr.at hlt
          obtain ⟨hn, hn47, hor⟩ := hOr.inn l[i] (List.getElem_mem hlt)
          have hNf := hOr.fits l[i] (List.getElem_mem hlt)
          generalize l[i] = o at c0 c1 c2 hn hn47 hor hNf
          obtain ⟨ok, oN, oA, on, oc, oxs⟩ := o
          simp only at c0 c1 c2 hn hn47 hor hNf
          obtain ⟨w4, hw4⟩ : ∃ W, wr.alloc (.cells #[.int .i64 ok, .int .i64 oN, .slice oA on oc] 34) = W := ⟨_, rfl⟩
          have hb4 : Below wr.heap.size wr w4 := by rw [← hw4]; exact b_alloc _ _
          have hB4 : Blo w4 wr.heap.size 34 #[.int .i64 ok, .int .i64 oN, .slice oA on oc] := by rw [← hw4]; exact Blo.made _ _ _
          have hs4 := hb4.size
          obtain ⟨R, hR⟩ : ∃ R, R = Dk.aft L us := ⟨_, rfl⟩
          have hRl : R.length ≤ 16384 := by rw [hR]; have := hO.last; have := hO.hi; omega
          have HR := Lib.hid hR
          have hu9 : us.length ≤ 900000000 := by omega
          have hlen' := Dk.stp_len hO ok oN oxs
          have hOk' := Dk.stp_ok hO ok oN oxs
          obtain ⟨⟨x, L', us'⟩, hst⟩ : ∃ s, s = Dk.stp Z L us ok oN oxs := ⟨_, rfl⟩
          have hF := Dk.stp_room ok oN oxs hst.symm
          rw [← hst] at hlen' hOk'
          simp only at hlen' hOk'
          rw [hn, ← hR] at hF
          have HST := Lib.hid hst
          clear hst hR
          go_wp2_with fail
          refine (hD.read hu9 hb4).mono ?_
          rintro e w5 ⟨A5, c5, rfl, hr5, hb5⟩
          rw [← HR.out] at hr5 ⊢
          have hb45 := below_new hb4 hb5
          go_wp2_with fail
          refine (hD.room hu9 hb45).mono ?_
          rintro e w6 ⟨rfl, hb6⟩
          rw [← HR.out]
          have hb46 := below_new hb45 hb6
          have hr6 := hr5.new hb6
          have hB6 := (hB4.new hb5).new hb6
          have hs6 := hb46.size
          have hor6 := hor.below hb46 (fun b hb _ => by omega)
          have HF := Lib.hid hF
          clear hF
          obtain ⟨d0, d1, d2, _⟩ := mdk_cells hB6
          have HDO := Lib.hid (hD.do hu9 hb46 ok oN (· < w.heap.size) oA on oc oxs hn hor6 (fun b hb _ => .inl hb) hn47)
          rw [← HST.out] at HDO
          go_wp2_with fail
          refine HDO.out.mono ?_
          rintro e w7 ⟨rfl, hD7, hK7⟩
          simp only at hD7 ⊢
          have hr7 : ByR w7 (fun b => w4.heap.size ≤ b) (.slice A5 R.length c5) R := hr6.keep fun b hb hl => hK7.block b hl fun hf => by omega
          have hB7 := hK7.blo hB6 (fun hf => by omega)
          obtain ⟨d0, d1, d2, _⟩ := mdk_cells hB7
          obtain ⟨R', hR'⟩ : ∃ R', R' = Dk.aft L' us' := ⟨_, rfl⟩
          have hR'l : (R'.length : Int) ≤ Z := by rw [hR']; exact hOk'.last
          have hZ := hOk'.hi
          have hZ1 := hOk'.lo
          have HR' := Lib.hid hR'
          have hu7 : us'.length ≤ 900000000 := by omega
          clear hswr hs4 hs6 hR' hOk' HDO hK7 hr6 hB6 hb46 hb45 hor6 hor hOr hB4 hB7 hD hb4 hb5 hb6 hr5
          by_cases k1 : ok = 1
          · subst k1
            have q1 := HF.out.1 rfl
            by_cases hx : x = 0
            · subst hx
              have hle : (on : Int) ≤ Z - R.length := q1.1 rfl
              clear q1
              have hwrp : IntKind.i64.wrap (Z - R'.length + R'.length) = Z := by rw [show Z - (R'.length : Int) + R'.length = Z by omega]; exact IntWalk.i64_in _ (by omega)
              have hge : ¬ (Z - (R'.length : Int) < 0) := by omega
              go_wp2_with fail
              refine (hD7.room hu7 (Below.refl _ _)).mono ?_
              rintro e wc ⟨rfl, hbc⟩
              rw [← HR'.out]
              have hb7c := below_new (Below.refl _ _) hbc
              go_wp2_with fail
              refine (hD7.read hu7 hb7c).mono ?_
              rintro e wd ⟨Ad, cd, rfl, hrd, hbd⟩
              rw [← HR'.out] at hrd ⊢
              have hb7d := below_new hb7c hbd
              go_wp2_with fail
              refine (hD7.room hu7 hb7d).mono ?_
              rintro e wf ⟨rfl, hbf⟩
              rw [← HR'.out]
              have hb7f := below_new hb7d hbf
              have hfin := hD7.new hb7f
              clear hD7 hb7c hb7d hbc hbd hbf hrd hwr
              go_wp2
              go_roundw
              case rel => exact ⟨i + 1, L', us', by go_num, by omega, by omega, hfin⟩
              case measure => simp [intOf]; omega
            · have hle : ¬ ((on : Int) ≤ Z - R.length) := fun h => hx (q1.2 h)
              clear q1
              have hRR : R' = R := by rw [HR'.out]; exact HF.out.2.2.2 hx
              have hr7 : ByR w7 (fun b => w4.heap.size ≤ b) (.slice A5 R'.length c5) R' := by rw [hRR]; exact hr7
              have e5 : R.length = R'.length := by rw [hRR]
              rw [e5] at hle ⊢
              clear hRR e5
              go_wp2_with fail
              refine (hD7.read hu7 (Below.refl _ _)).mono ?_
              rintro e wa ⟨Aa, ca, rfl, hra, hba⟩
              rw [← HR'.out] at hra ⊢
              have hb7a := below_new (Below.refl _ _) hba
              go_wp2_with fail
              refine (same_yes _ _ _ _ _ _ R' _ hra.rds ((hr7.new (Below.refl _ _)).new hba).rds (by omega)).mono ?_
              rintro e wb ⟨rfl, hdr⟩
              have hb7b := below_new hb7a (hdr.below _)
              have hwrp : IntKind.i64.wrap (Z - R'.length + R'.length) = Z := by rw [show Z - (R'.length : Int) + R'.length = Z by omega]; exact IntWalk.i64_in _ (by omega)
              have hge : ¬ (Z - (R'.length : Int) < 0) := by omega
              go_wp2_with fail
              refine (hD7.room hu7 hb7b).mono ?_
              rintro e wc ⟨rfl, hbc⟩
              rw [← HR'.out]
              have hb7c := below_new hb7b hbc
              go_wp2_with fail
              refine (hD7.read hu7 hb7c).mono ?_
              rintro e wd ⟨Ad, cd, rfl, hrd, hbd⟩
              rw [← HR'.out] at hrd ⊢
              have hb7d := below_new hb7c hbd
              go_wp2_with fail
              refine (hD7.room hu7 hb7d).mono ?_
              rintro e wf ⟨rfl, hbf⟩
              rw [← HR'.out]
              have hb7f := below_new hb7d hbf
              have hfin := hD7.new hb7f
              clear hD7 hb7c hb7d hbc hbd hbf hrd hwr
              go_wp2
              go_roundw
              case rel => exact ⟨i + 1, L', us', by go_num, by omega, by omega, hfin⟩
              case measure => simp [intOf]; omega
          · by_cases k2 : ok = 2
            · subst k2
              have q2 := HF.out.2.1 rfl
              by_cases hx : x = 0
              · subst hx
                have hle : (on : Int) ≤ Z := q2.1 rfl
                clear q2
                have hwrp : IntKind.i64.wrap (Z - R'.length + R'.length) = Z := by rw [show Z - (R'.length : Int) + R'.length = Z by omega]; exact IntWalk.i64_in _ (by omega)
                have hge : ¬ (Z - (R'.length : Int) < 0) := by omega
                go_wp2_with fail
                refine (hD7.room hu7 (Below.refl _ _)).mono ?_
                rintro e wc ⟨rfl, hbc⟩
                rw [← HR'.out]
                have hb7c := below_new (Below.refl _ _) hbc
                go_wp2_with fail
                refine (hD7.read hu7 hb7c).mono ?_
                rintro e wd ⟨Ad, cd, rfl, hrd, hbd⟩
                rw [← HR'.out] at hrd ⊢
                have hb7d := below_new hb7c hbd
                go_wp2_with fail
                refine (hD7.room hu7 hb7d).mono ?_
                rintro e wf ⟨rfl, hbf⟩
                rw [← HR'.out]
                have hb7f := below_new hb7d hbf
                have hfin := hD7.new hb7f
                clear hD7 hb7c hb7d hbc hbd hbf hrd hwr
                go_wp2
                go_roundw
                case rel => exact ⟨i + 1, L', us', by go_num, by omega, by omega, hfin⟩
                case measure => simp [intOf]; omega
              · have hle : ¬ ((on : Int) ≤ Z) := fun h => hx (q2.2 h)
                clear q2
                have hRR : R' = R := by rw [HR'.out]; exact HF.out.2.2.2 hx
                have hr7 : ByR w7 (fun b => w4.heap.size ≤ b) (.slice A5 R'.length c5) R' := by rw [hRR]; exact hr7
                have e5 : R.length = R'.length := by rw [hRR]
                rw [e5]
                clear hRR e5
                go_wp2_with fail
                refine (hD7.read hu7 (Below.refl _ _)).mono ?_
                rintro e wa ⟨Aa, ca, rfl, hra, hba⟩
                rw [← HR'.out] at hra ⊢
                have hb7a := below_new (Below.refl _ _) hba
                go_wp2_with fail
                refine (same_yes _ _ _ _ _ _ R' _ hra.rds ((hr7.new (Below.refl _ _)).new hba).rds (by omega)).mono ?_
                rintro e wb ⟨rfl, hdr⟩
                have hb7b := below_new hb7a (hdr.below _)
                have hwrp : IntKind.i64.wrap (Z - R'.length + R'.length) = Z := by rw [show Z - (R'.length : Int) + R'.length = Z by omega]; exact IntWalk.i64_in _ (by omega)
                have hge : ¬ (Z - (R'.length : Int) < 0) := by omega
                go_wp2_with fail
                refine (hD7.room hu7 hb7b).mono ?_
                rintro e wc ⟨rfl, hbc⟩
                rw [← HR'.out]
                have hb7c := below_new hb7b hbc
                go_wp2_with fail
                refine (hD7.read hu7 hb7c).mono ?_
                rintro e wd ⟨Ad, cd, rfl, hrd, hbd⟩
                rw [← HR'.out] at hrd ⊢
                have hb7d := below_new hb7c hbd
                go_wp2_with fail
                refine (hD7.room hu7 hb7d).mono ?_
                rintro e wf ⟨rfl, hbf⟩
                rw [← HR'.out]
                have hb7f := below_new hb7d hbf
                have hfin := hD7.new hb7f
                clear hD7 hb7c hb7d hbc hbd hbf hrd hwr
                go_wp2
                go_roundw
                case rel => exact ⟨i + 1, L', us', by go_num, by omega, by omega, hfin⟩
                case measure => simp [intOf]; omega
            · by_cases k3 : ok = 3
              · subst k3
                obtain ⟨q3, q4⟩ := HF.out.2.2.1 rfl
                have hw0 : ((us'.length : Nat) : Int) = 0 := by rw [q3]; rfl
                have hRR : R' = R := by rw [HR'.out]; exact q4
                have hr7 : ByR w7 (fun b => w4.heap.size ≤ b) (.slice A5 R'.length c5) R' := by rw [hRR]; exact hr7
                have e5 : R.length = R'.length := by rw [hRR]
                rw [e5]
                clear q3 q4 e5 hRR
                go_wp2_with fail
                refine (hD7.wait hu7 (Below.refl _ _)).mono ?_
                rintro e w8 ⟨rfl, hb8⟩
                rw [hw0]
                go_wp2_with fail
                refine (hD7.read hu7 hb8).mono ?_
                rintro e w9 ⟨A9, c9, rfl, hr9, hb9⟩
                rw [← HR'.out] at hr9 ⊢
                have hb79 := below_new hb8 hb9
                go_wp2_with fail
                refine (same_yes _ _ _ _ _ _ R' _ hr9.rds ((hr7.new hb8).new hb9).rds (by omega)).mono ?_
                rintro e wz ⟨rfl, hdr⟩
                have hb7z := below_new hb79 (hdr.below _)
                clear hw0
                by_cases hx : x = 0
                · subst hx
                  have hwrp : IntKind.i64.wrap (Z - R'.length + R'.length) = Z := by rw [show Z - (R'.length : Int) + R'.length = Z by omega]; exact IntWalk.i64_in _ (by omega)
                  have hge : ¬ (Z - (R'.length : Int) < 0) := by omega
                  go_wp2_with fail
                  refine (hD7.room hu7 hb7z).mono ?_
                  rintro e wc ⟨rfl, hbc⟩
                  rw [← HR'.out]
                  have hb7c := below_new hb7z hbc
                  go_wp2_with fail
                  refine (hD7.read hu7 hb7c).mono ?_
                  rintro e wd ⟨Ad, cd, rfl, hrd, hbd⟩
                  rw [← HR'.out] at hrd ⊢
                  have hb7d := below_new hb7c hbd
                  go_wp2_with fail
                  refine (hD7.room hu7 hb7d).mono ?_
                  rintro e wf ⟨rfl, hbf⟩
                  rw [← HR'.out]
                  have hb7f := below_new hb7d hbf
                  have hfin := hD7.new hb7f
                  clear hD7 hb7c hb7d hbc hbd hbf hrd hwr
                  go_wp2
                  go_roundw
                  case rel => exact ⟨i + 1, L', us', by go_num, by omega, by omega, hfin⟩
                  case measure => simp [intOf]; omega
                · go_wp2_with fail
                  refine (hD7.read hu7 hb7z).mono ?_
                  rintro e wa ⟨Aa, ca, rfl, hra, hba⟩
                  rw [← HR'.out] at hra ⊢
                  have hb7a := below_new hb7z hba
                  go_wp2_with fail
                  refine (same_yes _ _ _ _ _ _ R' _ hra.rds ((hr7.new hb7z).new hba).rds (by omega)).mono ?_
                  rintro e wb ⟨rfl, hdr⟩
                  have hb7b := below_new hb7a (hdr.below _)
                  have hwrp : IntKind.i64.wrap (Z - R'.length + R'.length) = Z := by rw [show Z - (R'.length : Int) + R'.length = Z by omega]; exact IntWalk.i64_in _ (by omega)
                  have hge : ¬ (Z - (R'.length : Int) < 0) := by omega
                  go_wp2_with fail
                  refine (hD7.room hu7 hb7b).mono ?_
                  rintro e wc ⟨rfl, hbc⟩
                  rw [← HR'.out]
                  have hb7c := below_new hb7b hbc
                  go_wp2_with fail
                  refine (hD7.read hu7 hb7c).mono ?_
                  rintro e wd ⟨Ad, cd, rfl, hrd, hbd⟩
                  rw [← HR'.out] at hrd ⊢
                  have hb7d := below_new hb7c hbd
                  go_wp2_with fail
                  refine (hD7.room hu7 hb7d).mono ?_
                  rintro e wf ⟨rfl, hbf⟩
                  rw [← HR'.out]
                  have hb7f := below_new hb7d hbf
                  have hfin := hD7.new hb7f
                  clear hD7 hb7c hb7d hbc hbd hbf hrd hwr
                  go_wp2
                  go_roundw
                  case rel => exact ⟨i + 1, L', us', by go_num, by omega, by omega, hfin⟩
                  case measure => simp [intOf]; omega
              · by_cases hx : x = 0
                · subst hx
                  have hwrp : IntKind.i64.wrap (Z - R'.length + R'.length) = Z := by rw [show Z - (R'.length : Int) + R'.length = Z by omega]; exact IntWalk.i64_in _ (by omega)
                  have hge : ¬ (Z - (R'.length : Int) < 0) := by omega
                  go_wp2_with fail
                  refine (hD7.room hu7 (Below.refl _ _)).mono ?_
                  rintro e wc ⟨rfl, hbc⟩
                  rw [← HR'.out]
                  have hb7c := below_new (Below.refl _ _) hbc
                  go_wp2_with fail
                  refine (hD7.read hu7 hb7c).mono ?_
                  rintro e wd ⟨Ad, cd, rfl, hrd, hbd⟩
                  rw [← HR'.out] at hrd ⊢
                  have hb7d := below_new hb7c hbd
                  go_wp2_with fail
                  refine (hD7.room hu7 hb7d).mono ?_
                  rintro e wf ⟨rfl, hbf⟩
                  rw [← HR'.out]
                  have hb7f := below_new hb7d hbf
                  have hfin := hD7.new hb7f
                  clear hD7 hb7c hb7d hbc hbd hbf hrd hwr
                  go_wp2
                  go_roundw
                  case rel => exact ⟨i + 1, L', us', by go_num, by omega, by omega, hfin⟩
                  case measure => simp [intOf]; omega
                · have hRR : R' = R := by rw [HR'.out]; exact HF.out.2.2.2 hx
                  have hr7 : ByR w7 (fun b => w4.heap.size ≤ b) (.slice A5 R'.length c5) R' := by rw [hRR]; exact hr7
                  have e5 : R.length = R'.length := by rw [hRR]
                  rw [e5]
                  clear hRR e5
                  go_wp2_with fail
                  refine (hD7.read hu7 (Below.refl _ _)).mono ?_
                  rintro e wa ⟨Aa, ca, rfl, hra, hba⟩
                  rw [← HR'.out] at hra ⊢
                  have hb7a := below_new (Below.refl _ _) hba
                  go_wp2_with fail
                  refine (same_yes _ _ _ _ _ _ R' _ hra.rds ((hr7.new (Below.refl _ _)).new hba).rds (by omega)).mono ?_
                  rintro e wb ⟨rfl, hdr⟩
                  have hb7b := below_new hb7a (hdr.below _)
                  have hwrp : IntKind.i64.wrap (Z - R'.length + R'.length) = Z := by rw [show Z - (R'.length : Int) + R'.length = Z by omega]; exact IntWalk.i64_in _ (by omega)
                  have hge : ¬ (Z - (R'.length : Int) < 0) := by omega
                  go_wp2_with fail
                  refine (hD7.room hu7 hb7b).mono ?_
                  rintro e wc ⟨rfl, hbc⟩
                  rw [← HR'.out]
                  have hb7c := below_new hb7b hbc
                  go_wp2_with fail
                  refine (hD7.read hu7 hb7c).mono ?_
                  rintro e wd ⟨Ad, cd, rfl, hrd, hbd⟩
                  rw [← HR'.out] at hrd ⊢
                  have hb7d := below_new hb7c hbd
                  go_wp2_with fail
                  refine (hD7.room hu7 hb7d).mono ?_
                  rintro e wf ⟨rfl, hbf⟩
                  rw [← HR'.out]
                  have hb7f := below_new hb7d hbf
                  have hfin := hD7.new hb7f
                  clear hD7 hb7c hb7d hbc hbd hbf hrd hwr
                  go_wp2
                  go_roundw
                  case rel => exact ⟨i + 1, L', us', by go_num, by omega, by omega, hfin⟩
                  case measure => simp [intOf]; omega
        · have e : i = l.length := by omega
          clear e
          go_wp2
          go_ret
          exact ⟨rfl, hwr⟩
    · rw [if_neg hz] at hP
      obtain ⟨rfl, hb3⟩ := hP
      have hb03 := below_new hb02 hb3
      clear hb02 hb3
      by_cases hz1 : Z < 1
      · clear hz
        go_wp2
        go_ret
        exact ⟨rfl, hb03⟩
      · have hz2 : 16384 < Z := by omega
        clear hz
        go_wp2
        go_ret
        exact ⟨rfl, hb03⟩
end Go.Proofs.Ythgfjmifdeledaa
