/- Layer 14: what LogRewrites comes to. -/
import Derived.Test.YtfllebfegngdhaaLogBytesM
namespace Go.Proofs.Ytfllebfegngdhaa
set_option linter.unusedVariables false
set_option linter.unusedSimpArgs false
open Go.ChangeShapes Go.WideShapes Go.ChangeAt Go.RowKit Go.Deep

theorem BRd.one {w : World} {S : Nat → Prop} {vs : List Value} {bs : List (List Int)} (h : BRd w S vs bs) : ∀ v ∈ vs, v.oneCell' = true := by
  intro v hv
  obtain ⟨i, hi, rfl⟩ := List.mem_iff_getElem.1 hv
  have hb : i < bs.length := by rw [← h.1]; exact hi
  obtain ⟨A, c, e, _⟩ := h.2 i vs[i] bs[i] (List.getElem?_eq_getElem _) (List.getElem?_eq_getElem _)
  rw [e]
  rfl
theorem BRd.app {w : World} {S : Nat → Prop} {vs us : List Value} {bs cs : List (List Int)} (h : BRd w S vs bs) (k : BRd w S us cs) : BRd w S (vs ++ us) (bs ++ cs) := by
  refine ⟨by rw [List.length_append, List.length_append, h.1, k.1], fun i v b hv hb => ?_⟩
  rcases Nat.lt_or_ge i vs.length with hi | hi
  · rw [List.getElem?_append_left hi] at hv
    rw [List.getElem?_append_left (by rw [← h.1]; exact hi)] at hb
    exact h.2 i v b hv hb
  · rw [List.getElem?_append_right hi] at hv
    rw [List.getElem?_append_right (by rw [← h.1]; exact hi), ← h.1] at hb
    exact k.2 _ v b hv hb

theorem Lg.wrt_cat (Z : Int) (ks : List (List Int)) (xs : List Int) : ∃ (x : Int) (k2 : List (List Int)), Lg.wrt Z (F.cat ks) [] xs = (x, F.cat k2, []) ∧ k2.length ≤ ks.length + 1 ∧ ∀ b ∈ k2, b ∈ ks ∨ b = xs ∧ xs.length ≤ 4096 := by
  unfold Lg.wrt
  rw [Dk.aft_nil]
  split
  · exact ⟨6, ks, rfl, by omega, fun b hb => .inl hb⟩
  · split
    · exact ⟨7, ks, rfl, by omega, fun b hb => .inl hb⟩
    · refine ⟨0, ks ++ [xs], by rw [F.cat_snoc], by simp, fun b hb => ?_⟩
      rcases List.mem_append.1 hb with h | h
      · exact .inl h
      · simp at h; exact .inr ⟨h, by omega⟩
theorem Lg.rwr_cat (Z : Int) (ks cs : List (List Int)) : (∃ x : Int, x ≠ 0 ∧ Lg.rwr Z (F.cat ks) [] cs = (x, F.cat ks, [])) ∨ (Lg.rwr Z (F.cat ks) [] cs = (0, F.cat cs, []) ∧ ∀ b ∈ cs, b.length ≤ 4096) := by
  unfold Lg.rwr
  split
  · rename_i hf
    split
    · exact .inl ⟨7, by decide, rfl⟩
    · exact .inr ⟨rfl, Lg.fit_all.1 hf⟩
  · exact .inl ⟨6, by decide, rfl⟩

set_option maxRecDepth 100000 in
set_option maxHeartbeats 4000000 in
theorem logrewrites_main (Z : Int) (A : Option Addr) (n c : Nat) (vs : List Value) (bs : List (List Int)) (B : Option Addr) (m d : Nat) (us : List Value) (cs : List (List Int)) (w : World)
    (hn : bs.length = n) (hr : Rds w (· < w.heap.size) A vs) (hb : BRd w (· < w.heap.size) vs bs) (hx : ∀ b ∈ bs, b.length ≤ 140737488355328 ∧ Byt b) (hn47 : n ≤ 140737488355328)
    (hm : cs.length = m) (hs : Rds w (· < w.heap.size) B us) (hc : BRd w (· < w.heap.size) us cs) (hy : ∀ b ∈ cs, b.length ≤ 140737488355328 ∧ Byt b) (hm47 : m ≤ 140737488355328) :
    Calls Try.prog 5 #[.int .i64 Z, .slice A n c, .slice B m d] w fun e w' => e = .returned (.bool true) ∧ Below w.heap.size w w' := by
  obtain ⟨i0, hi0, hz0, hz1, hz2⟩ := info_parts Try.rowSl
  have HI := Lib.hid hi0
  have HZ := Lib.hid (And.intro hz0 (And.intro hz1 hz2))
  clear hi0 hz0 hz1 hz2
  have HN := Lib.hid hn
  have HM := Lib.hid hm
  have HX := Lib.hid hx
  have HY := Lib.hid hy
  have HR := Lib.hid (And.intro hr hb)
  have HS := Lib.hid (And.intro hs hc)
  clear hn hm hx hy hr hb hs hc
  go_enter Try.func5, Try.ntmps5
  go_wp2_with fail
  refine (lgalive_any w).mono ?_
  rintro e w1 ⟨rfl, hb1⟩
  go_wp2_with fail
  refine (pnew_any Z w1).mono ?_
  intro e w2 h
  unfold PNewPost at h
  by_cases hz : 1 ≤ Z ∧ Z ≤ 16384
  · rw [if_pos hz] at h
    obtain ⟨g, rfl, h1, h2⟩ := h
    have hb02 := below_new hb1 h2
    have HD2 : Hid (DS w w2 g Z [] []) := Lib.hid ⟨Dk.Ok.new hz.1 hz.2, fun b => w1.heap.size ≤ b ∧ b < w2.heap.size, h1.mono fun b hb hl => ⟨hb, hl⟩, fun b hb => ⟨Nat.le_trans hb1.size hb.1, hb.2⟩, hb02⟩
    clear h1 h2 hb1 hz
    by_cases hbn : 30 < n
    · have hI : (30 : Int) < (n : Int) := by omega
      go_wp2
      go_ret
      exact ⟨rfl, hb02⟩
    · have hI : ¬ (30 : Int) < (n : Int) := by omega
      by_cases hbm : 30 < m
      · have hJ : (30 : Int) < (m : Int) := by omega
        go_wp2
        go_ret
        exact ⟨rfl, hb02⟩
      · have hJ : ¬ (30 : Int) < (m : Int) := by omega
        obtain ⟨w3, hw3⟩ : ∃ W, w2.alloc (.cells #[] 32) = W := ⟨_, rfl⟩
        have hb3 : Below w2.heap.size w2 w3 := by rw [← hw3]; exact b_alloc _ _
        have hown3 : w3.ownsRow w2.heap.size 32 1 (.slice (some ⟨w2.heap.size, 0, none⟩) 0 0) 0 [] := by rw [← hw3]; exact World.ownsRow_lit w2 #[] 0 (Nat.le_refl _) (by unfold maxLen; omega) rfl
        have hb03 := below_new hb02 hb3
        have hs3 := hb3.size
        have hr3 := HR.out.1.new hb03
        have hvl : vs.length = n := by rw [HR.out.2.1, HN.out]
        have hul : us.length = m := by rw [HS.out.2.1, HM.out]
        have hone := HR.out.2.one
        have hone2 := HS.out.2.one
        have hn30 : n ≤ 30 := by omega
        have hm30 : m ≤ 30 := by omega
        go_wp2_with (at_builtin; refine wpList_app _ rfl _ _ 33 rfl w2.heap.size 32 i0 (.slice none 0 0) 24 Try.underlying33 HI.out HZ.out.1 HZ.out.2.1 HZ.out.2.2 rfl _ _ _ rfl hown3 _ A n c vs rfl hvl hr3 hone (by unfold maxLen; omega) (by omega) hs3 ?_)
        intro v4 w4 hown4 hg4 hv4
        obtain ⟨A4, c4, rfl, hc4, _⟩ := own_form hown4
        have hb04 : Below w.heap.size w w4 := hb03.grown hg4 hb03.size fun k hk => by simp [Value.ownBlock] at hk; have := hb02.size; omega
        have hb24 : Below w2.heap.size w2 w4 := hb3.grown hg4 hs3 fun k hk => by simp [Value.ownBlock] at hk; omega
        have hs4 : w2.heap.size ≤ w4.heap.size := hb24.size
        have hr4 := HS.out.1.new hb04
        clear hown3 hg4 hb3 hw3 hr3 hv4
        go_wp2_with (at_builtin; refine wpList_app _ rfl _ _ 33 rfl w2.heap.size 32 i0 (.slice none 0 0) 24 Try.underlying33 HI.out HZ.out.1 HZ.out.2.1 HZ.out.2.2 rfl _ _ _ rfl hown4 _ B m d us rfl hul hr4 hone2 (by unfold maxLen; omega) (by omega) hs4 ?_)
        intro v5 w5 hown5 hg5 hv5
        obtain ⟨A5, c5, rfl, hc5, _⟩ := own_form hown5
        have hb05 : Below w.heap.size w w5 := hb04.grown hg5 hb04.size fun k hk => by have := World.ownsRow.lt hown4 k hk; have := hb02.size; omega
        have hb25 : Below w2.heap.size w2 w5 := hb24.grown hg5 hs4 fun k hk => (World.ownsRow.lt hown4 k hk).1
        have HC5 : Hid (Rds w5 (fun b => w2.heap.size ≤ b) A5 (vs ++ us) ∧ BRd w5 (· < w.heap.size) (vs ++ us) (bs ++ cs)) := Lib.hid ⟨(own_rds hown5).mono fun b hb => hb.1, (HR.out.2.keep fun b hb _ => hb05.block b hb).app (HS.out.2.keep fun b hb _ => hb05.block b hb)⟩
        have HD5 : Hid (DS w w5 g Z [] []) := Lib.hid (HD2.out.new hb25)
        obtain ⟨q, hq⟩ : ∃ q : Nat, n + m = q := ⟨_, rfl⟩
        have HQ := Lib.hid hq
        have hq60 : q ≤ 60 := by omega
        have hqI : (n : Int) + (m : Int) = (q : Int) := by omega
        rw [hq]
        clear hown4 hown5 hg5 hv5 hb24 hb25 hs4 hr4 hc4 hc5 hb04 hb03 hs3 hq hqI HD2
        go_wp2_with fail
        go_loopw [9, 44] (fun zv iv wr => ∃ (i : Nat) (z : Int), iv = .int .i64 i ∧ zv = .int .i64 z ∧ i ≤ q ∧ 0 ≤ z ∧ z ≤ 10000 * i ∧ w5 = wr) (fun _ iv _ => q - (intOf iv).toNat)
        case atStart => exact ⟨0, 0, rfl, rfl, Nat.zero_le _, by omega, by omega, rfl⟩
        case round =>
          obtain ⟨i, z, rfl, rfl, hi, hz0, hz1, rfl⟩ := hrel
          have hQl : (vs ++ us).length = q := by rw [List.length_append, hvl, hul, HQ.out]
          by_cases hlt : i < q
          · have hiv : i < (vs ++ us).length := by omega
            obtain ⟨hr5, hv5⟩ := HC5.out
            have hib : i < (bs ++ cs).length := by rw [← hv5.1]; exact hiv
            obtain ⟨ad, rfl, _, hc⟩ := hr5.at (j := i) hiv
            obtain ⟨A2, c2, e2, hdr⟩ := hv5.2 i (vs ++ us)[i] (bs ++ cs)[i] (List.getElem?_eq_getElem _) (List.getElem?_eq_getElem _)
            rw [e2] at hc
            have hlI : (i : Int) < (q : Int) := by omega
            generalize ((bs ++ cs)[i]).length = ln at hc
            clear hdr e2 hib hiv hr5 hv5 hQl
            go_wp2
            go_roundw
            case rel => exact ⟨i + 1, _, by go_num, rfl, by omega, by omega, by omega, by trivial⟩
            case measure => simp [intOf]; omega
          · have hlI : ¬ (i : Int) < (q : Int) := by omega
            clear hQl
            by_cases hbig : 20000 < z
            · go_wp2
              go_ret
              exact ⟨rfl, hb05⟩
            · go_wp2_with fail
              go_loopw [58] (fun iv wr => ∃ (i : Nat) (ks : List (List Int)), iv = .int .i64 i ∧ i ≤ n ∧ ks.length ≤ i ∧ (∀ b ∈ ks, b.length ≤ 4096 ∧ Byt b) ∧ DS w wr g Z (F.cat ks) []) (fun iv _ => n - (intOf iv).toNat)
              case atStart => exact ⟨0, [], rfl, Nat.zero_le _, Nat.zero_le _, fun b hb => by simp at hb, HD5.out⟩
              case round =>
                obtain ⟨i, ks, rfl, hi2, hkl, hks, hD⟩ := hrel
                have hbel := hD.bel
                have hHR := HR.out.1.new hbel
                have hHB := HR.out.2.new hbel
                have hHS := HS.out.1.new hbel
                have hHC := HS.out.2.new hbel
                clear hlt hlI hi hz0 hz1 hb05
                by_cases hlt : i < n
                · have hlI : (i : Int) < (n : Int) := by omega
                  have hiv : i < vs.length := by omega
                  have hib : i < bs.length := by rw [HN.out]; exact hlt
                  obtain ⟨ad, rfl, _, hc⟩ := hHR.at (j := i) hiv
                  obtain ⟨A2, c2, e2, hr2⟩ := hHB.2 i vs[i] bs[i] (List.getElem?_eq_getElem _) (List.getElem?_eq_getElem _)
                  obtain ⟨hx1, hx2⟩ := HX.out _ (List.getElem_mem hib)
                  rw [e2] at hc
                  generalize bs[i] = xs at hc hr2 hx1 hx2
                  obtain ⟨x, k2, hw, hk2, hk3⟩ := Lg.wrt_cat Z ks xs
                  have HC2 := hD.lwrite (by simp) (Below.refl _ _) _ A2 xs.length c2 xs rfl hr2 hx2 hx1
                  rw [hw] at HC2
                  have HK : Hid (k2.length ≤ i + 1 ∧ ∀ b ∈ k2, b.length ≤ 4096 ∧ Byt b) := Lib.hid ⟨by omega, fun b hb => by
                    rcases hk3 b hb with h | ⟨rfl, h⟩
                    · exact hks b h
                    · exact ⟨h, hx2⟩⟩
                  have HC2 := Lib.hid HC2
                  clear e2 hib hiv hr2 hx1 hx2 hw hk2 hk3 hks hkl hD hHR hHB hHS hHC hbel
                  go_wp2_with fail
                  refine HC2.out.mono ?_
                  rintro e w6 ⟨rfl, hD6, _⟩
                  have HD6 := Lib.hid hD6
                  clear hD6 HC2
                  go_wp2
                  go_roundw
                  case rel => exact ⟨i + 1, k2, by go_num, by omega, HK.out.1, HK.out.2, HD6.out⟩
                  case measure => simp [intOf]; omega
                · have hlI : ¬ (i : Int) < (n : Int) := by omega
                  have hs4 : ∀ b ∈ ks, b.length ≤ 4096 := fun b hb => (hks b hb).1
                  have C1 := hD.lread (.new (F.cat_byt hks)) (by simp) (Below.refl _ _)
                  rw [Dk.aft_nil, F.all_of_cat hs4, Lg.torn_cat hs4] at C1
                  have HKs := Lib.hid hks
                  have HS4 := Lib.hid hs4
                  have HKl : Hid (ks.length ≤ 1000000) := Lib.hid (by omega)
                  have HRw := Lib.hid (fun W' (hb : Below wr.heap.size wr W') => hD.lrewrite (by simp) hb _ B m d us cs HM.out (by omega) (hHS.new hb) (hHC.new hb) HY.out)
                  have HA := Lib.hid (And.intro hHS hHC)
                  clear hlt hD hHR hHB hHS hHC hs4 hks hkl hi2 hbel
                  go_wp2_with fail
                  refine C1.mono ?_
                  rintro e w7 ⟨A7, N7, c7, vs7, rfl, hN7, hr7, hv7, hb7⟩
                  have C2 := HRw.out w7 hb7
                  have HN7 := Lib.hid hN7
                  clear C1 HRw hN7
                  rcases Lg.rwr_cat Z ks cs with ⟨x, hx, hrw⟩ | ⟨hrw, hcs⟩
                  · rw [hrw] at C2
                    have hx0 : (x != 0) = true := by simpa using hx
                    have hx1 : (x == 0) = false := by simpa using hx
                    clear hrw HA HY HM
                    go_wp2_with fail
                    refine C2.mono ?_
                    rintro e w8 ⟨rfl, hD8, hK8⟩
                    have HR8 : Hid (Rds w8 (fun b => wr.heap.size ≤ b) A7 vs7 ∧ BRd w8 (fun b => wr.heap.size ≤ b) vs7 ks) := Lib.hid ⟨hr7.keep fun b hb hl => hK8.block b hl (fun h => by omega), hv7.keep fun b hb hl => hK8.block b hl (fun h => by omega)⟩
                    have C3 := hD8.lread (.new (F.cat_byt HKs.out)) (by simp) (Below.refl _ _)
                    rw [Dk.aft_nil, F.all_of_cat HS4.out, Lg.torn_cat HS4.out] at C3
                    have HB8 := Lib.hid hD8.bel
                    clear C2 hD8 hK8 hr7 hv7 hb7
                    go_wp2_with fail
                    refine C3.mono ?_
                    rintro e w9 ⟨A9, N9, c9, vs9, rfl, hN9, hr9, hv9, hb9⟩
                    have HSm := Lib.hid (BRd.same (c := c9) (d := c7) hr9 (HR8.out.1.new hb9) hv9 (HR8.out.2.new hb9) hN9 HN7.out HKl.out (fun b hb => by have := HS4.out b hb; omega))
                    have HB9 := Lib.hid (below_new HB8.out hb9)
                    clear C3 hr9 hv9 hb9 hN9 HR8 HB8
                    go_wp2_with fail
                    refine HSm.out.mono ?_
                    rintro e wa ⟨rfl, nd, rfl⟩
                    have HBa := Lib.hid (below_drewN HB9.out nd)
                    clear HSm HB9
                    go_wp2
                    go_ret
                    exact ⟨rfl, HBa.out⟩
                  · rw [hrw] at C2
                    have HCs := Lib.hid hcs
                    have HCl : Hid (cs.length ≤ 1000000) := Lib.hid (by rw [HM.out]; omega)
                    clear hrw hcs
                    go_wp2_with fail
                    refine C2.mono ?_
                    rintro e w8 ⟨rfl, hD8, hK8⟩
                    have HByc : Hid (Byt (F.cat cs)) := Lib.hid (F.cat_byt fun b hb => ⟨HCs.out b hb, (HY.out b hb).2⟩)
                    have C3 := hD8.lread (.new HByc.out) (by simp) (Below.refl _ _)
                    rw [Dk.aft_nil, F.all_of_cat HCs.out, Lg.torn_cat HCs.out] at C3
                    have HB8 := Lib.hid hD8.bel
                    have HD8 := Lib.hid hD8
                    clear C2 hD8 hK8 hr7 hv7 hb7 HR HA HKs HS4 HKl HN7
                    go_wp2_with fail
                    refine C3.mono ?_
                    rintro e w9 ⟨A9, N9, c9, vs9, rfl, hN9, hr9, hv9, hb9⟩
                    have HB9 := Lib.hid (below_new HB8.out hb9)
                    have HSm := Lib.hid (BRd.same (c := c9) (d := d) hr9 (HS.out.1.new HB9.out) hv9 (HS.out.2.new HB9.out) hN9 (by rw [hul]) HCl.out (fun b hb => by have := HCs.out b hb; omega))
                    have HW9 := Lib.hid hb9
                    clear C3 hr9 hv9 hb9 hN9 HB8
                    go_wp2_with fail
                    refine HSm.out.mono ?_
                    rintro e wa ⟨rfl, nd, rfl⟩
                    have C4 := HD8.out.wait (by simp) (below_drewN HW9.out nd)
                    have HBa := Lib.hid (below_drewN HB9.out nd)
                    clear HSm HB9
                    go_wp2_with fail
                    refine C4.mono ?_
                    rintro e wb ⟨rfl, hbb⟩
                    have HBb := Lib.hid (below_new HBa.out hbb)
                    clear C4 hbb HBa
                    go_wp2
                    go_ret
                    exact ⟨rfl, HBb.out⟩
  · rw [if_neg hz] at h
    obtain ⟨rfl, h⟩ := h
    have hb02 := below_new hb1 h
    clear hz h hb1
    go_wp2
    go_ret
    exact ⟨rfl, hb02⟩
end Go.Proofs.Ytfllebfegngdhaa
