/- Layer 14: the document's own: Rewrite. -/
import Derived.Test.YtfllebfegngdhaaLgRef
namespace Go.Proofs.Ytfllebfegngdhaa
set_option linter.unusedVariables false
set_option linter.unusedSimpArgs false
open Go.ChangeShapes Go.WideShapes Go.ChangeAt Go.RowKit Go.Deep

theorem F.cat_take {bs : List (List Int)} {i : Nat} (hi : i < bs.length) : F.cat (bs.take (i + 1)) = F.cat (bs.take i) ++ F.put bs[i] := by
  rw [List.take_succ_eq_append_getElem hi, F.cat_snoc]
theorem F.cat_len {bs : List (List Int)} (h : ∀ b ∈ bs, b.length ≤ 4096) : (F.cat bs).length ≤ bs.length * 4107 := by
  induction bs with
  | nil => simp [F.cat]
  | cons b t ih =>
    have h1 := F.put_len_le (b := b) (by have := h b (by simp); omega)
    have h2 := h b (by simp)
    have h3 := ih fun x hx => h x (by simp [hx])
    rw [F.cat_cons, List.length_append, List.length_cons]
    omega
/-- How Rewrite's loop stands. -/
structure RwI (w wr : World) (bs : List (List Int)) (i : Nat) (A : Option Addr) (c : Nat) : Prop where
  fit : ∀ b ∈ bs.take i, b.length ≤ 4096
  own : wr.ownsRow w.heap.size 5 1 (.slice A (F.cat (bs.take i)).length c) (F.cat (bs.take i)).length (u8s (F.cat (bs.take i)))
  bel : Below w.heap.size w wr
set_option maxRecDepth 100000 in
set_option maxHeartbeats 4000000 in
theorem rlrewrite_any {w : World} {fp : Nat → Prop} {g : Nat} {Z : Int} {L : List Int} {us : List Dk.U} (hM : MD w fp g Z L us) (hO : Dk.Ok Z L us) (hl : us.length ≤ 900000000)
    (S : Nat → Prop) (A : Option Addr) (n c : Nat) (vs : List Value) (bs : List (List Int)) (hn : bs.length = n) (hn6 : n ≤ 1000000) (hr : Rds w S A vs) (hb : BRd w S vs bs) (hx : ∀ b ∈ bs, b.length ≤ 140737488355328 ∧ Byt b) :
    Calls Try.prog 16 #[.pointer (some ⟨g, 0, none⟩), .slice A n c] w (DskPost (.int .i64 (Lg.rwr Z L us bs).1) Z (Lg.rwr Z L us bs).2.1 (Lg.rwr Z L us bs).2.2 fp g w) := by
  have HE : Hid (Lg.rwr Z L us bs = if Lg.fit bs = true then if Z < ((F.cat bs).length : Int) then (7, L, us) else (0, F.cat bs, []) else (6, L, us)) := Lib.hid rfl
  have HM := Lib.hid hM
  have HN := Lib.hid hn
  have HX := Lib.hid hx
  have HR := Lib.hid hr
  have HB := Lib.hid hb
  obtain ⟨i0, hi0, hz0, hz1, hz2⟩ := info_parts Try.rowU8
  have HSw : Hid (∀ (w2 : World) (A : Option Addr) (m c : Nat), Below w.heap.size w w2 → (F.cat bs).length = m → m ≤ 140737488355328 → Rds w2 (fun b => w.heap.size ≤ b) A (u8s (F.cat bs)) → Calls Try.prog 22 #[.pointer (some ⟨g, 0, none⟩), .slice A m c] w2 (DskPost (.int .i64 (Dk.swE Z (F.cat bs))) Z L (Dk.swU Z us (F.cat bs)) fp g w2)) := Lib.hid (fun w2 A m c hb hm hm47 hr =>
    rswap_any (hM.new hb) hl _ A m c _ hm hr hm47)
  have HSy : Hid (∀ (w2 : World) (fq : Nat → Prop), MD w2 fq g Z L (us ++ [.s (F.cat bs)]) → ((F.cat bs).length : Int) ≤ Z → Calls Try.prog 36 #[.pointer (some ⟨g, 0, none⟩)] w2 (DskPost (.tuple #[]) Z (F.cat bs) [] fq g w2)) := Lib.hid (fun w2 fq hM2 hz => by
    have := rsync_any hM2 (hO.swap _ hz) (by simp; omega)
    rwa [Dk.aft_app] at this)
  clear hM hO hl hn hr hb hx
  go_enter Try.func16, Try.ntmps16
  go_wp2_with fail
  go_loopw [5, 13] (fun av iv wr => ∃ (i m : Nat) (A : Option Addr) (c : Nat), iv = .int .i64 i ∧ i ≤ n ∧ av = .slice A m c ∧ (F.cat (bs.take i)).length = m ∧ RwI w wr bs i A c) (fun _ iv _ => n - (intOf iv).toNat)
  case atStart => exact ⟨0, 0, none, 0, rfl, Nat.zero_le _, rfl, rfl, ⟨fun b hb => by simp at hb, World.ownsRow_nil _ _ _ _, Below.refl _ _⟩⟩
  case round =>
    obtain ⟨i, m, Aa, ca, rfl, hi, rfl, hm, hI⟩ := hrel
    have hbel := hI.bel
    by_cases hlt : i < n
    · have hib : i < bs.length := by rw [HN.out]; exact hlt
      have hiN : (i : Int) < (n : Int) := by omega
      have hB := HB.out.new hbel
      have hiv : i < vs.length := by rw [hB.1]; exact hib
      obtain ⟨ad, rfl, _, hc⟩ := (HR.out.new hbel).at (j := i) hiv
      obtain ⟨A2, c2, e2, hr2⟩ := hB.2 i vs[i] bs[i] (List.getElem?_eq_getElem _) (List.getElem?_eq_getElem _)
      obtain ⟨hx1, hx2⟩ := HX.out _ (List.getElem_mem hib)
      have HCT := Lib.hid (F.cat_take hib)
      have HTS : Hid (bs.take (i + 1) = bs.take i ++ [bs[i]]) := Lib.hid (List.take_succ_eq_append_getElem hib)
      have HBM : Hid (bs[i] ∈ bs) := Lib.hid (List.getElem_mem hib)
      rw [e2] at hc
      generalize bs[i] = b at *
      clear e2 hib hiv hB
      by_cases h4 : 4096 < b.length
      · have HP := Lib.hid (rfput_long A2 b.length c2 wr h4 (by unfold maxLen; omega))
        have HV : Hid (Lg.rwr Z L us bs = (6, L, us)) := Lib.hid (by
          rw [HE.out, if_neg]
          intro hf
          have := Lg.fit_all.1 hf b HBM.out
          omega)
        clear HE h4 hr2 hx1 hx2 HCT HTS hI hm
        go_wp2_with fail
        refine HP.out.mono ?_
        rintro e w1 ⟨rfl, rfl⟩
        go_wp2
        go_ret
        rw [HV.out]
        exact dsk_none HM.out hbel
      · have HP := Lib.hid (rfput_yes S A2 b.length c2 b wr rfl hr2 (by omega) hx2)
        have hpl := F.put_len_le (b := b) (by omega)
        have h7 : (F.cat (bs.take i)).length ≤ i * 4107 := by
          have := F.cat_len hI.fit
          have h8 : (bs.take i).length ≤ i := by rw [List.length_take]; omega
          have := Nat.mul_le_mul_right 4107 h8
          omega
        obtain ⟨hf, ho, _⟩ := hI
        rw [hm] at ho h7
        have HM7 : Hid (m ≤ 4107000000) := Lib.hid (by omega)
        have HF := Lib.hid hf
        have HB4 : Hid (b.length ≤ 4096) := Lib.hid (by omega)
        obtain ⟨k, hk⟩ : ∃ k : Nat, (F.put b).length = k := ⟨_, rfl⟩
        have HK := Lib.hid hk
        have HMm := Lib.hid hm
        have HK7 : Hid (k ≤ 4107) := Lib.hid (by omega)
        clear h4 hr2 hx1 hx2 h7 hf hm hk hpl
        go_wp2_with fail
        refine HP.out.mono ?_
        rintro e w1 ⟨v, rfl, hv, hb1⟩
        obtain ⟨A3, c3, rfl, hc3, hown3⟩ := hv.form
        have hr3 : Rds w1 (fun b => wr.heap.size ≤ b) A3 (u8s (F.put b)) := (own_rds hown3).mono fun b hb => hb.1
        have ho1 := own_keep ho fun b _ hl => hb1.block b hl
        rw [HK.out]
        have hb01 := below_new hbel hb1
        have hs1 : w.heap.size ≤ w1.heap.size := hb01.size
        have hk7 := HK7.out
        have hm7 := HM7.out
        have HKu : Hid ((u8s (F.put b)).length = k) := Lib.hid (by simpa using HK.out)
        clear hv hown3 hc3 ho hc HP
        go_wp2_with (at_builtin; refine wpList_app _ rfl _ _ 32 rfl w.heap.size 5 i0 (.int .u8 0) 1 Try.underlying32 hi0 hz0 hz1 hz2 rfl _ _ _ rfl ho1 _ A3 k c3 (u8s (F.put b)) rfl HKu.out hr3 (one_ints _ _) (by unfold maxLen; omega) (by omega) hs1 ?_)
        intro v4 w4 hown4 hg4 hv4
        obtain ⟨A4, c4, rfl, hc4, _⟩ := own_form hown4
        have hb04 : Below w.heap.size w w4 := hb01.grown hg4 hs1 fun k hk => (World.ownsRow.lt ho1 k hk).1
        have HI4 : Hid ((F.cat (bs.take (i + 1))).length = m + k ∧ RwI w w4 bs (i + 1) A4 c4) := Lib.hid (by
          have e1 : (F.cat (bs.take (i + 1))).length = m + k := by rw [HCT.out, List.length_append, HMm.out, HK.out]
          refine ⟨e1, ⟨fun x hx => ?_, ?_, hb04⟩⟩
          · rw [HTS.out] at hx
            rcases List.mem_append.1 hx with hx | hx
            · exact HF.out x hx
            · simp at hx; subst hx; exact HB4.out
          · rw [e1, HCT.out, u8s, List.map_append]
            exact hown4)
        clear hown4 hg4 hv4 hc4 ho1 hr3 hb1 HCT HTS HBM HF HB4 HK HMm HK7 HM7
        go_wp2
        go_roundw
        case rel => exact ⟨i + 1, m + k, A4, c4, by go_num, by omega, rfl, HI4.out.1, HI4.out.2⟩
        case measure => simp [intOf]; omega
    · have hiN : ¬ (i : Int) < (n : Int) := by omega
      have hin : i = n := by omega
      have hta : bs.take i = bs := List.take_of_length_le (by rw [HN.out]; omega)
      obtain ⟨hf, ho, _⟩ := hI
      rw [hta] at hf hm ho
      have hlen := F.cat_len hf
      rw [hm] at ho hlen
      have hn' := HN.out
      have hm7 : m ≤ 4107000000 := by omega
      have HC := Lib.hid (HSw.out wr Aa m ca hbel hm (by omega) ((own_rds ho).mono fun b hb => hb.1))
      have HFit : Hid (Lg.fit bs = true) := Lib.hid (Lg.fit_all.2 hf)
      have hmI : ((F.cat bs).length : Int) = m := by rw [hm]
      clear hta hf ho hlen hn' hin hi HSw
      by_cases hz : Z < (m : Int)
      · have HV : Hid (Lg.rwr Z L us bs = (7, L, us)) := Lib.hid (by rw [HE.out, if_pos HFit.out, hmI, if_pos hz])
        have h1 : Dk.swE Z (F.cat bs) = 7 := by unfold Dk.swE; rw [hmI, if_pos hz]
        have h2 : Dk.swU Z us (F.cat bs) = us := by unfold Dk.swU; rw [hmI, if_pos hz]
        rw [h1, h2] at HC
        clear hz h1 h2 HE hm hmI
        go_wp2_with fail
        refine HC.out.mono ?_
        rintro e w2 ⟨rfl, h1, h2⟩
        go_wp2
        go_ret
        rw [HV.out]
        exact dsk_below hbel ⟨rfl, h1, h2⟩
      · have HV : Hid (Lg.rwr Z L us bs = (0, F.cat bs, [])) := Lib.hid (by rw [HE.out, if_pos HFit.out, hmI, if_neg hz])
        have h1 : Dk.swE Z (F.cat bs) = 0 := by unfold Dk.swE; rw [hmI, if_neg hz]
        have h2 : Dk.swU Z us (F.cat bs) = us ++ [.s (F.cat bs)] := by unfold Dk.swU; rw [hmI, if_neg hz]
        rw [h1, h2] at HC
        have HZ : Hid (((F.cat bs).length : Int) ≤ Z) := Lib.hid (by omega)
        clear hz h1 h2 HE hm hmI
        go_wp2_with fail
        refine HC.out.mono ?_
        rintro e w2 ⟨rfl, h1, h2⟩
        go_wp2_with fail
        refine (HSy.out w2 _ h1 HZ.out).mono ?_
        rintro e w3 ⟨rfl, h3, h4⟩
        go_wp2
        go_ret
        rw [HV.out]
        exact dsk_below hbel (dsk_more (r := .tuple #[]) (e := .returned (.tuple #[])) ⟨rfl, h1, h2⟩ ⟨rfl, h3, h4⟩)
end Go.Proofs.Ytfllebfegngdhaa
