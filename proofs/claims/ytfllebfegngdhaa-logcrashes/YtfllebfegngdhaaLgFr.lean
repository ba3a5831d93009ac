/- Layer 14: the program's frames: bodies' frames one behind the other, no further than any disk holds. -/
import Derived.Test.YtfllebfegngdhaaLgP
namespace Go.Proofs.Ytfllebfegngdhaa
set_option linter.unusedVariables false
set_option linter.unusedSimpArgs false
open Go.ChangeShapes Go.WideShapes Go.ChangeAt Go.RowKit Go.Deep

/-- What was gathered of frames: all of them, or more than any disk holds. -/
structure Lg.Gat (bs : List (List Int)) (ys : List Int) : Prop where
  all : (F.cat bs).length ≤ 16384 → ys = F.cat bs
  big : 16384 < (F.cat bs).length → 16384 < ys.length
  len : ys.length ≤ 20491
theorem Lg.Gat.nil : Lg.Gat [] [] := ⟨fun _ => rfl, fun h => by simp [F.cat] at h, by simp⟩
theorem Lg.cat_one (bs : List (List Int)) (b : List Int) : F.cat (bs ++ [b]) = F.cat bs ++ F.put b := by simp [F.cat]
theorem Lg.Gat.more {bs : List (List Int)} {ys : List Int} (h : Lg.Gat bs ys) {b : List Int} (hb : (F.put b).length ≤ 4107) (hy : ys.length ≤ 16384) : Lg.Gat (bs ++ [b]) (ys ++ F.put b) := by
  have hc : (F.cat bs).length ≤ 16384 := by
    rcases Nat.lt_or_ge 16384 (F.cat bs).length with h' | h'
    · have := h.big h'; omega
    · exact h'
  have e := h.all hc
  subst e
  refine ⟨fun _ => (Lg.cat_one _ _).symm, fun hh => by rw [Lg.cat_one] at hh; exact hh, by rw [List.length_append]; omega⟩
theorem Lg.Gat.stay {bs : List (List Int)} {ys : List Int} (h : Lg.Gat bs ys) (b : List Int) (hy : 16384 < ys.length) : Lg.Gat (bs ++ [b]) ys := by
  refine ⟨fun hh => ?_, fun _ => hy, h.len⟩
  rw [Lg.cat_one, List.length_append] at hh
  have := h.all (by omega)
  subst this
  omega

/-- What frames answers. -/
def FrsPost (bs : List (List Int)) (w : World) (e : Ending) (w' : World) : Prop :=
  Lg.fit bs = true ∧ (∃ A c ys, e = .returned (.slice A ys.length c) ∧ w'.ownsRow w.heap.size 5 1 (.slice A ys.length c) ys.length (u8s ys) ∧ Lg.Gat bs ys ∧ Below w.heap.size w w') ∨
    Lg.fit bs = false ∧ e = gave 6 ∧ Below w.heap.size w w'
/-- How its loop stands. -/
structure FrI (w wr : World) (bs : List (List Int)) (i : Nat) (A : Option Addr) (m c : Nat) (ys : List Int) : Prop where
  fit : ∀ b ∈ bs.take i, b.length ≤ 4096
  len : ys.length = m
  own : wr.ownsRow w.heap.size 5 1 (.slice A m c) m (u8s ys)
  gat : Lg.Gat (bs.take i) ys
  bel : Below w.heap.size w wr
set_option maxRecDepth 100000 in
set_option maxHeartbeats 4000000 in
theorem frames_any {w : World} (S : Nat → Prop) (A : Option Addr) (n c : Nat) (vs : List Value) (bs : List (List Int)) (hn : bs.length = n) (hn6 : n ≤ 1000000) (hr : Rds w S A vs) (hb : BRd w S vs bs) (hx : ∀ b ∈ bs, b.length ≤ 140737488355328 ∧ Byt b) :
    Calls Try.prog 42 #[.slice A n c] w (FrsPost bs w) := by
  have HN := Lib.hid hn
  have HX := Lib.hid hx
  have HR := Lib.hid hr
  have HB := Lib.hid hb
  obtain ⟨i0, hi0, hz0, hz1, hz2⟩ := info_parts Try.rowU8
  clear hn hr hb hx
  go_enter Try.func42, Try.ntmps42
  go_wp2_with fail
  go_loopw [3, 9] (fun av iv wr => ∃ (i m : Nat) (A : Option Addr) (c : Nat) (ys : List Int), iv = .int .i64 i ∧ i ≤ n ∧ av = .slice A m c ∧ FrI w wr bs i A m c ys) (fun _ iv _ => n - (intOf iv).toNat)
  case atStart => exact ⟨0, 0, none, 0, [], rfl, Nat.zero_le _, rfl, ⟨fun b hb => by simp at hb, rfl, World.ownsRow_nil _ _ _ _, Lg.Gat.nil, Below.refl _ _⟩⟩
  case round =>
    obtain ⟨i, m, Aa, ca, ys, rfl, hi, rfl, hI⟩ := hrel
    have hbel := hI.bel
    by_cases hlt : i < n
    · have hib : i < bs.length := by rw [HN.out]; exact hlt
      have hiN : (i : Int) < (n : Int) := by omega
      have hB := HB.out.new hbel
      have hiv : i < vs.length := by rw [hB.1]; exact hib
      obtain ⟨ad, rfl, _, hc⟩ := (HR.out.new hbel).at (j := i) hiv
      obtain ⟨A2, c2, e2, hr2⟩ := hB.2 i vs[i] bs[i] (List.getElem?_eq_getElem _) (List.getElem?_eq_getElem _)
      obtain ⟨hx1, hx2⟩ := HX.out _ (List.getElem_mem hib)
      have HTS : Hid (bs.take (i + 1) = bs.take i ++ [bs[i]]) := Lib.hid (List.take_succ_eq_append_getElem hib)
      have HBM : Hid (bs[i] ∈ bs) := Lib.hid (List.getElem_mem hib)
      rw [e2] at hc
      generalize bs[i] = b at *
      clear e2 hib hiv hB
      by_cases h4 : 4096 < b.length
      · have HP := Lib.hid (framed_long A2 b.length c2 wr h4 (by unfold maxLen; omega))
        have HV : Hid (Lg.fit bs = false) := Lib.hid (by
          cases hf : Lg.fit bs with
          | false => rfl
          | true => have := Lg.fit_all.1 hf b HBM.out; omega)
        clear h4 hr2 hx1 hx2 HTS hI
        go_wp2_with fail
        refine HP.out.mono ?_
        rintro e w1 ⟨rfl, rfl⟩
        go_wp2
        exact ⟨rfl, .inr ⟨HV.out, rfl, hbel⟩⟩
      · have HP := Lib.hid (framed_yes S A2 b.length c2 b wr rfl hr2 (by omega) hx2)
        have hpl := F.put_len_le (b := b) (by omega)
        obtain ⟨hf, hm, ho, hg, _⟩ := hI
        have HF := Lib.hid hf
        have HG := Lib.hid hg
        have HM := Lib.hid hm
        have HB4 : Hid (b.length ≤ 4096) := Lib.hid (by omega)
        obtain ⟨k, hk⟩ : ∃ k : Nat, (F.put b).length = k := ⟨_, rfl⟩
        have HK := Lib.hid hk
        have hk7 : k ≤ 4107 := by omega
        have hm7 : m ≤ 20491 := by have := hg.len; omega
        clear h4 hr2 hx1 hx2 hf hm hk hpl hg
        go_wp2_with fail
        refine HP.out.mono ?_
        rintro e w1 ⟨A3, c3, rfl, hown3, hb1⟩
        have hr3 : Rds w1 (fun b => wr.heap.size ≤ b) A3 (u8s (F.put b)) := (own_rds hown3).mono fun b hb => hb.1
        have ho1 := own_keep ho fun b _ hl => hb1.block b hl
        rw [HK.out]
        have hb01 := below_new hbel hb1
        have hs1 : w.heap.size ≤ w1.heap.size := hb01.size
        have HKu : Hid ((u8s (F.put b)).length = k) := Lib.hid (by simpa using HK.out)
        have HFT : Hid (∀ x ∈ bs.take (i + 1), x.length ≤ 4096) := Lib.hid (fun x hx => by
          rw [HTS.out] at hx
          rcases List.mem_append.1 hx with hx | hx
          · exact HF.out x hx
          · simp at hx; subst hx; exact HB4.out)
        clear hown3 ho hc HP hb1 HB4 HF HBM
        by_cases h6 : m ≤ 16384
        · have h6i : (m : Int) ≤ 16384 := by omega
          go_wp2_with (at_builtin; refine wpList_app _ rfl _ _ 32 rfl w.heap.size 5 i0 (.int .u8 0) 1 Try.underlying32 hi0 hz0 hz1 hz2 rfl _ _ _ rfl ho1 _ A3 k c3 (u8s (F.put b)) rfl HKu.out hr3 (one_ints _ _) (by unfold maxLen; omega) (by omega) hs1 ?_)
          intro v4 w4 hown4 hg4 hv4
          obtain ⟨A4, c4, rfl, hc4, _⟩ := own_form hown4
          have hb04 : Below w.heap.size w w4 := hb01.grown hg4 hs1 fun k hk => (World.ownsRow.lt ho1 k hk).1
          have HI4 : Hid (FrI w w4 bs (i + 1) A4 (m + k) c4 (ys ++ F.put b)) := Lib.hid (by
            refine ⟨HFT.out, ?_, ?_, ?_, hb04⟩
            · rw [List.length_append, HM.out, HK.out]
            · rw [u8s, List.map_append]
              exact hown4
            · rw [HTS.out]
              exact HG.out.more (by rw [HK.out]; exact hk7) (by rw [HM.out]; exact h6))
          clear hown4 hg4 hv4 hc4 ho1 hr3 HTS HFT HG HK HM HKu
          go_wp2
          go_roundw
          case rel => exact ⟨i + 1, m + k, A4, c4, ys ++ F.put b, by go_num, by omega, rfl, HI4.out⟩
          case measure => simp [intOf]; omega
        · have h6i : ¬ (m : Int) ≤ 16384 := by omega
          have HI4 : Hid (FrI w w1 bs (i + 1) Aa m ca ys) := Lib.hid (by
            refine ⟨HFT.out, HM.out, ho1, ?_, hb01⟩
            rw [HTS.out]
            exact HG.out.stay _ (by rw [HM.out]; omega))
          clear ho1 hr3 HTS HFT HG HK HM HKu
          go_wp2
          go_roundw
          case rel => exact ⟨i + 1, m, Aa, ca, ys, by go_num, by omega, rfl, HI4.out⟩
          case measure => simp [intOf]; omega
    · have hiN : ¬ (i : Int) < (n : Int) := by omega
      have hta : bs.take i = bs := List.take_of_length_le (by rw [HN.out]; omega)
      obtain ⟨hf, hm, ho, hg, _⟩ := hI
      rw [hta] at hf hg
      subst hm
      have HP : Hid (FrsPost bs w (.returned (.slice Aa ys.length ca)) wr) := Lib.hid (.inl ⟨Lg.fit_all.2 hf, Aa, ca, ys, rfl, ho, hg, hbel⟩)
      clear hta hf ho hg hbel
      go_wp2
      go_ret
      exact HP.out
end Go.Proofs.Ytfllebfegngdhaa
