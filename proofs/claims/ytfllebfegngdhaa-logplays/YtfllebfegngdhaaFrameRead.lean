/- Contracts of layer 4: read. -/
import Derived.Test.YtfllebfegngdhaaFrame
import Derived.Test.YtfllebfegngdhaaMem
import Derived.BigQuiet
import Derived.StillTailTactics
namespace Go.Proofs.Ytfllebfegngdhaa
open Go.ChangeShapes Go.WideShapes Go.ChangeAt Go.RowKit

/-- s[p:q] at its address. -/
def cutAt (A : Option Addr) (c p : Nat) : Option Addr := if c = p then A else A.map (·.add p)
theorem Rds.cutAt {w : World} {S : Nat → Prop} {A : Option Addr} {l : List Int} {c : Nat} (h : Rds w S A (u8s l)) (hc : l.length ≤ c) (p : Nat) : Rds w S (cutAt A c p) (u8s (l.drop p)) := by
  have := Rds.cut (k := p) (c := c) h (by simpa using hc)
  rwa [← List.map_drop] at this
theorem Rds.takeI {w : World} {S : Nat → Prop} {A : Option Addr} {l : List Int} (h : Rds w S A (u8s l)) (k : Nat) : Rds w S A (u8s (l.take k)) := by
  have := h.take k
  rwa [← List.map_take] at this
theorem slice_from (A : Option Addr) (n c p : Nat) (h1 : p ≤ n) (W : World) :
    (Instr.slice 32 (.slice A n c) (some (.int .i64 (p : Int))) none none).run Try.prog W = .ok (.slice (cutAt A c p) (n - p) (c - p)) W :=
  run_from 32 5 Try.underlying32 Try.sizeU8' A n c p h1 W
theorem slice_cut (A : Option Addr) (n c p q : Nat) (h1 : p ≤ q) (h2 : q ≤ c) (W : World) :
    (Instr.slice 32 (.slice A n c) (some (.int .i64 (p : Int))) (some (.int .i64 (q : Int))) none).run Try.prog W = .ok (.slice (cutAt A c p) (q - p) (c - p)) W :=
  run_cut 32 5 Try.underlying32 Try.sizeU8' A n c p q h1 h2 W

theorem F.val_four {k : List Int} {s : Nat} (hb : Byt k) (h4 : k.length = 4) (hs : s < 4294967296) : F.val k = s ↔ k = F.four s := by
  match k, h4 with
  | [a, b, c, d], _ =>
    have ha := hb a (by simp)
    have hbb := hb b (by simp)
    have hc := hb c (by simp)
    have hd := hb d (by simp)
    obtain ⟨a, rfl⟩ := Int.eq_ofNat_of_zero_le ha.1
    obtain ⟨b, rfl⟩ := Int.eq_ofNat_of_zero_le hbb.1
    obtain ⟨c, rfl⟩ := Int.eq_ofNat_of_zero_le hc.1
    obtain ⟨d, rfl⟩ := Int.eq_ofNat_of_zero_le hd.1
    have h := F.four_num (a := a) (b := b) (c := c) (d := d) (s := s) (by omega) (by omega) (by omega) (by omega) hs
    have e : F.val [(a : Int), (b : Int), (c : Int), (d : Int)] = ((a * 256 + b) * 256 + c) * 256 + d := by simp [F.val]
    rw [e, ← h]
    exact eq_comm

/-- What read comes to. -/
def ReadP (l : List Int) (A : Option Addr) (c : Nat) (w : World) (e : Ending) (w' : World) : Prop :=
  (((F.get l).1 = 0 ∧ e = .returned (.tuple #[.slice (cutAt A c (F.start l)) (F.stop l - F.start l) (c - F.start l), .int .i64 ((F.stop l : Nat) + 4 : Int)])) ∨ ((F.get l).1 ≠ 0 ∧ e = gave (F.get l).1)) ∧ Below w.heap.size w w'

set_option maxRecDepth 100000 in
set_option maxHeartbeats 1000000 in
theorem read_any (S : Nat → Prop) (A : Option Addr) (c : Nat) (l : List Int) (w : World) (hr : Rds w S A (u8s l)) (hc : l.length ≤ c) (hl : l.length ≤ 1000000) (hb : Byt l) :
    Calls Try.prog 63 #[.slice A l.length c] w (ReadP l A c w) := by
  by_cases h0 : 0 < l.length
  · obtain ⟨ad, rfl, hS, hce⟩ := hr.int h0
    rw [show ad.add 0 = ad by rfl] at hce
    by_cases h1 : l[0] = 1
    · rw [h1] at hce
      have hq : l[0]? = some 1 := by rw [List.getElem?_eq_getElem h0, h1]
      have HQ := Lib.hid hq
      obtain ⟨A1, hA1⟩ : ∃ A1, A1 = cutAt (some ad) c 1 := ⟨_, rfl⟩
      have hs1 : ∀ W : World, (Instr.slice 32 (.slice (some ad) l.length c) (some (.int .i64 1)) none none).run Try.prog W = .ok (.slice A1 (l.length - 1) (c - 1)) W := fun W => by
        rw [hA1]; exact slice_from (some ad) l.length c 1 (by omega) W
      have hr1 : Rds w S A1 (u8s (l.drop 1)) := by rw [hA1]; exact hr.cutAt hc 1
      have hL := readLength_any S A1 (l.length - 1) (c - 1) (l.drop 1) w (by simp) hr1 (by simp; omega) (by simp; omega) (hb.drop 1)
      obtain ⟨R, hR⟩ : ∃ R, R = V.int (l.drop 1) := ⟨_, rfl⟩
      unfold LenPost at hL
      rw [← hR] at hL
      have HR := Lib.hid hR
      clear hA1 hq hR hr1 hS
      by_cases hE : R.2.2 = 0
      · obtain ⟨_, _, hn0, _⟩ := V.int_back (l := l.drop 1) (hb.drop 1) (by rw [← HR.out]; exact hE)
        have hsz := F.int_len (l.drop 1)
        rw [← HR.out] at hn0 hsz
        obtain ⟨nb, hnb⟩ := Int.eq_ofNat_of_zero_le hn0
        obtain ⟨sz, hsz'⟩ : ∃ sz, sz = R.2.1 := ⟨_, rfl⟩
        have hst : F.start l = 1 + sz := by unfold F.start; rw [← HR.out, hsz']
        have hen : F.stop l = 1 + sz + nb := by unfold F.stop; rw [hst, ← HR.out, hnb]; simp
        rw [hnb, ← hsz'] at hL
        have hnbR : R.1 = (nb : Int) := hnb
        have hE' : (V.int (l.drop 1)).2.2 = 0 := by rw [← HR.out]; exact hE
        have hN' : (V.int (l.drop 1)).1 = (nb : Int) := by rw [← HR.out]; exact hnb
        rw [← hsz'] at hsz
        have HE := Lib.hid hE'
        have HN := Lib.hid hN'
        have HER := Lib.hid hE
        clear hn0 hnb hsz' hnbR hE' hN' hE h1
        by_cases hbig : 4096 < nb
        · have HG := Lib.hid (F.get_long h0 HQ.out HE.out (by rw [HN.out]; omega))
          have hd : decide ((nb : Int) ≤ 4096) = false := decide_eq_false (by omega)
          clear hst hen
          go_enter Try.func63, Try.ntmps63
          go_wp2_with fail
          refine (need_yes _ _).mono ?_
          rintro e w1 ⟨rfl, rfl⟩
          go_wp2_with fail
          refine (need_yes _ _).mono ?_
          rintro e w1 ⟨rfl, rfl⟩
          go_wp2_with fail
          refine hL.mono ?_
          rintro e w1 ⟨⟨_, rfl⟩ | ⟨h, _⟩, hB⟩
          · go_wp2_with fail
            refine (need_no _ _).mono ?_
            rintro e w1 ⟨rfl, rfl⟩
            go_wp2
            exact ⟨rfl, .inr ⟨by rw [HG.out]; decide, by rw [HG.out]⟩, hB⟩
          · exact absurd HER.out h
        · obtain ⟨st, hst'⟩ : ∃ st, st = 1 + sz := ⟨_, rfl⟩
          obtain ⟨en, hen'⟩ : ∃ en, en = st + nb := ⟨_, rfl⟩
          rw [← hst'] at hst
          rw [← hst', ← hen'] at hen
          have e1 : (1 : Int) + (sz : Int) = (st : Int) := by omega
          have e2 : (st : Int) + (nb : Int) = (en : Int) := by omega
          have e3 : en ≤ 4103 ∧ st ≤ 7 ∧ st ≤ en := by omega
          have HST := Lib.hid hst
          have HEN := Lib.hid hen
          have HST' := Lib.hid hst'
          have HEN' := Lib.hid hen'
          have hd : decide ((nb : Int) ≤ 4096) = true := decide_eq_true (by omega)
          clear hst hen hst' hen'
          by_cases hsh : l.length < en + 4
          · have HG := Lib.hid (F.get_short h0 HQ.out HE.out (by rw [HN.out]; omega) (by rw [HEN.out]; exact hsh))
            have hd2 : decide ((l.length : Int) - (en : Int) ≥ 4) = false := decide_eq_false (by omega)
            have hd3 : decide (4 ≤ (l.length : Int) - (en : Int)) = false := decide_eq_false (by omega)
            go_enter Try.func63, Try.ntmps63
            go_wp2_with fail
            refine (need_yes _ _).mono ?_
            rintro e w1 ⟨rfl, rfl⟩
            go_wp2_with fail
            refine (need_yes _ _).mono ?_
            rintro e w1 ⟨rfl, rfl⟩
            go_wp2_with fail
            refine hL.mono ?_
            rintro e w1 ⟨⟨_, rfl⟩ | ⟨h, _⟩, hB⟩
            · go_wp2_with fail
              refine (need_yes _ _).mono ?_
              rintro e w1 ⟨rfl, rfl⟩
              go_wp2_with fail
              refine (need_no _ _).mono ?_
              rintro e w1 ⟨rfl, rfl⟩
              go_wp2
              exact ⟨rfl, .inr ⟨by rw [HG.out]; decide, by rw [HG.out]⟩, hB⟩
            · exact absurd HER.out h
          · obtain ⟨A2, hA2⟩ : ∃ A2, A2 = cutAt (some ad) c en := ⟨_, rfl⟩
            obtain ⟨A3, hA3⟩ : ∃ A3, A3 = cutAt (some ad) c st := ⟨_, rfl⟩
            have hs2 : ∀ W : World, (Instr.slice 32 (.slice (some ad) l.length c) (some (.int .i64 (en : Int))) none none).run Try.prog W = .ok (.slice A2 (l.length - en) (c - en)) W := fun W => by
              rw [hA2]; exact slice_from (some ad) l.length c en (by omega) W
            have hs3 : ∀ W : World, (Instr.slice 32 (.slice (some ad) l.length c) (some (.int .i64 (st : Int))) (some (.int .i64 (en : Int))) none).run Try.prog W = .ok (.slice A3 (en - st) (c - st)) W := fun W => by
              rw [hA3]; exact slice_cut (some ad) l.length c st en (by omega) (by omega) W
            have hrA2 : Rds w S A2 (u8s (l.drop en)) := by rw [hA2]; exact hr.cutAt hc en
            have hrT := hr.takeI en
            have hlt : (l.take en).length = en := by simp; omega
            have hbT := hb.take en
            have hd4 : (l.drop en).length = l.length - en := by simp
            have hbD := hb.drop en
            have hB4 : Byt ((l.drop en).take 4) := hbD.take 4
            have hval := F.val_four (k := (l.drop en).take 4) (s := F.sum (l.take en)) hB4 (by simp; omega) (F.sum_lt hbT)
            obtain ⟨T, hT⟩ : ∃ T, T = l.take en := ⟨_, rfl⟩
            obtain ⟨D, hD⟩ : ∃ D, D = l.drop en := ⟨_, rfl⟩
            rw [← hT] at hrT hlt hbT hval
            rw [← hD] at hrA2 hd4 hbD hval
            have HT := Lib.hid hT
            have HD := Lib.hid hD
            have HA3 := Lib.hid hA3
            obtain ⟨v, hv⟩ : ∃ v, v = F.val (D.take 4) := ⟨_, rfl⟩
            obtain ⟨sm, hsm⟩ : ∃ sm, sm = F.sum T := ⟨_, rfl⟩
            rw [← hv, ← hsm] at hval
            have RS : ∀ W : World, Rds W S A2 (u8s D) → Calls Try.prog 69 #[.slice A2 (l.length - en) (c - en)] W fun e w' => e = .returned (.int .u32 (v : Int)) ∧ W = w' := fun W hW => by
              rw [hv]; exact readSum_any S A2 _ _ D W (by omega) hW (by omega) (by omega) hbD
            have SM : ∀ W : World, Rds W S (some ad) (u8s T) → Calls Try.prog 61 #[.slice (some ad) en c] W fun e w' => e = .returned (.int .u32 (sm : Int)) ∧ W = w' := fun W hW => by
              rw [hsm]; exact sum_i S (some ad) en c T W (by omega) hW (by omega) hbT
            have hd2 : decide ((l.length : Int) - (en : Int) ≥ 4) = true := decide_eq_true (by omega)
            have hd3 : decide (4 ≤ (l.length : Int) - (en : Int)) = true := decide_eq_true (by omega)
            have HSM := Lib.hid hsm
            have HV := Lib.hid hval
            have HRD := Lib.hid hrA2
            have HRT := Lib.hid hrT
            clear hA2 hA3 hT hD hv hsm hlt hB4 hbT hbD hd4 hr hval hrA2 hrT
            by_cases hsum : v = sm
            · have HG := Lib.hid (F.get_ok h0 HQ.out HE.out (by rw [HN.out]; omega) (by rw [HEN.out]; exact hsh) (by rw [HEN.out, ← HT.out, ← HD.out, ← HSM.out]; exact HV.out.1 hsum))
              have hq1 : ((v : Int) == (sm : Int)) = true := by simp [hsum]
              clear hsum
              go_enter Try.func63, Try.ntmps63
              go_wp2_with fail
              refine (need_yes _ _).mono ?_
              rintro e w1 ⟨rfl, rfl⟩
              go_wp2_with fail
              refine (need_yes _ _).mono ?_
              rintro e w1 ⟨rfl, rfl⟩
              go_wp2_with fail
              refine hL.mono ?_
              rintro e w1 ⟨⟨_, rfl⟩ | ⟨h, _⟩, hB⟩
              rotate_left
              · exact absurd HER.out h
              have RS1 := fun m : Nat => RS (w1.drewN m) ((HRD.out.new hB).drewN m)
              have SM1 := fun m : Nat => SM (w1.drewN m) ((HRT.out.new hB).drewN m)
              clear RS SM hL
              go_wp2_with fail
              refine (need_yes _ _).mono ?_
              rintro e w1 ⟨rfl, rfl⟩
              go_wp2_with fail
              refine (need_yes _ _).mono ?_
              rintro e w1 ⟨rfl, rfl⟩
              go_wp2_with fail
              go_quiet (first | (go_at_call 69; exact quiet_same (RS1 _)) | (go_at_call 61; exact quiet_same (SM1 _)) | (go_at_call 67; exact quiet_same (need_yes _ _)))
              go_wp2
              go_ret2
              exact ⟨.inl ⟨by rw [HG.out], by rw [HST.out, HEN.out, ← HA3.out]; rfl⟩, below_drewN hB _⟩
            · have HG := Lib.hid (F.get_sum h0 HQ.out HE.out (by rw [HN.out]; omega) (by rw [HEN.out]; exact hsh) (by rw [HEN.out, ← HT.out, ← HD.out, ← HSM.out]; exact fun k => hsum (HV.out.2 k)))
              have hq1 : ((v : Int) == (sm : Int)) = false := by simp; omega
              clear hsum
              go_enter Try.func63, Try.ntmps63
              go_wp2_with fail
              refine (need_yes _ _).mono ?_
              rintro e w1 ⟨rfl, rfl⟩
              go_wp2_with fail
              refine (need_yes _ _).mono ?_
              rintro e w1 ⟨rfl, rfl⟩
              go_wp2_with fail
              refine hL.mono ?_
              rintro e w1 ⟨⟨_, rfl⟩ | ⟨h, _⟩, hB⟩
              rotate_left
              · exact absurd HER.out h
              have RS1 := fun m : Nat => RS (w1.drewN m) ((HRD.out.new hB).drewN m)
              have SM1 := fun m : Nat => SM (w1.drewN m) ((HRT.out.new hB).drewN m)
              clear RS SM hL
              go_wp2_with fail
              refine (need_yes _ _).mono ?_
              rintro e w1 ⟨rfl, rfl⟩
              go_wp2_with fail
              refine (need_yes _ _).mono ?_
              rintro e w1 ⟨rfl, rfl⟩
              go_wp2_with fail
              have RS2 : Calls Try.prog 69 #[.slice A2 (l.length - en) (c - en)] { w1 with drawn := w1.drawn + 1 } fun e w' => e = .returned (.int .u32 (v : Int)) ∧ w' = { w1 with drawn := w1.drawn + 1 } := (RS1 1).mono fun _ _ ⟨a, b⟩ => ⟨a, b.symm⟩
              have SM2 : Calls Try.prog 61 #[.slice (some ad) en c] { w1 with drawn := w1.drawn + 1 } fun e w' => e = .returned (.int .u32 (sm : Int)) ∧ w' = { w1 with drawn := w1.drawn + 1 } := (SM1 1).mono fun _ _ ⟨a, b⟩ => ⟨a, b.symm⟩
              have hB' : Below w.heap.size w { w1 with drawn := w1.drawn + 1 } := below_drewN hB 1
              clear RS1 SM1
              have hec : en ≤ c := by omega
              go_still_tail 9, (by kernel_rfl)
              still_call RS2
              repeat still_step
              still_call SM2
              repeat still_step
              refine wpStill_nil ?_
              generalize ({ w1 with drawn := w1.drawn + 1 } : World) = w2 at *
              go_wp2_with fail
              refine (need_no _ _).mono ?_
              rintro e w3 ⟨rfl, rfl⟩
              go_wp2
              exact ⟨rfl, .inr ⟨by rw [HG.out]; decide, by rw [HG.out]⟩, hB'⟩
      · have HG := Lib.hid (F.get_int h0 HQ.out (by rw [← HR.out]; exact hE))
        rw [← HR.out] at HG
        have HE := Lib.hid hE
        clear h1 hE
        go_enter Try.func63, Try.ntmps63
        go_wp2_with fail
        refine (need_yes _ _).mono ?_
        rintro e w1 ⟨rfl, rfl⟩
        go_wp2_with fail
        refine (need_yes _ _).mono ?_
        rintro e w1 ⟨rfl, rfl⟩
        go_wp2_with fail
        refine hL.mono ?_
        rintro e w1 ⟨⟨h, _⟩ | ⟨_, rfl⟩, hB⟩
        · exact absurd h HE.out
        · go_wp2
          exact ⟨rfl, .inr ⟨by rw [HG.out]; exact HE.out, by rw [HG.out]⟩, hB⟩
    · have HG := Lib.hid (F.get_form h0 (by rw [List.getElem?_eq_getElem h0]; simpa using h1))
      have h1' : (l[0] == 1) = false := by simpa using h1
      clear hS h1
      go_enter Try.func63, Try.ntmps63
      go_wp2_with fail
      refine (need_yes _ _).mono ?_
      rintro e w1 ⟨rfl, rfl⟩
      go_wp2_with fail
      refine (need_no _ _).mono ?_
      rintro e w1 ⟨rfl, rfl⟩
      go_wp2
      exact ⟨rfl, .inr ⟨by rw [HG.out]; decide, by rw [HG.out]⟩, Below.refl _ _⟩
  · have hl0 : l.length = 0 := by omega
    have HG := Lib.hid (F.get_nil hl0)
    rw [hl0]
    go_enter Try.func63, Try.ntmps63
    go_wp2_with fail
    refine (need_no _ _).mono ?_
    rintro e w1 ⟨rfl, rfl⟩
    go_wp2
    exact ⟨rfl, .inr ⟨by rw [HG.out]; decide, by rw [HG.out]⟩, Below.refl _ _⟩
end Go.Proofs.Ytfllebfegngdhaa
