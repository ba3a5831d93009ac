/- Layer 6: put, Put: the program's. -/
import Derived.Test.YtegppdobpihbnaaDotFace
import Derived.Test.YtegppdobpihbnaaDotBMath
import Derived.Test.YtegppdobpihbnaaVintPut
import Derived.Deep.RegionHeld3
namespace Go.Proofs.Ytegppdobpihbnaa
set_option linter.unusedVariables false
set_option linter.unusedSimpArgs false
open Go.ChangeShapes Go.WideShapes Go.ChangeAt Go.RowKit

set_option maxRecDepth 100000 in
set_option maxHeartbeats 1000000 in
theorem dput_any {B : Nat} {A : Option Addr} {N c : Nat} {l : List Int} (n : Int) (w : World) (hN : N = l.length) (hown : w.ownsRow B 5 1 (.slice A N c) N (u8s l)) (hB : B ≤ w.heap.size) (hl : l.length ≤ 100000) (h0 : 0 ≤ n) (h1 : n ≤ 1099511627776) :
    Calls Try.prog 46 #[.slice A N c, .int .i64 n] w fun e w' => ∃ A' N' c', e = .returned (.slice A' N' c') ∧ N' = (l ++ V.enc n).length ∧ w'.ownsRow B 5 1 (.slice A' N' c') N' (u8s (l ++ V.enc n)) ∧ w.grownBy w' (Value.slice A N c).ownBlock := by
  obtain ⟨i0, hi, hz0, hz1, hz2⟩ := info_parts Try.rowU8
  have hP : Calls Try.prog 58 #[.slice none 0 0, .int .i64 n] w (PutPost [] n w) := put_yes (fun _ => True) none 0 [] n w Rds.nil (by simp) h0 h1
  have h6 := V.enc_len6 h1
  have HN := Lib.hid hN
  have hNl : N ≤ 100000 := by omega
  unfold PutPost at hP
  simp only [List.nil_append] at hP
  obtain ⟨E, hE⟩ : ∃ E, E = V.enc n := ⟨_, rfl⟩
  rw [← hE] at hP h6 ⊢
  clear hN hE
  go_enter Try.func46, Try.ntmps46
  go_wp2_with fail
  refine hP.mono ?_
  rintro e w1 ⟨A1, c1, rfl, hown1, hb1⟩
  have hown' := own_keep (w' := w1) hown fun g _ hl => hb1.block g hl
  have hr1 := own_rds hown1
  have hs1 := hb1.size
  obtain ⟨K, hK⟩ : ∃ K, K = E.length := ⟨_, rfl⟩
  rw [← hK] at ⊢
  have HK := Lib.hid hK
  have hKl : K ≤ 6 := by omega
  clear hP hK
  go_wp2_with (at_builtin; refine wpList_app _ rfl _ _ 55 rfl B 5 i0 (.int .u8 0) 1 Try.underlying55 hi hz0 hz1 hz2 rfl (.slice A N c) N (u8s l) rfl hown' _ A1 K c1 (u8s E) rfl (by rw [HK.out]; simp) hr1 (one_ints _ _) (by unfold maxLen; omega) (by omega) (by omega) ?_)
  intro v2 w2 hown2 hg2 _
  obtain ⟨A2, c2, rfl, _, _⟩ := own_form hown2
  obtain ⟨N2, hN2⟩ : ∃ N2, N2 = N + K := ⟨_, rfl⟩
  rw [← hN2] at hown2 ⊢
  have HN2 := Lib.hid hN2
  clear hN2
  go_wp2
  go_ret
  exact ⟨A2, N2, c2, rfl, by rw [HN2.out, HN.out, HK.out]; simp, by simpa using hown2, gb_trans (gb_below hb1 _) hg2⟩

/-- What Put answers. -/
def BytesPost (l : List Int) (x : Int) (w : World) (e : Ending) (w' : World) : Prop :=
  ∃ A N c, e = .returned (.tuple #[.slice A N c, .int .i64 x]) ∧ N = l.length ∧ w'.ownsRow w.heap.size 5 1 (.slice A N c) N (u8s l) ∧ Below w.heap.size w w'
/-- The bytes gathered so far. -/
def Gath (w : World) (B : Nat) (v : Value) (l : List Int) : Prop := ∃ A N c, v = .slice A N c ∧ Hid (N = l.length) ∧ w.ownsRow B 5 1 (.slice A N c) N (u8s l)
theorem k_drewB {B : Nat} (w : World) : Below B w w.drew := below_drewN (Below.refl _ _) 1

set_option maxRecDepth 100000 in
set_option maxHeartbeats 4000000 in
theorem dPut_any (S : Nat → Prop) (U : Nat → Int) (A : Option Addr) (n c : Nat) (M : List D.Dot) (w : World) (hn : M.length = n) (hr : Rds w S A (dvs M)) (hl : n ≤ 1000000) :
    Calls Try.prog 28 #[sv U A n c] w (BytesPost (D.putB U M) (D.putE U M) w) := by
  have HN := Lib.hid hn
  obtain ⟨w1, hw1⟩ : ∃ W, w.alloc (.cells (scs U A n c) 30) = W := ⟨_, rfl⟩
  have hb1 : Below w.heap.size w w1 := by rw [← hw1]; exact b_alloc _ _
  have hX : Blo w1 w.heap.size 30 (scs U A n c) := by rw [← hw1]; exact Blo.made _ _ _
  have hR := right_any S U A n c M w1 hn (hr.new hb1) hl
  have HW := Lib.hid hw1
  clear hw1 hn
  go_enter Try.func28, Try.ntmps28
  go_wp2_with fail
  rw [HW.out]
  refine hR.mono ?_
  rintro e w2 ⟨rfl, hb2⟩
  have hX2 := hX.new hb2
  have hr2 := ((hr.new hb1).new hb2).old
  have hb02 := below_new hb1 hb2
  have hs02 := hb02.size
  obtain ⟨z0, z1, z2, z3, z4, z5, z6, z7, z8⟩ := set9 hX2
  clear hR
  cases hrt : D.rt U M with
  | false =>
    have HB : Hid (D.putB U M = [] ∧ D.putE U M = 2) := Lib.hid (by unfold D.putB D.putE; rw [hrt]; exact ⟨rfl, rfl⟩)
    clear hrt z0 z1 z2 z3 z4 z5 z6 z7 z8
    go_wp2
    go_ret2
    rw [HB.out.1, HB.out.2]
    exact ⟨none, 0, 0, rfl, rfl, World.ownsRow_nil _ _ _ _, hb02⟩
  | true =>
    have HB : Hid (D.putB U M = D.encS U M ∧ D.putE U M = 0) := Lib.hid (by unfold D.putB D.putE; rw [hrt]; exact ⟨rfl, rfl⟩)
    have HU : Hid (∀ k, k < 8 → 0 ≤ U k ∧ U k ≤ 96) := Lib.hid (D.rt_iff.1 hrt).1
    have HM : Hid (∀ d, d ∈ M → D.may d = true) := Lib.hid fun d hd => (D.rt_may hrt hd).1
    have hn768 : n ≤ 768 := by rw [← HN.out]; exact D.rt_len hrt
    clear hrt
    go_wp2
    clear z0 z1 z2 z3 z4 z5 z6 z7 z8
    go_loopw [4, 14] (fun v iv wr => ∃ k : Nat, iv = .int .i64 k ∧ k ≤ 8 ∧ Gath wr w2.heap.size v (D.encU U k) ∧ Below w2.heap.size w2 wr) (fun _ iv _ => 8 - (intOf iv).toNat)
    case atStart => exact ⟨0, rfl, by omega, ⟨none, 0, 0, rfl, Lib.hid rfl, World.ownsRow_nil _ _ _ _⟩, Below.refl _ _⟩
    case round =>
      obtain ⟨k, rfl, hk, ⟨A1, N1, c1, rfl, HN1, ho⟩, hb⟩ := hrel
      have hlk := D.encU_len HU.out k hk
      have hbs := hb.size
      by_cases hlt : k < 8
      · have q := fun W => av_at U hlt W
        have hu := HU.out k hlt
        have hp := dput_any (U k) wr HN1.out ho hbs (by omega) hu.1 (by omega)
        obtain ⟨E, hE⟩ : ∃ E, E = D.encU U (k + 1) := ⟨_, rfl⟩
        have hE2 : D.encU U k ++ V.enc (U k) = E := hE.symm
        rw [hE2] at hp
        have HE := Lib.hid hE
        generalize U k = x at *
        clear hE hE2 hlk
        go_wp2_with fail
        refine hp.mono ?_
        rintro e w3 ⟨A2, N2, c2, rfl, hN2, ho2, hg2⟩
        have HN2 := Lib.hid hN2
        have hb3 : Below w2.heap.size w2 w3 := hb.grown hg2 hbs (fun g hg => (ho.lt g hg).1)
        clear hp q hN2
        go_wp2
        go_roundw
        case rel => exact ⟨k + 1, by go_num, by omega, ⟨A2, N2, c2, rfl, by rw [← HE.out]; exact HN2, by rw [← HE.out]; exact ho2⟩, hb3⟩
        case measure => simp [intOf]; omega
      · have hkd : decide ((k : Int) < 8) = false := by simp; omega
        have hXr := hX2.new hb
        have k8 : wr.cell? ⟨w.heap.size, 8, none⟩ = some (.slice A n c) := by simpa using hXr.cell 8
        have hp := dput_any (n : Int) wr HN1.out ho hbs (by omega) (by omega) (by omega)
        obtain ⟨E, hE⟩ : ∃ E, E = D.encU U 8 ++ V.enc (n : Int) := ⟨_, rfl⟩
        have hE2 : D.encU U k ++ V.enc (n : Int) = E := by rw [hE, show k = 8 by omega]
        rw [hE2] at hp
        have hEl : E.length ≤ 10 := by have := D.encU_len HU.out 8 (by omega); have := D.len_enc hn768; rw [hE]; simp; omega
        have HE := Lib.hid hE
        clear hE hE2 hlk
        go_wp2_with fail
        refine hp.mono ?_
        rintro e w3 ⟨A2, N2, c2, rfl, hN2, ho2, hg2⟩
        have HN2 := Lib.hid hN2
        have hb3 : Below w2.heap.size w2 w3 := hb.grown hg2 hbs (fun g hg => (ho.lt g hg).1)
        have hX3 := hX2.new hb3
        clear hp k8 hN2 hXr
        have k8 : w3.cell? ⟨w.heap.size, 8, none⟩ = some (.slice A n c) := by simpa using hX3.cell 8
        go_wp2
        clear k8
        go_loopw [4, 29] (fun v iv wr => ∃ i : Nat, iv = .int .i64 i ∧ i ≤ n ∧ Gath wr w2.heap.size v (E ++ D.encM (M.take i)) ∧ Below w2.heap.size w2 wr) (fun _ iv _ => n - (intOf iv).toNat)
        case atStart => exact ⟨0, rfl, by omega, ⟨A2, N2, c2, rfl, by simpa [D.encM] using HN2, by simpa [D.encM] using ho2⟩, hb3⟩
        case round =>
          obtain ⟨i, rfl, hi, ⟨A4, N4, c4, rfl, HN4, ho4⟩, hb4⟩ := hrel
          have hbs4 := hb4.size
          by_cases hlt : i < n
          · have hlt' : i < M.length := by rw [HN.out]; exact hlt
            obtain ⟨ad, rfl, _, d1, d2⟩ := (hr2.new hb4).dot hlt'
            have htk := List.take_succ_eq_append_getElem hlt'
            have hmay := D.may_iff.1 (HM.out M[i] (List.getElem_mem hlt'))
            obtain ⟨x, hx⟩ : ∃ x, x = M[i] := ⟨_, rfl⟩
            rw [← hx] at d1 d2 htk hmay
            obtain ⟨x1, x2⟩ := x
            simp only at d1 d2 hmay
            have hel : (D.encM (M.take i)).length ≤ 1536 := by rw [D.encM_len (fun d hd => HM.out d (List.mem_of_mem_take hd))]; simp; omega
            have HTK : Hid (E ++ D.encM (M.take (i + 1)) = (E ++ D.encM (M.take i) ++ V.enc x1) ++ V.enc x2) := Lib.hid (by rw [htk, D.encM_snoc]; simp)
            obtain ⟨G, hG⟩ : ∃ G, G = E ++ D.encM (M.take i) := ⟨_, rfl⟩
            have hGl : G.length ≤ 1546 := by rw [hG]; simp; omega
            rw [← hG] at HN4 ho4 HTK
            obtain ⟨w5, hw5⟩ : ∃ W, wr.alloc (.cells #[.int .i64 x1, .int .i64 x2] 27) = W := ⟨_, rfl⟩
            have hb5 : Below wr.heap.size wr w5 := by rw [← hw5]; exact b_alloc _ _
            have hD5 : Blo w5 wr.heap.size 27 #[.int .i64 x1, .int .i64 x2] := by rw [← hw5]; exact Blo.made _ _ _
            have ho5 := own_keep (w' := w5) ho4 fun g _ hl => hb5.block g hl
            have hb05 : Below w2.heap.size w2 w5 := hb4.trans (hb5.mono hbs4)
            have HW5 := Lib.hid hw5
            have KD : ∀ (W V : World) (v : Value) (nn : Nat) (xs : List Value), Blo W wr.heap.size 27 #[.int .i64 x1, .int .i64 x2] → W.ownsRow w2.heap.size 5 1 v nn xs → W.grownBy V v.ownBlock → Blo V wr.heap.size 27 #[.int .i64 x1, .int .i64 x2] := fun W V v nn xs h1 h2 h3 => h1.grown h3 (fun e => own_blo h2 h1 (by decide) e.symm)
            have KC : ∀ W, Blo W wr.heap.size 27 #[.int .i64 x1, .int .i64 x2] → W.cell? ⟨wr.heap.size, 0, none⟩ = some (.int .i64 x1) ∧ W.cell? ⟨wr.heap.size, 1, none⟩ = some (.int .i64 x2) := fun W h => ⟨by simpa using h.cell 0, by simpa using h.cell 1⟩
            have hDd : Blo w5.drew wr.heap.size 27 #[.int .i64 x1, .int .i64 x2] := hD5
            have hod : w5.drew.ownsRow w2.heap.size 5 1 (.slice A4 N4 c4) N4 (u8s G) := ho5
            have hbd : Below w2.heap.size w2 w5.drew := hb05.trans (k_drewB _)
            have k0 := KC _ hDd
            clear hw5 hx htk hG
            go_wp2_with fail
            rw [HW5.out]
            go_region_held3 (fun w' => w'.cell? ⟨wr.heap.size, 0, none⟩ = some (.int .i64 x1) ∧ w'.cell? ⟨wr.heap.size, 1, none⟩ = some (.int .i64 x2))
              (first
                | exact k0
                | exact KC _ hD6
                | exact KC _ hD7)
              (first
                | ((with_reducible refine (dput_any (N := N4) x1 _ HN4.out hod (Below.size hbd) (by omega) (by omega) (by omega)).mono ?_)
                   rintro e w6 ⟨A6, N6, c6, rfl, hN6, ho6, hg6⟩
                   have hD6 := KD _ _ _ _ _ hDd hod hg6
                   have hb6 : Below w2.heap.size w2 w6 := hbd.grown hg6 (Below.size hbd) (fun g hg => (hod.lt g hg).1)
                   have HN6 := Lib.hid hN6
                   clear hN6)
                | ((with_reducible refine (dput_any (N := N6) x2 _ HN6.out ho6 (Below.size hb6) (by have := V.enc_len6 (n := x1) (by omega); simp; omega) (by omega) (by omega)).mono ?_)
                   rintro e w7 ⟨A7, N7, c7, rfl, hN7, ho7, hg7⟩
                   have hD7 := KD _ _ _ _ _ hD6 ho6 hg7
                   have hb7 : Below w2.heap.size w2 w7 := hb6.grown hg7 (Below.size hb6) (fun g hg => (ho6.lt g hg).1)
                   have HN7 := Lib.hid hN7
                   clear hN7))
            all_goals
              go_wp2
              go_roundw
              case rel => exact ⟨i + 1, by go_num, by omega, ⟨A7, N7, c7, rfl, by rw [HTK.out]; exact HN7, by rw [HTK.out]; exact ho7⟩, hb7⟩
              case measure => simp [intOf]; omega
          · have HF : Hid (E ++ D.encM (M.take i) = D.encS U M) := Lib.hid (by rw [List.take_of_length_le (by rw [HN.out]; omega), HE.out]; unfold D.encS; rw [HN.out])
            go_wp2
            go_ret2
            rw [HB.out.1, HB.out.2, ← HF.out]
            exact ⟨A4, N4, c4, rfl, HN4.out, own_mono ho4 hs02, below_new hb02 hb4⟩
end Go.Proofs.Ytegppdobpihbnaa
