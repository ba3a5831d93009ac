/- What PolicySets comes to. -/
import Derived.Test.YtgjepgnbkfbodaaPolMath5
import Derived.Test.YtgjepgnbkfbodaaPolSets
import Derived.Test.YtgjepgnbkfbodaaPolAlive
import Derived.Test.YtgjepgnbkfbodaaPolWorks
import Derived.Test.YtgjepgnbkfbodaaPolRefS
import Derived.Test.YtgjepgnbkfbodaaPolRefW
import Derived.Test.YtgjepgnbkfbodaaPolRefK
import Derived.Test.YtgjepgnbkfbodaaEvGreat
import Derived.Test.YtgjepgnbkfbodaaEvArgs2
namespace Go.Proofs.Ytgjepgnbkfbodaa
set_option linter.unusedVariables false
set_option linter.unusedSimpArgs false
open Go.ChangeShapes Go.WideShapes Go.ChangeAt Go.RowKit

theorem plain_sets (k : Int) (l : List EvV) : plain (sets k l) = (plain l).filter (fun e => e.1 3 == 2 && e.1 4 == k) := by
  unfold sets plain
  rw [List.filter_map]
  congr 1
theorem plain_same {k : Int} {l m : List EvV} (h : plain m = plain l) : plain (P.isort ltE (sets k m)) = plain (P.isort ltE (sets k l)) := by
  rw [← plain_isort, ← plain_isort, plain_sets, plain_sets, h]
theorem wks_same {l m : List EvV} {a b : List Int} (h : plain m = plain l) (ha : a.Pairwise (· < ·)) (hm : ∀ x, x ∈ a ↔ ∃ e ∈ m, e.F 3 = 2 ∧ e.F 4 = x) (hb : WksOf l b) : a = b := by
  refine rise_one ha hb.1 (fun x => ?_)
  rw [hm, hb.2]
  have key : ∀ l : List EvV, (∃ e ∈ l, e.F 3 = 2 ∧ e.F 4 = x) ↔ ∃ p ∈ plain l, p.1 3 = 2 ∧ p.1 4 = x := fun l => by
    unfold plain
    constructor
    · rintro ⟨e, he, r⟩; exact ⟨_, List.mem_map.2 ⟨e, he, rfl⟩, r⟩
    · rintro ⟨p, hp, r⟩
      obtain ⟨e, he, rfl⟩ := List.mem_map.1 hp
      exact ⟨e, he, r⟩
  rw [key, key, h]
theorem plain_mem {l m : List EvV} (h : plain m = plain l) {Q : List D.Dot → Prop} (hl : ∀ e ∈ l, Q e.M) : ∀ e ∈ m, Q e.M := by
  intro e he
  have h1 : (e.F, e.M) ∈ plain m := List.mem_map.2 ⟨e, he, rfl⟩
  rw [h] at h1
  obtain ⟨e', he', h2⟩ := List.mem_map.1 h1
  injection h2 with h3 h4
  rw [← h4]; exact hl e' he'

theorem pol_cellsS {w : World} {g : Nat} (F : Nat → Int) (h : Blo w g 31 (pcs F)) : w.cell? ⟨g, 0, none⟩ = some (.int .i64 (F 6)) ∧ w.cell? ⟨g, 1, none⟩ = some (.int .i64 (F 7)) ∧ w.cell? ⟨g, 2, none⟩ = some (.int .i64 (F 8)) ∧ w.cell? ⟨g, 3, none⟩ = some (.int .i64 (F 9)) ∧ w.cell? ⟨g, 4, none⟩ = some (.int .i64 (F 10)) ∧ w.cell? ⟨g, 5, none⟩ = some (.int .i64 (F 11)) ∧ w.cell? ⟨g, 6, none⟩ = some (.int .i64 (F 12)) :=
  ⟨by simpa using h.cell 0, by simpa using h.cell 1, by simpa using h.cell 2, by simpa using h.cell 3, by simpa using h.cell 4, by simpa using h.cell 5, by simpa using h.cell 6⟩
theorem neq_pols (F : Nat → Int) (W : World) : (binOp .neq 31 (pv F) (pv F)).run Try.prog W = .ok (.bool false) W := by
  rw [run_neq_struct, eqIn_pol F F W]
  simp
theorem rise_len : ∀ {a t : List Int}, a.Pairwise (· < ·) → (∀ x ∈ a, x ∈ t) → a.length ≤ t.length
  | [], _, _, _ => Nat.zero_le _
  | x :: a, t, hp, h => by
    have hp' := List.pairwise_cons.1 hp
    have hx : x ∈ t := h x (List.mem_cons_self)
    have h1 := rise_len (t := t.erase x) hp'.2 (fun y hy => (List.mem_erase_of_ne (by have := hp'.1 y hy; omega)).2 (h y (List.mem_cons_of_mem _ hy)))
    have h2 := List.length_erase_of_mem hx
    have h3 : 0 < t.length := List.length_pos_of_mem hx
    simp only [List.length_cons]
    omega
/-- A row of dots that may be written over, whatever is in it. -/
def WrRow (w : World) (B : Nat) (A : Option Addr) (n c : Nat) : Prop := n ≤ c ∧ (n = 0 ∨ ∃ g cur, A = some ⟨g, 0, none⟩ ∧ B ≤ g ∧ Blo w g 29 cur ∧ n * 2 ≤ cur.size)
theorem Copy.wr {w : World} {B : Nat} {A : Option Addr} {c : Nat} {l : List D.Dot} (h : Copy w B A c l) : WrRow w B A l.length c := by
  refine ⟨h.1, ?_⟩
  rcases h.2 with rfl | h
  · exact .inl rfl
  · rcases h.2 with ⟨_, h0⟩ | ⟨g, cap, cur, e, hb, hh, hle, _, hcz, _⟩
    · exact .inl h0
    · injection e with e1 e2 e3
      exact .inr ⟨g, cur, e1, hb, hh, by omega⟩
theorem WrRow.new {w w' : World} {B : Nat} {A : Option Addr} {n c : Nat} (h : WrRow w B A n c) (hb : Below w.heap.size w w') : WrRow w' B A n c :=
  ⟨h.1, h.2.imp id fun ⟨g, cur, e1, e2, e3, e4⟩ => ⟨g, cur, e1, e2, e3.new hb, e4⟩⟩
theorem WrRow.set {w : World} {B : Nat} {A : Option Addr} {n c : Nat} (h : WrRow w B A n c) {g' : Nat} (j : Nat) (v : Value) : WrRow (w.setCell ⟨g', j, none⟩ v) B A n c := by
  refine ⟨h.1, h.2.imp id ?_⟩
  rintro ⟨g, cur, e1, e2, e3, e4⟩
  by_cases hg : g = g'
  · subst hg
    exact ⟨g, _, e1, e2, e3.put j v, by simpa using e4⟩
  · exact ⟨g, cur, e1, e2, e3.other hg v, e4⟩
theorem ERow.more {w : World} {B : Nat} {A : Option Addr} {n c : Nat} {l : List EvV} (h : ERow w B (.slice A n c) l) {i : Nat} (hi : i < l.length) : ∃ ad, A = some ad ∧ w.cell? ⟨(ad.add (i * 14)).block, (ad.add (i * 14)).off + 13, none⟩ = some (.slice l[i].A l[i].M.length l[i].c) := by
  obtain ⟨ad, e, _, hc⟩ := h.rds _ _ ((evs_at l i hi 13 (by omega)).trans (rfl : l[i].cells[13]? = some (.slice l[i].A l[i].M.length l[i].c)))
  rw [M.addOff _ _ _ (by omega)] at hc
  exact ⟨ad, e, hc⟩
/-- How things stand while dots are written over. -/
def Scr (w0 : World) (v : Value) (m : List EvV) (w : World) : Prop :=
  ERow w w0.heap.size v m ∧ (∀ e ∈ m, WrRow w w0.heap.size e.A e.M.length e.c) ∧ Below w0.heap.size w0 w
theorem Scr.set {w0 w : World} {v : Value} {m : List EvV} {g j : Nat} {cur : Array Value} (h : Scr w0 v m w) (hg : Blo w g 29 cur) (hB : w0.heap.size ≤ g) (u : Value) : Scr w0 v m (w.setCell ⟨g, j, none⟩ u) := by
  have hgb : w.grownBy (w.setCell ⟨g, j, none⟩ u) (some g) := gb_set (World.grownBy.refl _ _) (.inl rfl) _
  refine ⟨h.1.keep fun b hb hl => hgb.block b hl (fun e => ?_), fun e he => (h.2.1 e he).set j u, h.2.2.grown hgb h.2.2.size (fun k hk => by injection hk with hk; omega)⟩
  exact h.1.blo hg (by decide) (by rw [hb, e])

set_option maxRecDepth 100000 in
set_option maxHeartbeats 4000000 in
theorem polsets_main (A : Option Addr) (n c : Nat) (l : List EvV) (k : Int) (w : World) (h0 : EvsIn w A n c l) :
    Calls Try.prog 3 #[.slice A n c, .int .i64 k] w fun e w' => e = .returned (.bool true) ∧ Below w.heap.size w w' := by
  obtain ⟨hn, hnc, hcm, hr, hmeek⟩ := h0
  have HN := Lib.hid hn
  have HNC := Lib.hid hnc
  have HCM : Hid (c ≤ maxLen) := Lib.hid hcm
  have HR := Lib.hid hr
  have HME := Lib.hid hmeek
  clear hn hnc hcm hr hmeek
  go_enter Try.func3, Try.ntmps3
  go_wp2_with fail
  refine (polalive_any _).mono ?_
  rintro e w1 ⟨rfl, hb1⟩
  have hgr := great_any (· < w.heap.size) A n c l w1 HN.out (HR.out.new hb1) (Nat.le_trans HNC.out HCM.out)
  go_wp2_with fail
  refine hgr.mono ?_
  rintro e w2 ⟨b, rfl, hb2, hbk⟩
  have hb02 := below_new hb1 hb2
  clear hb1 hb2 hgr
  cases b with
  | true =>
    clear hbk
    go_wp2
    go_ret
    exact ⟨rfl, hb02⟩
  | false =>
    have HBK : Hid (bulk l ≤ 3000) := Lib.hid (hbk rfl HME.out)
    clear hbk
    by_cases h60 : 300 < n
    · have h60' : (300 : Int) < (n : Int) := by omega
      go_wp2
      go_ret
      exact ⟨rfl, hb02⟩
    · have h60' : ¬ (300 : Int) < (n : Int) := by omega
      have HEM : Hid (∀ e ∈ l, e.M.length ≤ 1000000) := Lib.hid (fun e he => by have := bulk_mem he; have := HBK.out; omega)
      have HCP := Lib.hid (ecopies_any (· < w.heap.size) A n c l w2 HN.out (HR.out.below hb02 (fun b hb _ => hb)) (by omega) HEM.out)
      go_wp2_with fail
      refine HCP.out.mono ?_
      rintro e w3 ⟨A1, c1, m1, rfl, hpl, hO1, hb3⟩
      have hm1 : (plain l).length = n := by rw [plain_len, HN.out]
      rw [hm1] at hO1 ⊢
      have HN1 : Hid (m1.length = n) := Lib.hid (by rw [← plain_len, hpl, hm1])
      have HPL := Lib.hid hpl
      have HE1 : Hid (∀ e ∈ m1, e.M.length ≤ 1000000) := Lib.hid (plain_mem (Q := fun M => M.length ≤ 1000000) hpl HEM.out)
      have hb03 := below_new hb02 hb3
      have HR1 : Hid (ERds w3 (fun b => w.heap.size ≤ b ∧ b < w3.heap.size) A1 m1) := Lib.hid (by
        have h1 := hO1.erdsS.old
        refine h1.mono fun b hb => ⟨?_, hb.2⟩
        have := hb02.size
        rcases hb.1 with h | h <;> omega)
      have HPS := Lib.hid (psets_any _ A1 n c1 m1 k w3 HN1.out HR1.out (by omega) HE1.out)
      have HB03 := Lib.hid hb03
      clear HCP hpl hO1 hb3 hm1 hb02
      go_wp2_with fail
      refine HPS.out.mono ?_
      rintro e w4 ⟨A2, N2, c2, m2, rfl, hN2, hp2, hO2, hC2, hb4⟩
      have hb04 := below_new HB03.out hb4
      have HRS := Lib.hid (rsets_any (· < w.heap.size) A n c l k w4 HN.out (HR.out.below hb04 (fun b hb _ => hb)) (by omega) HEM.out)
      have HN2 := Lib.hid hN2
      have HP2 := Lib.hid hp2
      have HO2 := Lib.hid hO2
      have HC2 := Lib.hid hC2
      clear HPS hN2 hp2 hO2 hC2
      go_wp2_with fail
      refine HRS.out.mono ?_
      rintro e w5 ⟨A3, N3, c3, m3, rfl, hN3, hp3, hO3, hb5⟩
      have hb45 := hb4.trans (hb5.mono hb4.size)
      have hO5 := HO2.out.new hb5
      have HL2 : Hid (N2 = (sets k m1).length) := Lib.hid (by rw [HN2.out, ← plain_len, HP2.out, plain_len, P.isort_len])
      have HL9 : Hid (N2 ≤ 300) := Lib.hid (by have h1 := HL2.out; have h2 := sets_le m1 k; have h3 := HN1.out; omega)
      have hE2 : plain m2 = plain m3 := by rw [HP2.out, hp3]; exact plain_same HPL.out
      obtain rfl : N3 = N2 := by rw [HN2.out, hN3, ← plain_len, ← plain_len, hE2]
      have HE2 : Hid (∀ e ∈ m2, e.M.length ≤ 1000000) := Lib.hid (plain_mem (Q := fun M => M.length ≤ 1000000) HP2.out (fun e he => HE1.out e (mem_sets he)))
      have HAL := Lib.hid (eall_yes _ _ A2 A3 N3 c2 c3 m2 m3 w5 HN2.out.symm (alike_plain hE2) hO5.erds hO3.erds (by have := HL9.out; unfold maxLen; omega) HE2.out)
      clear HRS hN3 hp3 hO3 hE2
      go_wp2_with fail
      refine HAL.out.mono ?_
      rintro e w6 ⟨rfl, hb6⟩
      have hb46 := hb45.trans (hb6.mono (Nat.le_trans hb4.size hb5.size))
      have hO6 := hO5.new hb6
      clear HAL
      go_wp2_with fail
      have HSC : Hid (Scr w3 (.slice A2 N3 c2) m2 w6) := Lib.hid ⟨hO6.row, fun e he => ((((HC2.out e he).new hb5).new hb6)).wr, hb46⟩
      clear hb4 hb04 hb5 hb45 hO5 hb6 hb46 hO6
      go_loopw [40] (fun iv wr => ∃ i : Nat, iv = .int .i64 i ∧ i ≤ N3 ∧ Hid (Scr w3 (.slice A2 N3 c2) m2 wr)) (fun iv _ => N3 - (intOf iv).toNat)
      case atStart => exact ⟨0, rfl, by omega, HSC⟩
      case round =>
        clear HSC
        obtain ⟨i, rfl, hi, HSC⟩ := hrel
        have hN9 : N3 ≤ 300 := HL9.out
        by_cases hlt : i < N3
        · have hiN : (i : Int) < (N3 : Int) := by omega
          have hlt' : i < m2.length := by rw [← HN2.out]; exact hlt
          obtain ⟨ad, e9, hmc⟩ := HSC.out.1.more hlt'
          obtain ⟨x, hx⟩ : ∃ x, x = m2[i] := ⟨_, rfl⟩
          have hxm : x ∈ m2 := by rw [hx]; exact List.getElem_mem hlt'
          rw [← hx] at hmc
          subst e9
          obtain ⟨F, M, Ax, cx⟩ := x
          obtain ⟨q, hq⟩ : ∃ q, q = M.length := ⟨_, rfl⟩
          simp only at hmc
          rw [← hq] at hmc
          have HXM := Lib.hid hxm
          have HQ := Lib.hid hq
          have HQ9 : Hid (q ≤ 1000000) := Lib.hid (by rw [hq]; exact HE2.out _ hxm)
          clear hq hxm
          have HMC : Hid (∀ W, Hid (Scr w3 (.slice (some ad) N3 c2) m2 W) → W.cell? ⟨(ad.add (i * 14)).block, (ad.add (i * 14)).off + 13, none⟩ = some (.slice Ax q cx)) := Lib.hid (fun W h => by
            obtain ⟨ad', e', h'⟩ := h.out.1.more hlt'
            rw [← hx] at h'
            injection e' with e'
            subst e'
            rw [HQ.out]; exact h')
          clear hx
          go_wp2_with fail
          clear hmc
          go_loopw [49] (fun iv wr => ∃ j : Nat, iv = .int .i64 j ∧ j ≤ q ∧ Hid (Scr w3 (.slice (some ad) N3 c2) m2 wr)) (fun iv _ => q - (intOf iv).toNat)
          case atStart => exact ⟨0, rfl, by omega, HSC⟩
          case round =>
            clear HSC
            obtain ⟨j, rfl, hj, HSC⟩ := hrel
            by_cases hjq : j < q
            · have hjQ : (j : Int) < (q : Int) := by omega
              have hmc := HMC.out _ HSC
              have hwr := HSC.out.2.1 _ HXM.out
              simp only at hwr
              rw [← HQ.out] at hwr
              obtain ⟨hqc, h0 | ⟨g, cur, rfl, hgB, hgb, hcz⟩⟩ := hwr
              · omega
              obtain ⟨gd, hgd⟩ : ∃ p : Addr, p = ⟨g, 0, none⟩ := ⟨_, rfl⟩
              have hea : (⟨(gd.add (j * 2)).block, (gd.add (j * 2)).off + 1, none⟩ : Addr) = ⟨g, j * 2 + 1, none⟩ := by
                rw [hgd, Go.Proofs.Ytgjepgnbkfbodaa.M.addMk]; simp
              obtain ⟨vo, hvo⟩ : ∃ v, cur[j * 2 + 1]? = some v := ⟨_, Array.getElem?_eq_getElem (by omega)⟩
              have hce : wr.cell? ⟨(gd.add (j * 2)).block, (gd.add (j * 2)).off + 1, none⟩ = some vo := by rw [hea, hgb.cell]; exact hvo
              have hfr : wr.frozen? ⟨(gd.add (j * 2)).block, (gd.add (j * 2)).off + 1, none⟩ = false := by rw [hea]; exact hgb.frozen _
              have hpt : 0 ≤ (j : Int) ∧ (j : Int) < (q : Int) := by omega
              have htt : ((j : Int)).toNat = j := by omega
              have HSC2 : Hid (Scr w3 (.slice (some ad) N3 c2) m2 (wr.setCell ⟨(gd.add (j * 2)).block, (gd.add (j * 2)).off + 1, none⟩ (.int .i64 (-1)))) := Lib.hid (by rw [hea]; exact HSC.out.set hgb hgB _)
              rw [← hgd] at hmc
              have hq9 : q ≤ 1000000 := HQ9.out
              clear hgd hea hvo hgb hcz HSC
              go_wp2_with fail
              go_roundw
              case rel => exact ⟨j + 1, by go_num, by omega, HSC2⟩
              case measure => simp [intOf]; omega
            · have hjQ : ¬ (j : Int) < (q : Int) := by omega
              go_wp2_with fail
              go_roundw
              case rel => exact ⟨i + 1, by go_num, by omega, HSC⟩
              case measure => simp [intOf]; omega
        · have hiN : ¬ (i : Int) < (N3 : Int) := by omega
          have hb3r := HSC.out.2.2
          have hb0r := below_new HB03.out hb3r
          have hpw := pwinner_any _ A1 n c1 m1 k wr HN1.out (HR1.out.below hb3r (fun b hb _ => hb.2)) (by omega)
          rw [winV_eq] at hpw
          obtain ⟨FW, hFW⟩ : ∃ F, F = winF (winOf (sets k m1)) := ⟨_, rfl⟩
          obtain ⟨ok, hok⟩ : ∃ b, b = (winOf (sets k m1)).isSome := ⟨_, rfl⟩
          rw [← hFW, ← hok] at hpw
          have HWO : Hid (winV (winOf (sets k l)) = .tuple #[pv FW, .agg (dcs FW), .bool ok]) := Lib.hid (by
            obtain ⟨h1, h2⟩ := winOf_F k (plain_F HPL.out)
            rw [winV_eq, hFW, hok, h1, h2])
          have HPW := Lib.hid hpw
          clear hFW hok hpw hiN HSC
          go_wp2_with fail
          refine HPW.out.mono ?_
          rintro e w7 ⟨rfl, hb7⟩
          have hb07 := below_new hb0r hb7
          have hb37 := below_new hb3r hb7
          clear HPW hb0r hb3r hb7
          obtain ⟨w8, hw8⟩ : ∃ W, (w7.alloc (.cells (pcs FW) 31)).alloc (.cells (dcs FW) 29) = W := ⟨_, rfl⟩
          have hb8 : Below w7.heap.size w7 w8 := by rw [← hw8]; exact b_alloc2 _ _ _
          have hP8 : Blo w8 w7.heap.size 31 (pcs FW) := by rw [← hw8]; exact (Blo.made _ _ _).alloc _
          have hD8 : Blo w8 (w7.heap.size + 1) 29 (dcs FW) := by
            rw [← hw8]
            have := Blo.made (w7.alloc (.cells (pcs FW) 31)) 29 (dcs FW)
            simpa using this
          have hb08 := below_new hb07 hb8
          have hb38 := below_new hb37 hb8
          have hrw := rwinner_any (· < w.heap.size) A n c l k w8 HN.out (HR.out.below hb08 (fun b hb _ => hb)) (by omega) HEM.out
          rw [HWO.out] at hrw
          have HRW := Lib.hid hrw
          have HW8 := Lib.hid hw8
          obtain ⟨gp, hgp⟩ : ∃ g, g = w7.heap.size := ⟨_, rfl⟩
          obtain ⟨gd, hgd⟩ : ∃ g, g = gp + 1 := ⟨_, rfl⟩
          rw [← hgp] at hP8 hD8
          rw [← hgd] at hD8
          have HGP := Lib.hid hgp
          have HGD := Lib.hid hgd
          clear hw8 hb07 hb37 hb8 hrw hgp hgd
          go_wp2_with fail
          rw [HW8.out, ← HGP.out, ← HGD.out]
          refine HRW.out.mono ?_
          rintro e w9 ⟨rfl, hb9⟩
          have hP9 := hP8.new hb9
          have hD9 := hD8.new hb9
          have hb09 := below_new hb08 hb9
          have hb39 := below_new hb38 hb9
          clear HRW hb08 hb38 hb9 hP8 hD8 HW8 HGP HGD
          obtain ⟨w10, hw10⟩ : ∃ W, (w9.alloc (.cells (pcs FW) 31)).alloc (.cells (dcs FW) 29) = W := ⟨_, rfl⟩
          have hb10 : Below w9.heap.size w9 w10 := by rw [← hw10]; exact b_alloc2 _ _ _
          have hQ10 : Blo w10 w9.heap.size 31 (pcs FW) := by rw [← hw10]; exact (Blo.made _ _ _).alloc _
          have hX10 : Blo w10 (w9.heap.size + 1) 29 (dcs FW) := by
            rw [← hw10]
            have := Blo.made (w9.alloc (.cells (pcs FW) 31)) 29 (dcs FW)
            simpa using this
          have hP10 := hP9.new hb10
          have hD10 := hD9.new hb10
          have hb010 := below_new hb09 hb10
          have hb310 := below_new hb39 hb10
          have HW10 := Lib.hid hw10
          obtain ⟨gq, hgq⟩ : ∃ g, g = w9.heap.size := ⟨_, rfl⟩
          obtain ⟨gx, hgx⟩ : ∃ g, g = gq + 1 := ⟨_, rfl⟩
          rw [← hgq] at hQ10 hX10
          rw [← hgx] at hX10
          have HGP := Lib.hid hgq
          have HGD := Lib.hid hgx
          clear hw10 hb09 hb39 hb10 hP9 hD9 hgq hgx
          have HWK := Lib.hid (works_any _ A1 n c1 m1 w10 HN1.out (HR1.out.below hb310 (fun b hb _ => hb.2)) (by omega))
          go_wp2_with fail
          rw [HW10.out, ← HGP.out, ← HGD.out]
          refine HWK.out.mono ?_
          rintro e w11 ⟨Aw, Nw, cw, ws, rfl, hNw, hRw, hpw, hmw, hb11⟩
          have hP11 := hP10.new hb11
          have hD11 := hD10.new hb11
          have hQ11 := hQ10.new hb11
          have hX11 := hX10.new hb11
          have hb011 := below_new hb010 hb11
          have hb311 := below_new hb310 hb11
          have HRK := Lib.hid (rworks_any (· < w.heap.size) A n c l w11 HN.out (HR.out.below hb011 (fun b hb _ => hb)) (by omega))
          have HNW := Lib.hid hNw
          have HPM := Lib.hid (And.intro hpw hmw)
          have HRW := Lib.hid hRw
          clear HWK hNw hRw hpw hmw hb010 hb310 hb11 hP10 hD10 hQ10 hX10 HW10 HGP HGD
          go_wp2_with fail
          refine HRK.out.mono ?_
          rintro e w12 ⟨Ak, Nk, ck, ks, rfl, hNk, hRk, hk, hb12⟩
          obtain rfl : ws = ks := wks_same HPL.out HPM.out.1 HPM.out.2 hk
          obtain rfl : Nw = Nk := by rw [HNW.out, hNk]
          have hP12 := hP11.new hb12
          have hD12 := hD11.new hb12
          have hQ12 := hQ11.new hb12
          have hX12 := hX11.new hb12
          have hb012 := below_new hb011 hb12
          have hb312 := below_new hb311 hb12
          have HRW2 : Hid (Rds w12 (fun _ => True) Aw (ws.map (Value.int .i64))) := Lib.hid ((HRW.out.new hb12).mono fun _ _ => trivial)
          have HRK2 : Hid (Rds w12 (fun _ => True) Ak (ws.map (Value.int .i64))) := Lib.hid (hRk.mono fun _ _ => trivial)
          clear HRK HRW hNk hRk hk hb011 hb311 hb12 hP11 hD11 hQ11 hX11
          have HAL : Hid (∀ W, Drew w12 W → Below w.heap.size w W ∧ Calls Try.prog 12 #[.slice A1 n c1, .slice A n c] W fun e w' => e = .returned (.bool true) ∧ Below W.heap.size W w') := Lib.hid (fun W hd => ⟨hb012.trans (hd.below _), eall_yes _ _ A1 A n c1 c m1 l W HN1.out (alike_plain HPL.out) (HR1.out.below (hb312.trans (hd.below _)) (fun b hb _ => hb.2)) (HR.out.below (hb012.trans (hd.below _)) (fun b hb _ => hb)) (by unfold maxLen; omega) HE1.out⟩)
          obtain ⟨k0, k1, k2, k3, k4, k5, k6⟩ := pol_cellsS FW hP12
          obtain ⟨p0, p1, p2, p3, p4, p5, p6⟩ := pol_cellsS FW hQ12
          have d0 := hD12.cell 0; have d1 := hD12.cell 1
          have d0' := hX12.cell 0; have d1' := hX12.cell 1
          simp at d0 d1 d0' d1'
          have q1 : ∀ W, (binOp .neq 31 (pv FW) (pv FW)).run Try.prog W = .ok (.bool false) W := fun W => neq_pols FW W
          have q2 : ∀ W, (binOp .neq 29 (.agg #[.int .i64 (FW 0), .int .i64 (FW 1)]) (.agg #[.int .i64 (FW 0), .int .i64 (FW 1)])).run Try.prog W = .ok (.bool false) W := fun W => by rw [neq_dot]; simp
          clear hP12 hD12 hQ12 hX12
          have HNW9 : Hid (Nw ≤ 300) := Lib.hid (by
            have h1 : ws.length ≤ (wk m1).length := rise_len HPM.out.1 (fun x hx => mem_wk.2 ((HPM.out.2 x).1 hx))
            have h2 := wk_le m1
            have h3 := HN1.out
            have h4 := HNW.out
            omega)
          go_wp2_with fail
          clear k0 k1 k2 k3 k4 k5 k6 p0 p1 p2 p3 p4 p5 p6 d0 d1 d0' d1' q1 q2
          go_loopw [102] (fun iv wr => ∃ j : Nat, iv = .int .i64 j ∧ j ≤ Nw ∧ Drew w12 wr) (fun iv _ => Nw - (intOf iv).toNat)
          case atStart => exact ⟨0, rfl, by omega, Drew.refl _⟩
          case round =>
            obtain ⟨j, rfl, hj, hd⟩ := hrel
            have hN3 : Nw ≤ 300 := HNW9.out
            by_cases hjn : j < Nw
            · have hjN : (j : Int) < (Nw : Int) := by omega
              have hjl : j < (ws.map (Value.int .i64)).length := by rw [List.length_map, ← HNW.out]; exact hjn
              obtain ⟨aw, rfl, _, hy⟩ := (hd.rds HRW2.out).at hjl
              obtain ⟨ak, rfl, _, hz⟩ := (hd.rds HRK2.out).at hjl
              rw [List.getElem_map] at hy hz
              obtain ⟨y, hyy⟩ : ∃ y, y = ws[j]'(by simpa using hjl) := ⟨_, rfl⟩
              rw [← hyy] at hy hz
              have hpt : 0 ≤ (j : Int) ∧ (j : Int) < (Nw : Int) := by omega
              have htt : ((j : Int)).toNat = j := by omega
              clear hyy hjl
              go_wp2_with fail
              go_quiet (fail)
              obtain ⟨w13, hd3, hw13⟩ : ∃ W, Drew wr W ∧ wr.drewN nq = W := ⟨_, ⟨nq, rfl⟩, rfl⟩
              rw [hw13]
              have hd13 := hd.trans hd3
              clear hw13 hy hz hd3
              go_wp2
              go_roundw
              case rel => exact ⟨j + 1, by go_num, by omega, hd13⟩
              case measure => simp [intOf]; omega
            · have hjN : ¬ (j : Int) < (Nw : Int) := by omega
              have hal := (HAL.out _ hd).2
              have hb0 := (HAL.out _ hd).1
              go_wp2_with fail
              refine hal.mono ?_
              rintro e w14 ⟨rfl, hb14⟩
              have hbf := below_new hb0 hb14
              clear hal hb0 hb14
              go_wp2
              go_ret
              exact ⟨rfl, hbf⟩
end Go.Proofs.Ytgjepgnbkfbodaa
