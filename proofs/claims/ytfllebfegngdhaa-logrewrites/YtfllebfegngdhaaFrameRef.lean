/- The document's own Get. -/
import Derived.Test.YtfllebfegngdhaaFrameOwn
import Derived.Test.YtfllebfegngdhaaVintRefSt
namespace Go.Proofs.Ytfllebfegngdhaa
open Go.ChangeShapes Go.WideShapes Go.ChangeAt Go.RowKit

theorem Rds.here {w : World} {S : Nat → Prop} {ad : Addr} {xs : List Value} (h : Rds w S (some ad) xs) : Rds w (· = ad.block) (some ad) xs := fun j u hu => by
  obtain ⟨ad', e, _, hc⟩ := h j u hu
  injection e with e
  subst e
  exact ⟨_, rfl, rfl, hc⟩

theorem M.addPos (a : Addr) (j : Nat) (h : j ≠ 0) : a.add j = ⟨a.block, a.off + j, none⟩ := by unfold Addr.add; rw [if_neg h]
theorem Rds.intAt {w : World} {S : Nat → Prop} {ad : Addr} {l : List Int} (h : Rds w S (some ad) (u8s l)) {j : Nat} (hj : j < l.length) : w.cell? (ad.add j) = some (.int .u8 l[j]) := by
  obtain ⟨a', e, _, hc⟩ := h.int hj
  injection e with e
  subst e
  exact hc

theorem k_alloc {w W : World} (h : Below w.heap.size w W) (o : Obj) : Below w.heap.size w (W.alloc o) := h.alloc h.size o
theorem k_alloc_drew {w W : World} (h : Below w.heap.size w W) (o : Obj) : Below w.heap.size w (W.alloc o).drew := below_drewN (h.alloc h.size o) 1

/-- A slice that reads as these bytes, in a row of its own unless it is empty. -/
def ROwns (w : World) (v : Value) (l : List Int) : Prop := ∃ A c, v = .slice A l.length c ∧ l.length ≤ c ∧ (l = [] ∨ w.ownsRow 0 5 1 (.slice A l.length c) l.length (u8s l))
theorem ROwns.keep {w w' : World} {v : Value} {l : List Int} (h : ROwns w v l) (hk : ∀ A c, w.ownsRow 0 5 1 (.slice A l.length c) l.length (u8s l) → w'.ownsRow 0 5 1 (.slice A l.length c) l.length (u8s l)) : ROwns w' v l := by
  obtain ⟨A, c, e, hc, h | h⟩ := h
  · exact ⟨A, c, e, hc, .inl h⟩
  · exact ⟨A, c, e, hc, .inr (hk A c h)⟩
theorem ROwns.new {w w' : World} {v : Value} {l : List Int} (h : ROwns w v l) (hb : Below w.heap.size w w') : ROwns w' v l := h.keep fun _ _ h => own_keep h fun k _ hk => hb.block k hk
theorem ROwns.grown {w w' : World} {v : Value} {l : List Int} {b2 : Nat} {u : Value} {n : Nat} {xs : List Value} (h : ROwns w v l) (ho : w.ownsRow b2 32 1 u n xs) (hg : w.grownBy w' u.ownBlock) : ROwns w' v l :=
  h.keep fun _ _ h => own_keep h fun k hk hlt => hg.block k hlt fun e2 => by
    rcases own_apart h ho (by decide) with h1 | h1
    · rw [h1] at hk; cases hk
    · exact h1 (hk.trans e2)
theorem ROwns.rds {w : World} {v : Value} {l : List Int} (h : ROwns w v l) : ∃ A c, v = .slice A l.length c ∧ l.length ≤ c ∧ Rds w (fun _ => True) A (u8s l) := by
  obtain ⟨A, c, e, hc, h | h⟩ := h
  · subst h; exact ⟨A, c, e, hc, Rds.nil⟩
  · exact ⟨A, c, e, hc, (own_rds h).mono fun _ _ => trivial⟩
theorem rowns_of {w : World} {A : Option Addr} {c : Nat} {l : List Int} (hc : l.length ≤ c) (h : u8s l = [] ∨ w.ownsRow 0 5 1 (.slice A l.length c) l.length (u8s l)) : ROwns w (.slice A l.length c) l :=
  ⟨A, c, rfl, hc, h.imp (fun h => List.map_eq_nil_iff.1 h) id⟩

/-- What the document's Get answers: its rows are to be read alone. -/
def RGetP (l : List Int) (w : World) (e : Ending) (w' : World) : Prop :=
  (((F.get l).1 = 0 ∧ ∃ v1 v2, e = .returned (.tuple #[v1, v2, .int .i64 0]) ∧ ROwns w' v1 (F.body l) ∧ ROwns w' v2 (F.rest l)) ∨
    ((F.get l).1 ≠ 0 ∧ e = .returned (.tuple #[.slice none 0 0, .slice none 0 0, .int .i64 (F.get l).1]))) ∧ Below w.heap.size w w'

set_option maxRecDepth 100000 in
set_option maxHeartbeats 2000000 in
theorem rget_any (S : Nat → Prop) (A : Option Addr) (n c : Nat) (l : List Int) (w : World) (hn : n = l.length) (hr : Rds w S A (u8s l)) (hc : l.length ≤ c) (hl : l.length ≤ 1000000) (hb : Byt l) :
    Calls Try.prog 55 #[.slice A n c] w (RGetP l w) := by
  subst hn
  by_cases h0 : 0 < l.length
  · have hne0 : ((l.length : Int) == 0) = false := by simp; intro h; rw [h] at h0; simp at h0
    obtain ⟨ad, rfl, hS, hce⟩ := hr.int h0
    rw [show ad.add 0 = ad by rfl] at hce
    by_cases h1 : l[0] = 1
    · rw [h1] at hce
      have hq : l[0]? = some 1 := by rw [List.getElem?_eq_getElem h0, h1]
      have HQ := Lib.hid hq
      have hlt := M.cellLt hce
      have hM : Mr (w.alloc (.cells #[.slice (some ad) l.length c, .int .i64 1, .int .i64 0] 95)) w.heap.size ad.block l 1 0 :=
        ⟨fun _ => by omega, by simp; omega, hb, hl, by omega, some ad, c, Blo.made _ _ _, hc, hr.here.alloc _⟩
      obtain ⟨R, hR⟩ : ∃ R, R = V.int (l.drop 1) := ⟨_, rfl⟩
      have hI := rint_any hM
      unfold RIntPost at hI
      rw [← hR] at hI
      have hB0 : Below w.heap.size w (w.alloc (.cells #[.slice (some ad) l.length c, .int .i64 1, .int .i64 0] 95)) := (Below.refl _ _).alloc (Nat.le_refl _) _
      have HR := Lib.hid hR
      have hE4 := V.int_err (l.drop 1)
      clear hq hR hS hM h1
      by_cases hE : R.2.2 = 0
      · obtain ⟨_, _, hn0, _⟩ := V.int_back (l := l.drop 1) (hb.drop 1) (by rw [← HR.out]; exact hE)
        have hsz := F.int_len (l.drop 1)
        rw [← HR.out] at hn0 hsz
        obtain ⟨nb, hnb⟩ := Int.eq_ofNat_of_zero_le hn0
        obtain ⟨st, hst'⟩ : ∃ st, st = 1 + R.2.1 := ⟨_, rfl⟩
        have hst : F.start l = st := by unfold F.start; rw [← HR.out, hst']
        have hen : F.stop l = st + nb := by unfold F.stop; rw [hst, ← HR.out, hnb]; simp
        rw [hnb, hE, ← hst'] at hI
        have hE' : (V.int (l.drop 1)).2.2 = 0 := by rw [← HR.out]; exact hE
        have hN' : (V.int (l.drop 1)).1 = (nb : Int) := by rw [← HR.out]; exact hnb
        have hst7 : st ≤ 7 := by omega
        have HE := Lib.hid hE'
        have HN := Lib.hid hN'
        clear hn0 hnb hst' hE' hN' hE hsz hE4
        by_cases hbig : 4096 < nb
        · have HG := Lib.hid (F.get_long h0 HQ.out HE.out (by rw [HN.out]; omega))
          clear hst hen
          go_enter Try.func55, Try.ntmps55
          go_wp2_with fail
          refine hI.mono ?_
          rintro e w1 ⟨rfl, hM1, hg1⟩
          have hB1 : Below w.heap.size w w1 := hB0.grown hg1 (by simp) fun k hk => by injection hk with hk; omega
          obtain ⟨A1, c1, z0, z1, z2, _, _, _, _⟩ := hM1.cells
          clear hI hg1
          go_wp2
          go_ret3
          exact ⟨.inr ⟨by rw [HG.out]; decide, by rw [HG.out]; rfl⟩, hB1⟩
        · obtain ⟨en, hen'⟩ : ∃ en, en = st + nb := ⟨_, rfl⟩
          rw [← hen'] at hen
          have e2 : (st : Int) + (nb : Int) = (en : Int) := by omega
          have e3 : en ≤ 4103 ∧ st ≤ en := by omega
          have HST := Lib.hid hst
          have HEN := Lib.hid hen
          clear hst hen hen'
          by_cases hsh : l.length < en + 4
          · have HG := Lib.hid (F.get_short h0 HQ.out HE.out (by rw [HN.out]; omega) (by rw [HEN.out]; exact hsh))
            go_enter Try.func55, Try.ntmps55
            go_wp2_with fail
            refine hI.mono ?_
            rintro e w1 ⟨rfl, hM1, hg1⟩
            have hB1 : Below w.heap.size w w1 := hB0.grown hg1 (by simp) fun k hk => by injection hk with hk; omega
            obtain ⟨A1, c1, z0, z1, z2, _, _, _, _⟩ := hM1.cells
            clear hI hg1
            go_wp2
            go_ret3
            exact ⟨.inr ⟨by rw [HG.out]; decide, by rw [HG.out]; rfl⟩, hB1⟩
          · have hx4 : (l.drop en).take 4 = [l[en], l[en + 1], l[en + 2], l[en + 3]] := by
              rw [List.drop_eq_getElem_cons (show en < l.length by omega), List.drop_eq_getElem_cons (show en + 1 < l.length by omega), List.drop_eq_getElem_cons (show en + 1 + 1 < l.length by omega), List.drop_eq_getElem_cons (show en + 1 + 1 + 1 < l.length by omega)]
              rfl
            obtain ⟨x0, hx0⟩ : ∃ x, x = l[en] := ⟨_, rfl⟩
            obtain ⟨x1, hx1⟩ : ∃ x, x = l[en + 1] := ⟨_, rfl⟩
            obtain ⟨x2, hx2⟩ : ∃ x, x = l[en + 2] := ⟨_, rfl⟩
            obtain ⟨x3, hx3⟩ : ∃ x, x = l[en + 3] := ⟨_, rfl⟩
            have C0 : Hid (∀ W : World, Below w.heap.size w W → W.cell? (ad.add en) = some (.int .u8 x0)) := Lib.hid fun W hW => by rw [hx0]; exact (hr.new hW).intAt _
            have C1 : Hid (∀ W : World, Below w.heap.size w W → W.cell? ⟨ad.block, ad.off + (en + 1), none⟩ = some (.int .u8 x1)) := Lib.hid fun W hW => by rw [hx1, ← M.addPos _ _ (by omega)]; exact (hr.new hW).intAt _
            have C2 : Hid (∀ W : World, Below w.heap.size w W → W.cell? ⟨ad.block, ad.off + (en + 2), none⟩ = some (.int .u8 x2)) := Lib.hid fun W hW => by rw [hx2, ← M.addPos _ _ (by omega)]; exact (hr.new hW).intAt _
            have C3 : Hid (∀ W : World, Below w.heap.size w W → W.cell? ⟨ad.block, ad.off + (en + 3), none⟩ = some (.int .u8 x3)) := Lib.hid fun W hW => by rw [hx3, ← M.addPos _ _ (by omega)]; exact (hr.new hW).intAt _
            rw [← hx0, ← hx1, ← hx2, ← hx3] at hx4
            obtain ⟨sm, hsm⟩ : ∃ sm, sm = F.sum (l.take en) := ⟨_, rfl⟩
            have hs32 : sm < 4294967296 := by rw [hsm]; exact F.sum_lt (hb.take en)
            have SM : Hid (∀ W : World, Below w.heap.size w W → Calls Try.prog 50 #[.slice (some ad) en c] W fun e w' => e = .returned (.int .u32 (sm : Int)) ∧ W = w') := Lib.hid fun W hW => by
              rw [hsm]; exact rsum_i S (some ad) en c (l.take en) W (by simp; omega) ((hr.new hW).takeI en) (by simp; omega) (hb.take en)
            have hz : F.four sm = [(sm : Int) / 16777216, (sm : Int) / 65536 % 256, (sm : Int) / 256 % 256, (sm : Int) % 256] := by
              unfold F.four
              congr 1
              omega
            have HX := Lib.hid hx4
            have HSM := Lib.hid hsm
            have HZ := Lib.hid hz
            have hec : en ≤ c := by omega
            have hs4 : (en : Int) + 4 ≤ (l.length : Int) := by omega
            clear hx0 hx1 hx2 hx3 hx4 hsm hz
            by_cases hall : x0 = (sm : Int) / 16777216 ∧ x1 = (sm : Int) / 65536 % 256 ∧ x2 = (sm : Int) / 256 % 256 ∧ x3 = (sm : Int) % 256
            · have HG := Lib.hid (F.get_ok h0 HQ.out HE.out (by rw [HN.out]; omega) (by rw [HEN.out]; exact hsh) (by
                rw [HEN.out, HX.out, ← HSM.out, HZ.out, hall.1, hall.2.1, hall.2.2.1, hall.2.2.2]))
              have d0 : (x0 != (sm : Int) / 16777216) = false := by rw [hall.1]; simp
              have d1 : (x1 != (sm : Int) / 65536 % 256) = false := by rw [hall.2.1]; simp
              have d2 : (x2 != (sm : Int) / 256 % 256) = false := by rw [hall.2.2.1]; simp
              have d3 : (x3 != (sm : Int) % 256) = false := by rw [hall.2.2.2]; simp
              clear hall
              obtain ⟨i0, hi, hz0, hz1, hz2⟩ := info_parts Try.rowU8
              obtain ⟨bd, hbd⟩ : ∃ bd, bd = (l.drop st).take (en - st) := ⟨_, rfl⟩
              obtain ⟨rs, hrs⟩ : ∃ rs, rs = l.drop (en + 4) := ⟨_, rfl⟩
              have hbl : bd.length = en - st := by rw [hbd]; simp; omega
              have hrl : rs.length = l.length - (en + 4) := by rw [hrs]; simp
              obtain ⟨A3, hA3⟩ : ∃ A3, A3 = cutAt (some ad) c st := ⟨_, rfl⟩
              obtain ⟨A4, hA4⟩ : ∃ A4, A4 = cutAt (some ad) c (en + 4) := ⟨_, rfl⟩
              have hs3 : ∀ W : World, (Instr.slice 32 (.slice (some ad) l.length c) (some (.int .i64 (st : Int))) (some (.int .i64 (en : Int))) none).run Try.prog W = .ok (.slice A3 bd.length (c - st)) W := fun W => by
                rw [hA3, hbl]; exact slice_cut (some ad) l.length c st en (by omega) (by omega) W
              have hs5 : ∀ W : World, (Instr.slice 32 (.slice (some ad) l.length c) (some (.int .i64 ((en : Int) + 4))) none none).run Try.prog W = .ok (.slice A4 rs.length (c - (en + 4))) W := fun W => by
                rw [hA4, hrl]; exact slice_from (some ad) l.length c (en + 4) (by omega) W
              have hrb : Rds w S A3 (u8s bd) := by rw [hA3, hbd]; exact (hr.cutAt hc st).takeI _
              have hrr : Rds w S A4 (u8s rs) := by rw [hA4, hrs]; exact hr.cutAt hc _
              have hbs : bd.length ≤ 1000000 := by omega
              have hrs' : rs.length ≤ 1000000 := by omega
              have hwr : IntKind.i64.wrap ((en : Int) + 4) = (en : Int) + 4 := IntWalk.i64_in _ (by omega)
              have HBD : Hid (F.body l = bd) := Lib.hid (by unfold F.body; rw [HG.out, HST.out, HEN.out, hbd])
              have HRS : Hid (F.rest l = rs) := Lib.hid (by unfold F.rest; rw [HG.out, HEN.out, hrs])
              clear hA3 hA4 hbd hrs hbl hrl
              go_enter Try.func55, Try.ntmps55
              go_wp2_with fail
              refine hI.mono ?_
              rintro e w1 ⟨rfl, hM1, hg1⟩
              have hB1 : Below w.heap.size w w1 := hB0.grown hg1 (by simp) fun k hk => by injection hk with hk; omega
              obtain ⟨A1, c1, z0, z1, z2, _, _, _, _⟩ := hM1.cells
              have k0 := C0.out w1 hB1
              have k1 := C1.out w1 hB1
              have k2 := C2.out w1 hB1
              have k3 := C3.out w1 hB1
              have SM1 := SM.out w1 hB1
              clear hI hg1
              go_wp2_with fail
              refine SM1.mono ?_
              rintro e w1' ⟨rfl, rfl⟩
              clear SM1
              have hrb1 := hrb.new hB1
              have hrr1 := hrr.new hB1
              have hgl : w.heap.size < w1.heap.size := hM1.lt
              have KS : ∀ W : World, Below w1.heap.size w1 W → W.cell? ⟨w.heap.size, 1, none⟩ = some (.int .i64 (st : Int)) ∧ Below w1.heap.size w1 W := fun W hW => ⟨(World.cell?_of_block (w := w1) (hW.block _ hgl)).trans z1, hW⟩
              have hbD : Below w1.heap.size w1 w1.drew := below_drewN (Below.refl _ _) 1
              clear hM1 hrb hrr
              go_wp2_with fail
              go_region_held3 (fun w' => w'.cell? ⟨w.heap.size, 1, none⟩ = some (.int .i64 (st : Int)) ∧ Below w1.heap.size w1 w')
                (first
                  | (refine KS _ ?_; go_split_ands; assumption)
                  | (refine KS _ ?_; go_split_ands; exact k_alloc (by assumption) _)
                  | (refine KS _ ?_; go_split_ands; exact k_alloc_drew (by assumption) _)
                  | (refine KS _ ?_; go_split_ands; exact below_new (by assumption) hnew))
                (first
                  | (refine step_app0 (by rfl) _ _ _ (by rfl) 5 i0 (.int .u8 0) 1 Try.underlying32 hi hz0 hz1 hz2 rfl _ (by rfl) S A3 bd.length (c - st) (u8s bd) ?_ (by simp) ?_ (one_ints _ _) (by unfold maxLen; omega) (by omega) ?_
                     rfl
                     (first | exact hrb1.new (by assumption) | (go_split_ands; exact hrb1.new (by assumption)))
                     intro A5 c5 w5 hc5 hrd5 hnew)
                  | (refine step_app0 (by rfl) _ _ _ (by rfl) 5 i0 (.int .u8 0) 1 Try.underlying32 hi hz0 hz1 hz2 rfl _ (by rfl) S A4 rs.length (c - (en + 4)) (u8s rs) ?_ (by simp) ?_ (one_ints _ _) (by unfold maxLen; omega) (by omega) ?_
                     rfl
                     (first | exact hrr1.new (by assumption) | (go_split_ands; exact hrr1.new (by assumption)))
                     intro A6 c6 w6 hc6 hrd6 hnew))
              all_goals
                have hrd7 : ROwns w6 (.slice A5 bd.length c5) bd := by
                  have h5 := rowns_of hc5 hrd5
                  first | exact h5.new hnew | exact (h5.new ((Below.refl _ _).alloc (Nat.le_refl _) _)).new hnew
                have hrd8 := rowns_of hc6 hrd6
                have hB6 : Below w1.heap.size w1 w6 := by go_split_ands; assumption
                clear hrd5 hrd6 hnew
                go_wp2
                go_ret3
                refine ⟨.inl ⟨by rw [HG.out], _, _, rfl, ?_, ?_⟩, below_new hB1 hB6⟩
                · rw [HBD.out]; exact hrd7
                · rw [HRS.out]; exact hrd8
            · have HG := Lib.hid (F.get_sum h0 HQ.out HE.out (by rw [HN.out]; omega) (by rw [HEN.out]; exact hsh) (by
                rw [HEN.out, HX.out, ← HSM.out, HZ.out]
                intro h
                injection h with q0 h
                injection h with q1 h
                injection h with q2 h
                injection h with q3 h
                exact hall ⟨q0, q1, q2, q3⟩))
              have hbad : (x0 != (sm : Int) / 16777216) = true ∨ (x0 != (sm : Int) / 16777216) = false ∧ (x1 != (sm : Int) / 65536 % 256) = true ∨
                  (x0 != (sm : Int) / 16777216) = false ∧ (x1 != (sm : Int) / 65536 % 256) = false ∧ (x2 != (sm : Int) / 256 % 256) = true ∨
                  (x0 != (sm : Int) / 16777216) = false ∧ (x1 != (sm : Int) / 65536 % 256) = false ∧ (x2 != (sm : Int) / 256 % 256) = false ∧ (x3 != (sm : Int) % 256) = true := by
                simp only [bne_iff_ne, bne_eq_false_iff_eq]
                omega
              clear hall
              rcases hbad with d0 | ⟨d0, d1⟩ | ⟨d0, d1, d2⟩ | ⟨d0, d1, d2, d3⟩
              all_goals
                go_enter Try.func55, Try.ntmps55
                go_wp2_with fail
                refine hI.mono ?_
                rintro e w1 ⟨rfl, hM1, hg1⟩
                have hB1 : Below w.heap.size w w1 := hB0.grown hg1 (by simp) fun k hk => by injection hk with hk; omega
                obtain ⟨A1, c1, z0, z1, z2, _, _, _, _⟩ := hM1.cells
                have k0 := C0.out w1 hB1
                have k1 := C1.out w1 hB1
                have k2 := C2.out w1 hB1
                have k3 := C3.out w1 hB1
                have SM1 := SM.out w1 hB1
                clear hI hg1
                go_wp2_with fail
                refine SM1.mono ?_
                rintro e w1' ⟨rfl, rfl⟩
                clear SM1
                go_wp2
                go_ret3
                exact ⟨.inr ⟨by rw [HG.out]; decide, by rw [HG.out]; rfl⟩, hB1⟩
      · have HG := Lib.hid (F.get_int h0 HQ.out (by rw [← HR.out]; exact hE))
        rw [← HR.out] at HG
        have hE' : (R.2.2 != 0) = true := by simpa using hE
        have HE := Lib.hid hE
        clear hE
        go_enter Try.func55, Try.ntmps55
        go_wp2_with fail
        refine hI.mono ?_
        rintro e w1 ⟨rfl, hM1, hg1⟩
        have hB1 : Below w.heap.size w w1 := hB0.grown hg1 (by simp) fun k hk => by injection hk with hk; omega
        obtain ⟨A1, c1, z0, z1, z2, _, _, _, _⟩ := hM1.cells
        clear hI hM1 hg1
        go_wp2
        go_quiet (fail)
        go_wp2
        go_ret3
        exact ⟨.inr ⟨by rw [HG.out]; exact HE.out, by rw [HG.out]; rfl⟩, below_drewN hB1 _⟩
    · have HG := Lib.hid (F.get_form h0 (by rw [List.getElem?_eq_getElem h0]; simpa using h1))
      have h1' : (l[0] != 1) = true := by simpa using h1
      clear hS h1
      go_enter Try.func55, Try.ntmps55
      go_wp2
      go_ret3
      exact ⟨.inr ⟨by rw [HG.out]; decide, by rw [HG.out]; rfl⟩, Below.refl _ _⟩
  · have hl0 : l.length = 0 := by omega
    have HG := Lib.hid (F.get_nil hl0)
    rw [hl0]
    go_enter Try.func55, Try.ntmps55
    go_wp2
    go_ret3
    exact ⟨.inr ⟨by rw [HG.out]; decide, by rw [HG.out]; rfl⟩, Below.refl _ _⟩
end Go.Proofs.Ytfllebfegngdhaa
