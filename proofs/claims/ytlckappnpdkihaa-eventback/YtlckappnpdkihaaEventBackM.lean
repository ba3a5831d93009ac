/- The walk of EventBack. -/
import Derived.Test.YtlckappnpdkihaaEvAlive
import Derived.Test.YtlckappnpdkihaaEvArgs2
import Derived.Test.YtlckappnpdkihaaEvFinP
import Derived.Test.YtlckappnpdkihaaEvRefSames
import Derived.Test.YtlckappnpdkihaaEvFin
namespace Go.Proofs.Ytlckappnpdkihaa
set_option linter.unusedVariables false
set_option linter.unusedSimpArgs false
open Go.ChangeShapes Go.WideShapes Go.ChangeAt Go.RowKit

def rightV (e : EvV) : Bool := E.right e.F e.M
theorem bulk_filter (l : List EvV) (p : EvV → Bool) : bulk (l.filter p) ≤ bulk l := by
  induction l with
  | nil => simp [bulk]
  | cons x l ih =>
    rw [List.filter_cons]
    split
    · simp only [bulk]; omega
    · simp only [bulk]; omega
theorem filter_take {l : List EvV} {i : Nat} (h : i < l.length) (p : EvV → Bool) : (l.take (i + 1)).filter p = (l.take i).filter p ++ if p l[i] then [l[i]] else [] := by
  rw [List.take_succ_eq_append_getElem h, List.filter_append, List.filter_cons]
  simp
theorem plain_right {l : List EvV} : ∀ e ∈ plain (l.filter rightV), E.right e.1 e.2 = true := fun e he => by
  obtain ⟨x, hx, rfl⟩ := List.mem_map.1 he
  exact (List.mem_filter.1 hx).2
/-- What was put and got, as events in memory. -/
theorem alike_norm {m l : List EvV} (h : plain m = (plain l).map fun e => (E.norm e.1, e.2)) : Alike m l := by
  have hl : m.length = l.length := by rw [← plain_len m, h, List.length_map, plain_len]
  refine ⟨hl, fun i hi hj => ?_⟩
  have h1 : (plain m)[i]? = ((plain l).map fun e => (E.norm e.1, e.2))[i]? := by rw [h]
  simp [plain, hi, hj] at h1
  exact ⟨h1.2, fun k hk => by rw [h1.1, E.norm_at _ hk]⟩
theorem bod_byt : ∀ {l : List E.Ev}, (∀ e ∈ l, E.right e.1 e.2 = true) → Byt (E.bod l)
  | [], _ => fun b hb => by simp [E.bod] at hb
  | x :: l, h => by
    have e1 : E.bod (x :: l) = V.encs (E.nums x.1 x.2) ++ E.bod l := rfl
    rw [e1]
    exact (encs_of (h x (List.mem_cons_self ..))).2.app (bod_byt fun e he => h e (List.mem_cons_of_mem _ he))
def OwnSt (w0 : World) (l : List EvV) (i : Nat) (v : Value) (w : World) : Prop :=
  ∃ A N c m, v = .slice A N c ∧ Hid (N = m.length ∧ m = (l.take i).filter rightV) ∧ m.length ≤ 700 ∧ EOwn w (fun b => b < w0.heap.size) w0.heap.size (.slice A N c) m ∧ Below w0.heap.size w0 w

set_option maxRecDepth 100000 in
set_option maxHeartbeats 8000000 in
theorem back_main (A : Option Addr) (n c : Nat) (l : List EvV) (B : Option Addr) (d : Nat) (L : List Int) (w : World) (hA : EvsIn w A n c l) (hd : L.length ≤ d) (hrb : Rds w (· < w.heap.size) B (u8s L)) (hB : Byt L) :
    Calls Try.prog 6 #[.slice A n c, .slice B L.length d] w fun e w' => e = .returned (.bool true) ∧ Below w.heap.size w w' := by
  obtain ⟨hn, hnc, hcm, hr, hmk⟩ := hA
  have hnm : n ≤ maxLen := by omega
  have HN := Lib.hid hn
  have HMK := Lib.hid hmk
  have HB := Lib.hid hB
  have HD := Lib.hid hd
  clear hn hmk hnc hcm hB hd
  go_enter Try.func6, Try.ntmps6
  go_wp2_with fail
  refine (evalive_any _).mono ?_
  rintro e w1 ⟨rfl, hb1⟩
  have hgr := great_any _ A n c l w1 HN.out (hr.new hb1) hnm
  go_wp2_with fail
  refine hgr.mono ?_
  rintro e w2 ⟨b, rfl, hb2, hG⟩
  have hb02 := below_new hb1 hb2
  cases b with
  | true =>
    clear hgr hG
    go_wp2
    go_ret
    exact ⟨rfl, hb02⟩
  | false =>
  have hbk : bulk l ≤ 3000 := hG rfl HMK.out
  have hn3 : n ≤ 3000 := by have := bulk_len l; rw [HN.out] at this; omega
  have HBK := Lib.hid hbk
  clear hgr hG hb1 hb2 hbk
  by_cases h5 : 5000 < L.length
  · have h5' : (5000 : Int) < (L.length : Int) := by omega
    go_wp2
    go_ret
    exact ⟨rfl, hb02⟩
  have h5' : ¬ (5000 : Int) < (L.length : Int) := by omega
  by_cases h7 : 700 < n
  · have h7' : (700 : Int) < (n : Int) := by omega
    go_wp2
    go_ret
    exact ⟨rfl, hb02⟩
  have h7' : ¬ (700 : Int) < (n : Int) := by omega
  go_wp2_with fail
  go_loopw [5, 32] (fun ov iv wr => ∃ i : Nat, iv = .int .i64 i ∧ i ≤ n ∧ OwnSt w l i ov wr) (fun _ iv _ => n - (intOf iv).toNat)
  case atStart => exact ⟨0, rfl, by omega, none, 0, 0, [], rfl, Lib.hid ⟨rfl, by simp⟩, by simp, EOwn.nil _ _ _, hb02⟩
  case round =>
    obtain ⟨i, rfl, hi, Ao, No, co, m, rfl, HS, hm7, hO, hb⟩ := hrel
    by_cases hlt : i < n
    · have hlt' : i < l.length := by rw [HN.out]; exact hlt
      obtain ⟨ad, rfl, _, hrx, c0, c1, c2, c3, c4, c5, c6, c7, c8, c9, c10, c11, c12, c13⟩ := (hr.new hb).cells hlt'
      obtain ⟨x, hx⟩ : ∃ x, x = l[i] := ⟨_, rfl⟩
      rw [← hx] at hrx c0 c1 c2 c3 c4 c5 c6 c7 c8 c9 c10 c11 c12 c13
      have hxl : (x.M.length : Int) ≤ 3000 := by rw [hx]; exact Int.le_trans (bulk_mem (List.getElem_mem hlt')) HBK.out
      have HX := Lib.hid hx
      have HFT : Hid (_ = _) := Lib.hid (filter_take hlt' rightV)
      rw [← hx] at HFT
      have hlm : ((l.take (i + 1)).filter rightV).length ≤ 700 := by
        have h1 := List.length_filter_le rightV (l.take (i + 1))
        have h2 := List.length_take_le (i + 1) l
        omega
      obtain ⟨F, M, Ax, cx⟩ := x
      simp only at hrx c0 c1 c2 c3 c4 c5 c6 c7 c8 c9 c10 c11 c12 c13 hxl
      obtain ⟨q, hq⟩ : ∃ q, M.length = q := ⟨_, rfl⟩
      rw [hq] at c13 hxl
      obtain ⟨w3, hw3⟩ : ∃ W, wr.alloc (.cells (ecs F Ax q cx) 28) = W := ⟨_, rfl⟩
      obtain ⟨g3, hg3⟩ : ∃ g, g = wr.heap.size := ⟨_, rfl⟩
      have hb3 : Below wr.heap.size wr w3 := by rw [← hw3]; exact b_alloc _ _
      have hX3 : Blo w3 g3 28 (ecs F Ax q cx) := by rw [← hw3, hg3]; exact Blo.made _ _ _
      have hright := evright_any _ F Ax q cx M w3 hq (hrx.new hb3) (by unfold maxLen; omega)
      have HW3 := Lib.hid hw3
      have HG3 := Lib.hid hg3
      have HQ := Lib.hid hq
      clear hx hq hw3 hg3
      go_wp2_with fail
      rw [HW3.out, ← HG3.out]
      clear c0 c1 c2 c3 c4 c5 c6 c7 c8 c9 c10 c11 c12 c13
      obtain ⟨c0, c1, c2, c3, c4, c5, c6, c7, c8, c9, c10, c11, c12, c13⟩ := set14 hX3
      go_wp2_with fail
      refine hright.mono ?_
      rintro e w4 ⟨rfl, hb4⟩
      have hb34 := below_new hb3 hb4
      have hO4 := hO.new hb34
      have hb04 := below_new hb hb34
      have hX4 := hX3.new hb4
      have hs4 := hb04.size
      clear c0 c1 c2 c3 c4 c5 c6 c7 c8 c9 c10 c11 c12 c13 hright hO hX3
      cases hrt : E.right F M with
      | false =>
        have HS4 : Hid (No = m.length ∧ m = (l.take (i + 1)).filter rightV) := Lib.hid ⟨HS.out.1, by
          have h1 : rightV ⟨F, M, Ax, cx⟩ = false := hrt
          rw [HFT.out, h1, ← HS.out.2]; simp⟩
        clear hrt
        go_wp2
        go_roundw
        case rel => exact ⟨i + 1, by go_num, by omega, Ao, No, co, m, rfl, HS4, hm7, hO4, hb04⟩
        case measure => simp [intOf]; omega
      | true =>
        have HS4 : Hid (m ++ [(⟨F, M, Ax, cx⟩ : EvV)] = (l.take (i + 1)).filter rightV) := Lib.hid (by
          have h1 : rightV ⟨F, M, Ax, cx⟩ = true := hrt
          rw [HFT.out, h1, ← HS.out.2]; simp)
        have hap : Rds w4 (fun b => b < w.heap.size ∧ some b ≠ (Value.slice Ao No co).ownBlock) Ax (dvs M) := (hrx.new hb34).mono fun b hb => ⟨hb, fun e => by have := (hO4.row.lt b e.symm).1; omega⟩
        have hlit := blo_ers ⟨F, M, Ax, cx⟩ (Blo.made w4 28 (EvV.cells ⟨F, M, Ax, cx⟩))
        simp only [EvV.cells, HQ.out] at hlit
        obtain ⟨c0, c1, c2, c3, c4, c5, c6, c7, c8, c9, c10, c11, c12, c13⟩ := set14 hX4
        clear hrt
        go_wp2_with (at_builtin; refine wpList_eapp _ rfl _ _ rfl w.heap.size _ m rfl (hO4.new (b_alloc _ _)).row (fun _ => True) _ 1 1 [⟨F, M, Ax, cx⟩] rfl rfl hlit (by omega) (by simp; omega) ?_)
        intro v5 w5 hrow5 hg5 hv5
        have hO5 := (hO4.new (b_alloc _ _)).snoc hrow5 hg5 (by simpa using hv5) (hap.alloc _)
        have hb05 : Below w.heap.size w w5 := by
          have h1 := below_new hb04 (b_alloc w4 (.cells (ecs F Ax q cx) 28))
          exact h1.grown hg5 h1.size (fun k hk => (hO4.row.lt k hk).1)
        obtain ⟨A5, c5', rfl, _⟩ := hrow5.form
        obtain ⟨N5, hN5⟩ : ∃ N, N = (m ++ [(⟨F, M, Ax, cx⟩ : EvV)]).length := ⟨_, rfl⟩
        rw [← hN5] at hO5 ⊢
        have HS5 : Hid (N5 = (m ++ [(⟨F, M, Ax, cx⟩ : EvV)]).length ∧ m ++ [(⟨F, M, Ax, cx⟩ : EvV)] = (l.take (i + 1)).filter rightV) := Lib.hid ⟨hN5, HS4.out⟩
        have hm5 : (m ++ [(⟨F, M, Ax, cx⟩ : EvV)]).length ≤ 700 := by rw [HS4.out]; exact hlm
        clear hN5 hrow5 hg5 hv5 hlit hap hO4 hX4 c0 c1 c2 c3 c4 c5 c6 c7 c8 c9 c10 c11 c12 c13
        go_wp2
        go_roundw
        case rel => exact ⟨i + 1, by go_num, by omega, A5, N5, c5', _, rfl, HS5, hm5, hO5, hb05⟩
        case measure => simp [intOf]; omega
    · have hmf : m = l.filter rightV := by
        have h1 := HS.out.2
        rwa [List.take_of_length_le (by rw [HN.out]; omega)] at h1
      have hNo := HS.out.1
      have hrt : ∀ e ∈ plain m, E.right e.1 e.2 = true := by rw [hmf]; exact plain_right
      have hbm : bulk m ≤ 3000 := by rw [hmf]; exact Int.le_trans (bulk_filter l rightV) HBK.out
      obtain ⟨hP1, hP2⟩ := putAE_good (l := plain m) (by rw [plain_len]; omega) hrt
      have hpa := evputall_any _ Ao No co m wr hNo.symm hO.erds (by unfold maxLen; omega) hbm
      have hXl := putAB_len hbm
      rw [hP1] at hpa
      obtain ⟨g1, g2⟩ := E.all_put (l := plain m) (by rw [plain_len]; omega) hrt
      have hXb : Byt (E.putAB (plain m)) := by
        rw [hP2]
        exact Byt.app (V.enc_byt6 (by omega) (by rw [plain_len]; omega)) (bod_byt hrt)
      rw [← hP2] at g1 g2
      have hmm : ∀ e ∈ m, e.M.length ≤ 1000000 := fun e he => by have := bulk_mem he; omega
      obtain ⟨X, hX⟩ : ∃ X, X = E.putAB (plain m) := ⟨_, rfl⟩
      rw [← hX] at hpa hXl hXb g1 g2
      have HNo := Lib.hid hNo
      have HG1 := Lib.hid g1
      have HG2 := Lib.hid g2
      have HMM := Lib.hid hmm
      have HXb := Lib.hid hXb
      clear hX hP1 hP2 hrt hbm hmf g1 g2 hmm hXb hNo
      go_wp2_with fail
      refine hpa.mono ?_
      rintro e w3 ⟨A3, N3, c3, rfl, hN3, ho3, hb3⟩
      have hga := evgetall_any _ A3 N3 c3 X w3 hN3 (own_rds ho3) (by omega) HXb.out
      unfold GetsPost7 at hga
      rw [HG1.out, HG2.out] at hga
      simp only [List.length_map] at hga
      rw [plain_len, ← HNo.out] at hga
      have hb03 := below_new hb hb3
      clear hpa hN3 ho3
      go_wp2_with fail
      refine hga.mono ?_
      rintro e w4 ⟨A4, c4, m4, rfl, hm4, hO4, hb4⟩
      have hb04 := below_new hb03 hb4
      have hl4 : m4.length = No := by rw [← plain_len m4, hm4, List.length_map, plain_len, HNo.out]
      have hal := alike_norm hm4
      have hmm4 : ∀ e ∈ m4, e.M.length ≤ 1000000 := fun e he => by
        have h1 : (e.F, e.M) ∈ plain m4 := List.mem_map.2 ⟨e, he, rfl⟩
        rw [hm4] at h1
        obtain ⟨y, hy, e1⟩ := List.mem_map.1 h1
        obtain ⟨z, hz, rfl⟩ := List.mem_map.1 hy
        simp only [Prod.mk.injEq] at e1
        rw [← e1.2]
        exact HMM.out z hz
      have hall := eall_yes _ _ A4 Ao No c4 co m4 m w4 hl4 hal hO4.erds ((hO.new hb3).new hb4).erds (by rw [HNo.out]; unfold maxLen; omega) hmm4
      clear hga hm4 hl4 hal hmm4 hO4 hO hb3 hb4
      go_wp2_with fail
      refine hall.mono ?_
      rintro e w5 ⟨rfl, hb5⟩
      have hb05 := below_new hb04 hb5
      have hrb5 := hrb.new hb05
      have hget := evget_any _ B L.length d L w5 rfl hrb5 (by omega) HB.out
      have hm96 := getM_len L
      have HBK2 : Hid (E.gE L = 0 → E.right (E.getF L) (E.getM L) = true ∧ V.encs (E.nums (E.getF L) (E.getM L)) = L) := Lib.hid (fun h => E.get_back HB.out h)
      have HBad : Hid (E.gE L ≠ 0 → E.getF L = (fun _ => 0) ∧ E.getM L = []) := Lib.hid (fun h => by unfold E.getF E.getM; rw [if_neg h, if_neg h]; exact ⟨rfl, rfl⟩)
      unfold GetPost7 at hget
      obtain ⟨F, hF⟩ : ∃ F, F = E.getF L := ⟨_, rfl⟩
      obtain ⟨M, hM⟩ : ∃ M, M = E.getM L := ⟨_, rfl⟩
      obtain ⟨q, hq⟩ : ∃ q, q = M.length := ⟨_, rfl⟩
      obtain ⟨x, hx⟩ : ∃ x, x = E.gE L := ⟨_, rfl⟩
      rw [← hF, ← hM, ← hq, ← hx] at hget
      rw [← hF, ← hM, ← hx] at HBK2 HBad
      rw [← hM, ← hq] at hm96
      have HQ := Lib.hid hq
      clear hF hM hx hall hb03 hb04 hb5
      go_wp2_with fail
      refine hget.mono ?_
      rintro e w6 ⟨A6, c6, rfl, hD6, hb6⟩
      obtain ⟨w7, hw7⟩ : ∃ W, w6.alloc (.cells (ecs F A6 q c6) 28) = W := ⟨_, rfl⟩
      obtain ⟨g7, hg7⟩ : ∃ k, k = w6.heap.size := ⟨_, rfl⟩
      have hb7 : Below w6.heap.size w6 w7 := by rw [← hw7]; exact b_alloc _ _
      have hX7 : Blo w7 g7 28 (ecs F A6 q c6) := by rw [← hw7, hg7]; exact Blo.made _ _ _
      have hb57 := below_new hb6 hb7
      have hb07 := below_new hb05 hb57
      have hrb7 := hrb5.new hb57
      have hD7 := hD6.new hb7
      have HW7 := Lib.hid hw7
      have HG7 := Lib.hid hg7
      clear hget hw7 hg7 hb05 hrb5 hD6 hb6 hb7 hb57 hq
      by_cases hx : x = 0
      · subst hx
        obtain ⟨hR, hE⟩ := HBK2.out rfl
        have hput := evput_any _ F A6 q c6 M w7 HQ.out.symm hD7.rdsT (by unfold maxLen; omega)
        have e1 : E.putB F M = L ∧ E.putE F M = 0 := by unfold E.putB E.putE; rw [hR]; exact ⟨hE, rfl⟩
        rw [e1.1, e1.2] at hput
        have HR := Lib.hid hR
        clear hR hE e1 HBK2 HBad
        go_wp2_with fail
        rw [HW7.out, ← HG7.out]
        obtain ⟨z0, z1, z2, z3, z4, z5, z6, z7, z8, z9, z10, z11, z12, z13⟩ := set14 hX7
        go_wp2_with fail
        refine hput.mono ?_
        rintro e w8 ⟨A8, N8, c8, rfl, hN8, ho8, hb8⟩
        have hright := evright_any _ F A6 q c6 M w8 HQ.out.symm (hD7.new hb8).rdsT (by unfold maxLen; omega)
        rw [HR.out] at hright
        have hX8 := hX7.new hb8
        have hb08 := below_new hb07 hb8
        clear hput z0 z1 z2 z3 z4 z5 z6 z7 z8 z9 z10 z11 z12 z13
        obtain ⟨z0, z1, z2, z3, z4, z5, z6, z7, z8, z9, z10, z11, z12, z13⟩ := set14 hX8
        have HN8 := Lib.hid hN8
        clear hN8
        go_wp2_with fail
        refine hright.mono ?_
        rintro e w9 ⟨rfl, hb9⟩
        have hb09 := below_new hb08 hb9
        have hsm := same_yes _ _ A8 B c8 d L w9 ((own_rds ho8).new hb9) ((hrb7.new hb8).new hb9) (by omega)
        have hsm' : Calls Try.prog 20 #[.slice A8 N8 c8, .slice B L.length d] w9 fun e w' => e = .returned (.bool true) ∧ Drew w9 w' := by rw [HN8.out]; exact hsm
        clear hright z0 z1 z2 z3 z4 z5 z6 z7 z8 z9 z10 z11 z12 z13 hsm
        go_wp2_with fail
        refine hsm'.mono ?_
        rintro e w10 ⟨rfl, hd10⟩
        have hb10 := below_new hb09 (hd10.below _)
        clear hsm'
        go_wp2
        go_ret
        exact ⟨rfl, hb10⟩
      · obtain ⟨eF, eM⟩ := HBad.out hx
        have hxn : (x != 0) = true := by simpa using hx
        have q0 : q = 0 := by rw [HQ.out, eM]; rfl
        have hb7' := hb07
        rw [← HW7.out] at hb7'
        subst eF
        subst q0
        clear hx HBK2 HBad
        go_wp2
        go_ret
        exact ⟨rfl, hb7'⟩
end Go.Proofs.Ytlckappnpdkihaa
