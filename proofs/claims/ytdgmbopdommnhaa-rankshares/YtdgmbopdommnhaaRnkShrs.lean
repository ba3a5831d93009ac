/- Layer 12: what RankShares comes to. -/
import Derived.Test.YtdgmbopdommnhaaRnkLeav
namespace Go.Proofs.Ytdgmbopdommnhaa
set_option linter.unusedVariables false
set_option linter.unusedSimpArgs false
open Go.ChangeShapes Go.WideShapes Go.ChangeAt Go.RowKit

/-! ### each workload once -/
def R.own1 (ns : List Int) (s m w : Nat) : Bool := match (R.all ns (w : Int) s).head? with
  | some k => decide (k < m)
  | none => false
def R.cnt (ns : List Int) (s m : Nat) (l : List Nat) (w : Nat) : Int := if (R.own1 ns s m w || decide (w ∈ l)) = true then 1 else 0
section
variable {ns : List Int} {s : Nat}
theorem R.own1_some {m w k : Nat} (h : (R.all ns (w : Int) s).head? = some k) : R.own1 ns s m w = decide (k < m) := by unfold R.own1; rw [h]
theorem R.own1_none {m w : Nat} (h : (R.all ns (w : Int) s).head? = none) : R.own1 ns s m w = false := by unfold R.own1; rw [h]
theorem R.shr_inc (m j : Nat) : (R.shr ns s m j).Pairwise (· < ·) := List.Pairwise.sublist List.filter_sublist (List.pairwise_lt_range)
/-- One more of a node's. -/
theorem R.cnt_zero {m i : Nat} (hi : i < (R.shr ns s m 8).length) : R.cnt ns s m ((R.shr ns s m 8).take i) (R.shr ns s m 8)[i] = 0 := by
  have hm := (R.mem_shr.1 (List.getElem_mem hi)).2
  unfold R.cnt
  rw [R.own1_some hm]
  have hni : (R.shr ns s m 8)[i] ∉ (R.shr ns s m 8).take i := fun h => by
    obtain ⟨j, hj, e⟩ := List.mem_iff_getElem.1 h
    rw [List.getElem_take] at e
    have hji : j < i := by rw [List.length_take] at hj; omega
    have := (List.pairwise_iff_getElem.1 (R.shr_inc (ns := ns) (s := s) m 8)) j i (by omega) hi hji
    omega
  simp [hni]
theorem R.cnt_more {m i : Nat} (hi : i < (R.shr ns s m 8).length) (w : Nat) : R.cnt ns s m ((R.shr ns s m 8).take (i + 1)) w = if w = (R.shr ns s m 8)[i] then 1 else R.cnt ns s m ((R.shr ns s m 8).take i) w := by
  have hmt : ∀ x, x ∈ (R.shr ns s m 8).take (i + 1) ↔ x ∈ (R.shr ns s m 8).take i ∨ x = (R.shr ns s m 8)[i] := fun x => by
    rw [List.take_succ_eq_append_getElem hi]
    simp only [List.mem_append, List.mem_singleton]
  unfold R.cnt
  simp only [Bool.or_eq_true, decide_eq_true_eq]
  by_cases hw : w = (R.shr ns s m 8)[i]
  · rw [if_pos hw, if_pos (.inr ((hmt w).2 (.inr hw)))]
  · rw [if_neg hw]
    by_cases h : R.own1 ns s m w = true ∨ w ∈ (R.shr ns s m 8).take i
    · rw [if_pos h, if_pos (h.imp id fun h => (hmt w).2 (.inl h))]
    · rw [if_neg h, if_neg (fun h' => h (h'.imp id fun h' => ((hmt w).1 h').resolve_right hw))]
theorem R.cnt_next {m w : Nat} (hw : w < 8) : R.cnt ns s m (R.shr ns s m 8) w = R.cnt ns s (m + 1) [] w := by
  unfold R.cnt
  congr 1
  have h1 : (decide (w ∈ R.shr ns s m 8)) = decide ((R.all ns (w : Int) s).head? = some m) := by
    rw [decide_eq_decide, R.mem_shr]
    exact ⟨fun h => h.2, fun h => ⟨hw, h⟩⟩
  rw [h1]
  cases hh : (R.all ns (w : Int) s).head? with
  | none => rw [R.own1_none hh, R.own1_none hh]; simp
  | some k =>
    rw [R.own1_some hh, R.own1_some hh]
    simp
    constructor <;> intro h <;> omega
theorem R.all_nil_iff (k k' : Int) : R.all ns k s = [] ↔ R.all ns k' s = [] := by
  rw [← List.length_eq_zero_iff, ← List.length_eq_zero_iff, R.perm_all.length_eq, R.perm_all.length_eq]
/-- In the end each has one owner, if there is any node. -/
theorem R.cnt_all {w : Nat} : R.cnt ns s 8 [] w = if R.all ns 0 s = [] then 0 else 1 := by
  unfold R.cnt
  cases hh : (R.all ns (w : Int) s).head? with
  | none =>
    have : R.all ns (w : Int) s = [] := by simpa using hh
    rw [R.own1_none hh, if_pos ((R.all_nil_iff (w : Int) 0).1 this)]
    simp
  | some k =>
    have hk := R.own_lt hh
    have : R.all ns (w : Int) s ≠ [] := fun e => by rw [e] at hh; cases hh
    rw [R.own1_some hh, if_neg (fun e => this ((R.all_nil_iff (w : Int) 0).2 e))]
    simp [hk]
end
theorem nv8_congr {U V : Nat → Int} (h : ∀ i, i < 8 → U i = V i) : nv8 U = nv8 V := by
  unfold nv8
  rw [h 0 (by omega), h 1 (by omega), h 2 (by omega), h 3 (by omega), h 4 (by omega), h 5 (by omega), h 6 (by omega), h 7 (by omega)]
theorem ix_sv8 (V : Nat → Value) {m : Nat} (hm : m < 8) (W : World) : (Instr.index 32 (.agg (sv8 V)) (.int .i64 (m : Int))).run Try.prog W = .ok (V m) W := by
  rcases (show m = 0 ∨ m = 1 ∨ m = 2 ∨ m = 3 ∨ m = 4 ∨ m = 5 ∨ m = 6 ∨ m = 7 by omega) with rfl | rfl | rfl | rfl | rfl | rfl | rfl | rfl <;> kernel_rfl
theorem ix_nv8 (U : Nat → Int) {m : Nat} (hm : m < 8) (W : World) : (Instr.index 38 (.agg (nv8 U)) (.int .i64 (m : Int))).run Try.prog W = .ok (.int .i64 (U m)) W := by
  rcases (show m = 0 ∨ m = 1 ∨ m = 2 ∨ m = 3 ∨ m = 4 ∨ m = 5 ∨ m = 6 ∨ m = 7 by omega) with rfl | rfl | rfl | rfl | rfl | rfl | rfl | rfl <;> kernel_rfl

set_option maxRecDepth 100000 in
set_option maxHeartbeats 8000000 in
theorem rnkshares_main (S : Nat → Prop) (A : Option Addr) (n c : Nat) (ns : List Int) (s : Nat) (w : World) (hs : s < 18446744073709551616) (hn : ns.length = n) (hr : Rds w S A (i64s ns)) :
    Calls Try.prog 5 #[.slice A n c, .int .u64 (s : Int)] w fun e w' => e = .returned (.bool true) ∧ Below w.heap.size w w' := by
  have HSS := Lib.hid hs
  have HN := Lib.hid hn
  clear hs hn
  go_enter Try.func5, Try.ntmps5
  go_wp2_with fail
  refine (rnkalive_any _).mono ?_
  rintro e w2 ⟨rfl, hb2⟩
  have hr2 := hr.new hb2
  clear hr
  by_cases hl : 200 < n
  · have hl' : (200 : Int) < (n : Int) := by omega
    go_wp2
    go_ret
    exact ⟨rfl, hb2⟩
  · have hl' : ¬ (200 : Int) < (n : Int) := by omega
    have hn9 : n ≤ 900000 := by omega
    have HSH := Lib.hid (pshare_any S A n c ns s w2 HSS.out HN.out hr2 hn9)
    go_wp2_with fail
    refine HSH.out.mono ?_
    rintro e w4 ⟨V, rfl, hV, hb4⟩
    have hb04 := below_new hb2 hb4
    have hr4 := (hr2.new hb4).old
    have HV : Hid (∀ i, i < 8 → ∃ A N c, V i = .slice A N c ∧ N = (R.shr ns s i 8).length ∧ Rds w4 (fun b => b < w4.heap.size) A (i64s (zi (R.shr ns s i 8)))) := Lib.hid fun i hi => by
      obtain ⟨A, N, c, e, l, r⟩ := hV i hi
      exact ⟨A, N, c, e, l, r.old.mono fun b hb => hb.2⟩
    have hVo : ∀ v ∈ (sv8 V).toList, v.oneCell' = true := sv8_one (n := fun i => (R.shr ns s i 8).length) fun i hi => by
      obtain ⟨A, N, c, e, l, _⟩ := HV.out i hi
      exact ⟨A, c, by rw [e, l]⟩
    have HIX := Lib.hid (fun (m : Nat) (hm : m < 8) (W : World) => ix_sv8 V hm W)
    obtain ⟨gs, hgs⟩ : ∃ gs, gs = w4.heap.size := ⟨_, rfl⟩
    have hA5 : Blo (w4.alloc (.cells (sv8 fun _ => .slice none 0 0) 32)) w4.heap.size 32 (sv8 fun _ => .slice none 0 0) := Blo.made _ _ _
    have hb5 := b_alloc w4 (.cells (sv8 fun _ => .slice none 0 0) 32)
    clear hb2 hr2 hV hb4 HSH
    go_wp2_with (refine wpList_setb _ rfl 32 _ _ rfl w4.heap.size _ (sv8 V) rfl rfl hA5 (by kernel_rfl) rfl hVo ?_)
    intro w6 hA6 hg6
    have hb46 : Below w4.heap.size w4 w6 := hb5.grown hg6 hb5.size (fun k hk => by injection hk with hk; omega)
    obtain ⟨w7, hw7⟩ : ∃ W, w6.alloc (.cells (nv8 fun _ => 0) 38) = W := ⟨_, rfl⟩
    have hb7 : Below w6.heap.size w6 w7 := by rw [← hw7]; exact b_alloc _ _
    have hN7 : Blo w7 w6.heap.size 38 (nv8 fun _ => 0) := by rw [← hw7]; exact Blo.made _ _ _
    have hA7 := hA6.new hb7
    have hb47 := below_new hb46 hb7
    have hs46 := hb46.size
    have HW7 := Lib.hid hw7
    have e0 : w7.cell? ⟨w4.heap.size, 0, none⟩ = some (V 0) := by simpa using hA7.cell 0
    have e1 : w7.cell? ⟨w4.heap.size, 1, none⟩ = some (V 1) := by simpa using hA7.cell 1
    have e2 : w7.cell? ⟨w4.heap.size, 2, none⟩ = some (V 2) := by simpa using hA7.cell 2
    have e3 : w7.cell? ⟨w4.heap.size, 3, none⟩ = some (V 3) := by simpa using hA7.cell 3
    have e4 : w7.cell? ⟨w4.heap.size, 4, none⟩ = some (V 4) := by simpa using hA7.cell 4
    have e5 : w7.cell? ⟨w4.heap.size, 5, none⟩ = some (V 5) := by simpa using hA7.cell 5
    have e6 : w7.cell? ⟨w4.heap.size, 6, none⟩ = some (V 6) := by simpa using hA7.cell 6
    have e7 : w7.cell? ⟨w4.heap.size, 7, none⟩ = some (V 7) := by simpa using hA7.cell 7
    rw [← hw7] at e0 e1 e2 e3 e4 e5 e6 e7
    clear hw7 hA5 hb5 hVo hA6 hg6 hb46 hb7 hA7 hgs
    go_wp2_with fail
    rw [HW7.out]
    clear e0 e1 e2 e3 e4 e5 e6 e7
    have hns : Rds w7 (fun b => b < w4.heap.size) A (i64s ns) := (hr4.mono fun b hb => hb.2).below hb47 (fun b hb _ => hb)
    have HCT0 : Hid (nv8 (fun _ => 0) = nv8 (R.cnt ns s 0 [])) := Lib.hid (nv8_congr fun i _ => by
      unfold R.cnt R.own1
      cases (R.all ns (i : Int) s).head? <;> simp)
    clear hr4
    go_loopw [25] (fun mv wr => ∃ m : Nat, mv = .int .i64 m ∧ m ≤ 8 ∧ Blo wr w6.heap.size 38 (nv8 (R.cnt ns s m [])) ∧ Below w4.heap.size w7 wr) (fun mv _ => 8 - (intOf mv).toNat)
    case atStart => exact ⟨0, rfl, by omega, by rw [← HCT0.out]; exact hN7, Below.refl _ _⟩
    case round =>
      clear hN7
      obtain ⟨m, rfl, hm, hB, hb⟩ := hrel
      by_cases hm8 : m < 8
      · have hm8' : (m : Int) < 8 := by omega
        obtain ⟨Am, Nm, cm, hVm, hNm, hRm⟩ := HV.out m hm8
        have HNM := Lib.hid hNm
        have hNm8 : Nm ≤ 8 := by rw [hNm]; exact R.shr_len m 8
        have hix := HIX.out m hm8
        rw [hVm] at hix
        have HRM : Hid (Rds w7 (fun b => b < w4.heap.size) Am (i64s (zi (R.shr ns s m 8)))) := Lib.hid (hRm.below hb47 (fun b hb _ => hb))
        have hLM : ∀ w0 ∈ R.shr ns s m 8, w0 < 8 ∧ (R.all ns (w0 : Int) s).head? = some m := fun w0 h => R.mem_shr.1 h
        have hinc := R.shr_inc (ns := ns) (s := s) m 8
        have hcz := fun (i : Nat) (hi : i < (R.shr ns s m 8).length) => R.cnt_zero (ns := ns) (s := s) (m := m) hi
        have hcm := fun (i : Nat) (hi : i < (R.shr ns s m 8).length) w => R.cnt_more (ns := ns) (s := s) (m := m) hi w
        have HCN : Hid (nv8 (R.cnt ns s m (R.shr ns s m 8)) = nv8 (R.cnt ns s (m + 1) [])) := Lib.hid (nv8_congr fun i hi => R.cnt_next hi)
        generalize R.shr ns s m 8 = L at *
        have HLM := Lib.hid hLM
        have HIN := Lib.hid hinc
        have HCZ := Lib.hid hcz
        have HCM := Lib.hid hcm
        clear hNm hVm hRm hLM hinc hcz hcm
        go_wp2_with fail
        clear hix
        go_loopw [31] (fun iv wr => ∃ i : Nat, iv = .int .i64 i ∧ i ≤ Nm ∧ Blo wr w6.heap.size 38 (nv8 (R.cnt ns s m (L.take i))) ∧ Below w4.heap.size w7 wr) (fun iv _ => Nm - (intOf iv).toNat)
        case atStart => exact ⟨0, rfl, by omega, by simpa using hB, hb⟩
        case round =>
          clear hB hb
          obtain ⟨i, rfl, hi, hB, hb⟩ := hrel
          by_cases hin : i < Nm
          · have hin' : (i : Int) < (Nm : Int) := by omega
            have hil : i < L.length := by rw [← HNM.out]; exact hin
            have hRr := HRM.out.below hb (fun b hb _ => hb)
            obtain ⟨ad, rfl, hc⟩ := zi_at hRr hil
            obtain ⟨hw8, hown⟩ := HLM.out L[i] (List.getElem_mem hil)
            have hz := HCZ.out i hil
            have HNX : Hid (nv8 (fun j => if j = L[i] then 1 else R.cnt ns s m (L.take i) j) = nv8 (R.cnt ns s m (L.take (i + 1)))) := Lib.hid (nv8_congr fun j _ => (HCM.out i hil j).symm)
            have hpre : ∀ t, t + 1 = i → ∃ v : Nat, wr.cell? (ad.add t) = some (.int .i64 (v : Int)) ∧ v < L[i] := fun t ht => by
              have htl : t < L.length := by omega
              obtain ⟨ad', e, hc'⟩ := zi_at hRr htl
              injection e with e
              subst e
              exact ⟨L[t], hc', (List.pairwise_iff_getElem.1 HIN.out) t i htl hil (by omega)⟩
            have hpo := fun W (h : Below w4.heap.size w7 W) => powner_any _ A n c ns (L[i] : Int) s W HSS.out HN.out (hns.below h (fun b hb _ => hb)) hn9
            simp only [(R.oer_some hown).1, (R.oer_some hown).2] at hpo
            generalize L[i] = x at *
            generalize R.cnt ns s m (L.take i) = U at *
            have y0 : wr.cell? ⟨w6.heap.size, x, none⟩ = some (.int .i64 0) := by rw [hB.cell x, nv8_at U hw8, hz]
            have f0 := hB.frozen x
            have hx0 : 0 ≤ (x : Int) ∧ (x : Int) < 8 := by omega
            have hxN : ((x : Int)).toNat = x := Int.toNat_natCast x
            have hx1 : ¬ (x : Int) < 0 := by omega
            have hx2 : ¬ (8 : Int) ≤ (x : Int) := by omega
            have hBV := hB.put x (.int .i64 1)
            rw [nv8_put U hw8, HNX.out] at hBV
            have hg2 : wr.grownBy (wr.setCell ⟨w6.heap.size, x, none⟩ (.int .i64 1)) (some w6.heap.size) := gb_set (World.grownBy.refl _ _) (.inl rfl) _
            obtain ⟨V, hV⟩ : ∃ W, wr.setCell ⟨w6.heap.size, x, none⟩ (.int .i64 1) = W := ⟨_, rfl⟩
            rw [hV] at hBV hg2
            have hsr := hb.size
            have hbV : Below w4.heap.size w7 V := hb.grown hg2 (Nat.le_trans hb47.size hb.size) (fun k hk => by injection hk with hk; omega)
            have hsV : w4.heap.size ≤ V.heap.size := by have := hbV.size; have := hb47.size; omega
            have hcall := hpo
            clear hB hRr hown hz HNX hpo hg2 hw8 hil
            rcases Nat.eq_zero_or_pos i with h0 | h0
            · subst h0
              have ead : ad.add 0 = ad := rfl
              rw [ead] at hc
              clear hpre ead
              go_wp2_with fail
              try rw [hV]
              refine (hcall V hbV).mono ?_
              rintro e w9 ⟨rfl, hb9⟩
              have hN9 := hBV.new hb9
              have hb79 : Below w4.heap.size w7 w9 := hbV.trans (hb9.mono hsV)
              clear hcall hBV hbV hV hb9
              go_wp2
              go_roundw
              case rel => exact ⟨1, by go_num, by omega, hN9, hb79⟩
              case measure => simp [intOf]; omega
            · obtain ⟨t, rfl⟩ : ∃ t, i = t + 1 := ⟨i - 1, by omega⟩
              obtain ⟨v, hcv, hvx⟩ := hpre t rfl
              have hgt : (0 : Int) < ((t + 1 : Nat) : Int) := by omega
              have hgt2 : (0 : Int) < (t : Int) + 1 := by omega
              have ek : IntKind.i64.wrap (((t + 1 : Nat) : Int) - 1) = (t : Int) := by rw [IntWalk.i64_in _ (by omega)]; omega
              have ek3 : IntKind.i64.wrap ((t : Int) + 1 - 1) = (t : Int) := by rw [IntWalk.i64_in _ (by omega)]; omega
              have ek4 : IntKind.i64.wrap (t : Int) = (t : Int) := IntWalk.i64_in _ (by omega)
              have hpt : 0 ≤ (t : Int) ∧ (t : Int) < (Nm : Int) := by omega
              have htt : ((t : Int)).toNat = t := by omega
              have hvx' : ¬ (x : Int) ≤ (v : Int) := by omega
              have hc2 : wr.cell? ⟨ad.block, ad.off + (t + 1), none⟩ = some (.int .i64 (x : Int)) := by simpa [Addr.add] using hc
              clear hpre hvx
              go_wp2_with fail
              try rw [hV]
              refine (hcall V hbV).mono ?_
              rintro e w9 ⟨rfl, hb9⟩
              have hN9 := hBV.new hb9
              have hb79 : Below w4.heap.size w7 w9 := hbV.trans (hb9.mono hsV)
              clear hcall hBV hbV hV hb9
              go_wp2
              go_roundw
              case rel => exact ⟨t + 1 + 1, by go_num, by omega, hN9, hb79⟩
              case measure => simp [intOf]; omega
          · obtain rfl : i = Nm := by omega
            have hin' : ¬ (i : Int) < (i : Int) := by omega
            have hLi : L.take i = L := List.take_of_length_le (by rw [← HNM.out]; exact Nat.le_refl _)
            rw [hLi, HCN.out] at hB
            clear hLi HCN HCM HCZ HIN HLM HRM HNM
            go_wp2
            go_roundw
            case rel => exact ⟨m + 1, by go_num, by omega, hB, hb⟩
            case measure => simp [intOf]; omega
      · obtain rfl : m = 8 := by omega
        have hm8' : ¬ ((8 : Nat) : Int) < 8 := by omega
        have hs7 := hb47.size
        have hsr := hb.size
        have hor := porder_any _ A n c ns 0 s wr HSS.out HN.out (hns.below hb (fun b hb _ => hb)) hn9
        have HAL : Hid (nv8 (R.cnt ns s 8 []) = nv8 (fun _ => if R.all ns 0 s = [] then 0 else 1)) := Lib.hid (nv8_congr fun i _ => R.cnt_all)
        rw [HAL.out] at hB
        have hb0r : Below w.heap.size w wr := hb04.trans ((hb47.trans hb).mono hb04.size)
        generalize R.all ns 0 s = L at *
        have HOR := Lib.hid hor
        clear hor HAL hns HIX HV HCT0
        go_wp2_with fail
        refine HOR.out.mono ?_
        rintro e w9 ⟨A9, N9, c9, rfl, hN9, _, hb9⟩
        have hb09 := below_new hb0r hb9
        have hB9 := hB.new hb9
        obtain ⟨ct, hct⟩ : ∃ z : Int, z = if L = [] then 0 else 1 := ⟨_, rfl⟩
        rw [← hct] at hB9
        have e0 : w9.cell? ⟨w6.heap.size, 0, none⟩ = some (.int .i64 ct) := by simpa using hB9.cell 0
        have e1 : w9.cell? ⟨w6.heap.size, 1, none⟩ = some (.int .i64 ct) := by simpa using hB9.cell 1
        have e2 : w9.cell? ⟨w6.heap.size, 2, none⟩ = some (.int .i64 ct) := by simpa using hB9.cell 2
        have e3 : w9.cell? ⟨w6.heap.size, 3, none⟩ = some (.int .i64 ct) := by simpa using hB9.cell 3
        have e4 : w9.cell? ⟨w6.heap.size, 4, none⟩ = some (.int .i64 ct) := by simpa using hB9.cell 4
        have e5 : w9.cell? ⟨w6.heap.size, 5, none⟩ = some (.int .i64 ct) := by simpa using hB9.cell 5
        have e6 : w9.cell? ⟨w6.heap.size, 6, none⟩ = some (.int .i64 ct) := by simpa using hB9.cell 6
        have e7 : w9.cell? ⟨w6.heap.size, 7, none⟩ = some (.int .i64 ct) := by simpa using hB9.cell 7
        have HJX := Lib.hid (fun (j : Nat) (hj : j < 8) (W : World) => ix_nv8 (fun _ => ct) hj W)
        have hac : (0 < N9 ∧ ct = 1) ∨ (N9 = 0 ∧ ct = 0) := by
          cases L with
          | nil => exact .inr ⟨hN9, by rw [hct]; simp⟩
          | cons h t => exact .inl ⟨by rw [hN9]; simp, by rw [hct]; simp⟩
        clear hN9 hB9 hb9 hb0r hB hb HOR hct
        rcases hac with ⟨h9, rfl⟩ | ⟨rfl, rfl⟩
        · have h9' : (0 : Int) < (N9 : Int) := by omega
          go_wp2_with fail
          clear e0 e1 e2 e3 e4 e5 e6 e7
          go_loopw [82] (fun jv wr => ∃ j : Nat, jv = .int .i64 j ∧ j ≤ 8 ∧ wr = w9) (fun jv _ => 8 - (intOf jv).toNat)
          case atStart => exact ⟨0, rfl, by omega, rfl⟩
          case round =>
            obtain ⟨j, rfl, hj, rfl⟩ := hrel
            by_cases hj8 : j < 8
            · have hj8' : (j : Int) < 8 := by omega
              have hix := HJX.out j hj8
              go_wp2
              go_roundw
              case rel => exact ⟨j + 1, by go_num, by omega, by trivial⟩
              case measure => simp [intOf]; omega
            · have hj8' : ¬ (j : Int) < 8 := by omega
              go_wp2
              go_ret
              exact ⟨rfl, hb09⟩
        · go_wp2_with fail
          clear e0 e1 e2 e3 e4 e5 e6 e7
          go_loopw [82] (fun jv wr => ∃ j : Nat, jv = .int .i64 j ∧ j ≤ 8 ∧ wr = w9) (fun jv _ => 8 - (intOf jv).toNat)
          case atStart => exact ⟨0, rfl, by omega, rfl⟩
          case round =>
            obtain ⟨j, rfl, hj, rfl⟩ := hrel
            by_cases hj8 : j < 8
            · have hj8' : (j : Int) < 8 := by omega
              have hix := HJX.out j hj8
              go_wp2
              go_roundw
              case rel => exact ⟨j + 1, by go_num, by omega, by trivial⟩
              case measure => simp [intOf]; omega
            · have hj8' : ¬ (j : Int) < 8 := by omega
              go_wp2
              go_ret
              exact ⟨rfl, hb09⟩
end Go.Proofs.Ytdgmbopdommnhaa
