/- What WindowMeans comes to. -/
import Derived.Test.YtodlifbhpgphcaaWinAlive
import Derived.Test.YtodlifbhpgphcaaWinMns
import Derived.Test.YtodlifbhpgphcaaWinLohX
import Derived.Test.YtodlifbhpgphcaaEvCut
namespace Go.Proofs.Ytodlifbhpgphcaa
set_option linter.unusedVariables false
set_option linter.unusedSimpArgs false
open Go.ChangeShapes Go.WideShapes Go.ChangeAt Go.RowKit

theorem box4M {w w' : World} {t : TypeId} {a b c d : Value} (hb : Below (w.alloc (.cells #[a, b, c, d] t)).heap.size (w.alloc (.cells #[a, b, c, d] t)) w') :
    w'.cell? ⟨w.heap.size, 0, none⟩ = some a ∧ w'.cell? ⟨w.heap.size, 1, none⟩ = some b ∧ w'.cell? ⟨w.heap.size, 2, none⟩ = some c ∧ w'.cell? ⟨w.heap.size, 3, none⟩ = some d := by
  have h := (Blo.made w t #[a, b, c, d]).new hb
  exact ⟨h.cell 0, h.cell 1, h.cell 2, h.cell 3⟩

theorem plain_get {a b : List EvV} (h : plain a = plain b) {j : Nat} (ha : j < a.length) (hb : j < b.length) : a[j].F = b[j].F := by
  have h1 : (plain a)[j]? = (plain b)[j]? := by rw [h]
  simp [plain, ha, hb] at h1
  exact h1.1
theorem evs_set {l : List EvV} {t k : Nat} (ht : t < l.length) (hk : k < 14) {e' : EvV} {u : Value} (hu : e'.cells[k]? = some u) (ho : ∀ b, b < 14 → b ≠ k → e'.cells[b]? = l[t].cells[b]?) : (evs l).set (t * 14 + k) u = evs (l.set t e') := by
  apply List.ext_getElem?
  intro p
  by_cases hp : p < l.length * 14
  · have hat := evs_at (l.set t e') (p / 14) (by simp; omega) (p % 14) (by omega)
    have hat0 := evs_at l (p / 14) (by omega) (p % 14) (by omega)
    rw [show p / 14 * 14 + p % 14 = p by omega] at hat hat0
    rw [hat, List.getElem?_set]
    by_cases hpk : t * 14 + k = p
    · have h1 : p / 14 = t := by omega
      have h2 : p % 14 = k := by omega
      rw [if_pos hpk, if_pos (by rw [evs_len]; omega), List.getElem_set, if_pos h1.symm, h2, hu]
    · rw [if_neg hpk, hat0, List.getElem_set]
      by_cases h1 : t = p / 14
      · rw [if_pos h1, ho (p % 14) (by omega) (by omega)]
        simp only [h1]
      · rw [if_neg h1]
  · rw [List.getElem?_eq_none (by rw [List.length_set, evs_len]; omega), List.getElem?_eq_none (by rw [evs_len, List.length_set]; omega)]

set_option maxRecDepth 100000 in
set_option maxHeartbeats 8000000 in
theorem winmeans_main (A : Option Addr) (n c : Nat) (vs : List Int) (sz t d : Int) (w : World) (hn : vs.length = n) (hr : Rds w (· < w.heap.size) A (vs.map (Value.int .u16))) (hv : ∀ x ∈ vs, 0 ≤ x ∧ x < 65536) (hz0 : 0 ≤ sz) (hz1 : sz < 256) (ht0 : 0 ≤ t) (ht1 : t < 256) (hd0 : 0 ≤ d) (hd1 : d < 65536) (hcm : n ≤ maxLen) :
    Calls Try.prog 5 #[.agg #[.slice A n c, .int .u8 sz, .int .u8 t, .int .u16 d]] w fun e w' => e = .returned (.bool true) ∧ Below w.heap.size w w' := by
  have HN := Lib.hid hn
  have HR := Lib.hid hr
  have HV := Lib.hid hv
  unfold maxLen at hcm
  clear hn hr hv
  have hB0 : Below w.heap.size w (w.alloc (.cells #[.slice A n c, .int .u8 sz, .int .u8 t, .int .u16 d] 51)) := (Below.refl _ _).alloc (Nat.le_refl _) _
  go_enter Try.func5, Try.ntmps5
  go_wp2_with fail
  refine (winalive_any _).mono ?_
  rintro e w1 ⟨rfl, hb⟩
  obtain ⟨c0, c1, c2, c3⟩ := box4M hb
  have hB := below_new hB0 hb
  clear hb hB0
  go_wp2_with fail
  go_quiet (fail)
  obtain ⟨w2, hd, hW⟩ : ∃ W, Drew w1 W ∧ w1.drewN nq = W := ⟨_, ⟨nq, rfl⟩, rfl⟩
  rw [hW]
  have hb02 := hB.trans (hd.below _)
  clear hW hd hB c0 c1 c2 c3
  by_cases hn0 : n = 0
  · subst hn0
    have hn1 : (((0 : Nat) : Int) == 0) = true := by simp
    go_wp2
    go_ret
    exact ⟨rfl, hb02⟩
  have hn1 : ((n : Int) == 0) = false := by simp; omega
  have hn2 : ¬ (n : Int) = 0 := by omega
  by_cases h40 : 40 < n
  · have h40' : (40 : Int) < (n : Int) := by omega
    go_wp2
    go_ret
    exact ⟨rfl, hb02⟩
  have h40' : ¬ (40 : Int) < (n : Int) := by omega
  by_cases hsz : sz = 0
  · subst hsz
    have hs1 : ((0 : Int) == 0) = true := by simp
    go_wp2
    go_ret
    exact ⟨rfl, hb02⟩
  have hs1 : (sz == 0) = false := by simpa using hsz
  have h9 : n ≤ 40 := by omega
  have hb2s := hb02.size
  go_wp2_with fail
  clear hn1 hn2 h40 h40' hs1 hcm
  go_loopw [7, 43] (fun lv iv wr => ∃ (i : Nat) (Ao : Option Addr) (co : Nat), iv = .int .i64 i ∧ i ≤ n ∧ lv = .slice Ao i co ∧ EOwn wr (fun _ => True) w2.heap.size (.slice Ao i co) (mkS 0 (vs.take i)) ∧ Below w2.heap.size w2 wr) (fun _ iv _ => n - (intOf iv).toNat)
  case atStart => exact ⟨0, none, 0, rfl, by omega, rfl, EOwn.nil _ _ _, Below.refl _ _⟩
  case round =>
    obtain ⟨i, Ao, co, rfl, hi, rfl, hO, hbr⟩ := hrel
    have hb0r := below_new hb02 hbr
    by_cases hlt : i < n
    · have hlt' : i < vs.length := by rw [HN.out]; exact hlt
      have hiN : (i : Int) < (n : Int) := by omega
      obtain ⟨ad, rfl, _, hx⟩ := (HR.out.below hb0r (fun b hb _ => hb)).at (j := i) (by simpa using hlt')
      obtain ⟨x, hxx⟩ : ∃ x, x = vs[i] := ⟨_, rfl⟩
      rw [List.getElem_map, ← hxx] at hx
      have hxb : 0 ≤ x ∧ x < 65536 := by rw [hxx]; exact HV.out _ (List.getElem_mem hlt')
      have HMK : Hid (mkS 0 (vs.take (i + 1)) = mkS 0 (vs.take i) ++ [smE ((i : Int) + 1) x]) := Lib.hid (by rw [mkS_take hlt', hxx])
      have HML : Hid ((mkS 0 (vs.take i)).length = i) := Lib.hid (by rw [mkS_len, List.length_take]; omega)
      have hsm := sample_any 3 ((i : Int) + 1) x wr
      rw [sF_ev] at hsm
      have ew : IntKind.i64.wrap ((i : Int) + 1) = (i : Int) + 1 := IntWalk.i64_in _ (by omega)
      have ex : IntKind.i64.wrap x = x := IntWalk.i64_in _ (by omega)
      obtain ⟨m, hm⟩ : ∃ m, m = mkS 0 (vs.take i) := ⟨_, rfl⟩
      rw [← hm] at hO HMK HML
      clear hxx hm
      go_wp2_with fail
      refine hsm.mono ?_
      rintro e w3 ⟨rfl, hb3⟩
      have hO3 := hO.new hb3
      have hb23 := below_new hbr hb3
      have hlit := blo_ers (smE ((i : Int) + 1) x) (Blo.made w3 46 (EvV.cells (smE ((i : Int) + 1) x)))
      have hec : EvV.cells (smE ((i : Int) + 1) x) = #[.int .i64 3, .int .i64 ((i : Int) + 1), .int .i64 1, .int .i64 1, .int .i64 0, .int .i64 x, .int .i64 0, .int .i64 0, .int .i64 0, .int .i64 0, .int .i64 0, .int .i64 0, .int .i64 0, .slice none 0 0] := rfl
      rw [hec] at hlit
      clear hsm hec hO hbr hx
      go_wp2_with (at_builtin; refine wpList_eapp _ rfl _ _ rfl w2.heap.size _ m rfl (hO3.new (b_alloc _ _)).row (fun _ => True) _ 1 1 [smE ((i : Int) + 1) x] rfl rfl hlit (by rw [HML.out]; omega) (by have := hb23.size; simp; omega) ?_)
      intro v6 w6 hrow6 hg6 hv6
      have hO6 := (hO3.new (b_alloc _ _)).snoc hrow6 hg6 (by simpa using hv6) Rds.nil
      have hb6 : Below w2.heap.size w2 w6 := by
        have h1 := below_new hb23 (b_alloc w3 (.cells #[.int .i64 3, .int .i64 ((i : Int) + 1), .int .i64 1, .int .i64 1, .int .i64 0, .int .i64 x, .int .i64 0, .int .i64 0, .int .i64 0, .int .i64 0, .int .i64 0, .int .i64 0, .int .i64 0, .slice none 0 0] 46))
        exact h1.grown hg6 h1.size (fun k hk => (hO3.row.lt k hk).1)
      obtain ⟨A6, c6, rfl, _⟩ := hrow6.form
      have hl6 : (m ++ [smE ((i : Int) + 1) x]).length = i + 1 := by simp [HML.out]
      rw [hl6, ← HMK.out] at hO6
      rw [hl6]
      clear hrow6 hg6 hv6 hlit hO3 hl6 HML HMK
      go_wp2
      go_roundw
      case rel => exact ⟨i + 1, A6, c6, by go_num, by omega, rfl, hO6, hb6⟩
      case measure => simp [intOf]; omega
    · obtain rfl : i = n := by omega
      have hlt2 : ¬ ((i : Int) < (i : Int)) := by omega
      rw [List.take_of_length_le (by rw [HN.out]; exact Nat.le_refl _)] at hO
      have HML : Hid ((mkS 0 vs).length = i) := Lib.hid (by rw [mkS_len]; exact HN.out)
      have HME : Hid (∀ e ∈ mkS 0 vs, e.M.length ≤ 1000000) := Lib.hid (fun e he => by
        obtain ⟨sq, v, rfl, _⟩ := mkS_mem he
        simp [smE])
      have esz : IntKind.i64.wrap sz = sz := IntWalk.i64_in _ (by omega)
      have HOF := Lib.hid (pof_any (fun _ => True) Ao i co (mkS 0 vs) 0 3 sz wr HML.out hO.erds (by omega) HME.out)
      go_wp2_with fail
      refine HOF.out.mono ?_
      rintro e w3 ⟨A3, N3, c3, m3, rfl, hN3, hp3, hR3, hb3⟩
      have hN3z : N3 = min sz.toNat i := by rw [hN3, ← plain_len, hp3, plain_len, newQ_mkS, List.length_take, List.length_reverse, mkS_len, HN.out]
      -- the ways
      have hN3b : N3 ≤ 40 := by omega
      have HR3 := Lib.hid (hR3.mono (S' := fun _ => True) (fun _ _ => trivial))
      have HN3 := Lib.hid hN3
      have HP3 := Lib.hid hp3
      have HO := Lib.hid (hO.new hb3)
      have hb23 := below_new hbr hb3
      have hNz : 0 < N3 := by omega
      clear hR3 hN3 hp3 hO hbr hb0r hb3 HOF
      by_cases hsn : sz < (i : Int)
      · have hmm : ((N3 : Int) != sz) = false := by simp; omega
        clear hN3z
        go_wp2_with fail
        go_loopw [11, 12, 71] (fun av bv iv wr => ∃ (j : Nat) (lo hi : Int), iv = .int .i64 j ∧ j ≤ N3 ∧ av = .int .i64 lo ∧ bv = .int .i64 hi ∧ Hid (∀ y ∈ (nwV vs sz.toNat).take j, lo ≤ y ∧ y ≤ hi) ∧ Below w3.heap.size w3 wr) (fun _ _ iv _ => N3 - (intOf iv).toNat)
        case atStart => exact ⟨0, 1048576, 0, rfl, by omega, rfl, rfl, Lib.hid (fun y hy => by cases hy), Below.refl _ _⟩
        case round =>
          obtain ⟨j, lo, hi', rfl, hj, rfl, rfl, HLH, hb3r⟩ := hrel
          by_cases hlt : j < N3
          · have hlt' : j < m3.length := by rw [← HN3.out]; exact hlt
            have hjN : (j : Int) < (N3 : Int) := by omega
            obtain ⟨am, rfl, _, _, c0, c1, c2, c3, c4, c5, c6, c7, c8, c9, c10, c11, c12, c13⟩ := (HR3.out.new hb3r).cells hlt'
            have hjq : j < (newQ 0 3 sz (mkS 0 vs)).length := by rw [← plain_len, ← HP3.out, plain_len]; exact hlt'
            have hFq : m3[j].F = (newQ 0 3 sz (mkS 0 vs))[j].F := plain_get HP3.out hlt' hjq
            have hF1 : m3[j].F 1 = (i : Int) - j := by rw [hFq, newQ_seq hjq, HN.out]
            have hF5 : ∃ h : j < (nwV vs sz.toNat).length, m3[j].F 5 = (nwV vs sz.toNat)[j] := by
              have hl : j < (nwV vs sz.toNat).length := by rw [← newQ_vals, List.length_map]; exact hjq
              refine ⟨hl, ?_⟩
              rw [hFq]
              have : ∀ (q : List Int) (h : j < q.length), q = (newQ 0 3 sz (mkS 0 vs)).map (fun e => e.F 5) → (newQ 0 3 sz (mkS 0 vs))[j].F 5 = q[j] := by
                intro q h hq
                subst hq
                rw [List.getElem_map]
              exact this _ hl (newQ_vals vs sz).symm
            obtain ⟨x, hx⟩ : ∃ x, x = m3[j] := ⟨_, rfl⟩
            rw [← hx] at c0 c1 c2 c3 c4 c5 c6 c7 c8 c9 c10 c11 c12 c13 hF1 hF5
            obtain ⟨F, M, Ax, cx⟩ := x
            simp only at c0 c1 c2 c3 c4 c5 c6 c7 c8 c9 c10 c11 c12 c13 hF1 hF5
            obtain ⟨q, hq⟩ : ∃ q, M.length = q := ⟨_, rfl⟩
            rw [hq] at c13
            obtain ⟨w4, hw4⟩ : ∃ W, wr.alloc (.cells (ecs F Ax q cx) 46) = W := ⟨_, rfl⟩
            have hb4 : Below wr.heap.size wr w4 := by rw [← hw4]; exact b_alloc _ _
            obtain ⟨ge, hge⟩ : ∃ g, g = wr.heap.size := ⟨_, rfl⟩
            have hE4 : Blo w4 ge 46 (ecs F Ax q cx) := by rw [← hw4, hge]; exact Blo.made _ _ _
            have hb34 := below_new hb3r hb4
            have hne : (F 1 != (i : Int) - (j : Int)) = false := by rw [hF1]; simp
            have ew : IntKind.i64.wrap ((i : Int) - (j : Int)) = (i : Int) - (j : Int) := IntWalk.i64_in _ (by omega)
            obtain ⟨lo2, hlo⟩ : ∃ z, z = if F 5 < lo then F 5 else lo := ⟨_, rfl⟩
            obtain ⟨hi2, hhi⟩ : ∃ z, z = if hi' < F 5 then F 5 else hi' := ⟨_, rfl⟩
            have HL2 : Hid (∀ y ∈ (nwV vs sz.toNat).take (j + 1), lo2 ≤ y ∧ y ≤ hi2) := Lib.hid (by
              obtain ⟨hl, h5⟩ := hF5
              rw [List.take_succ_eq_append_getElem hl, ← h5]
              have a1 : lo2 ≤ F 5 ∧ lo2 ≤ lo := by rw [hlo]; split <;> omega
              have a2 : F 5 ≤ hi2 ∧ hi' ≤ hi2 := by rw [hhi]; split <;> omega
              intro y hy
              rcases List.mem_append.1 hy with hy | hy
              · have := HLH.out y hy
                omega
              · simp at hy
                subst hy
                omega)
            have HX0 : Hid (∀ f : Nat → Value, f 11 = .int .i64 lo → f 12 = .int .i64 hi' → LohX w4 ge (ecs F Ax q cx) lo hi' lo2 hi2 (fun _ => false) f w4) := Lib.hid (fun f h1 h2 => ⟨Below.refl _ _, hE4, fun _ => h1, fun _ => h2, fun e => (by cases e), fun e => (by cases e)⟩)
            have HLO := Lib.hid hlo
            have HHI := Lib.hid hhi
            have HW4 := Lib.hid hw4
            have HGE := Lib.hid hge
            clear hFq hF1 hF5 hx hq hw4 hge hb3r hb4 hE4 hlo hhi HLH
            go_wp2_with fail
            rw [HW4.out, ← HGE.out]
            refine wp_famZ (size := 146) (D := [84, 85, 86, 87, 88, 89, 90, 91, 11, 12]) [0, 2, 4, 6, 8, 9] [11, 12] [(84, isV (.int .i64 lo)), (85, isV (.pointer (some ⟨ge, 5, none⟩))), (86, isV (.int .i64 (F 5))), (87, isV (.int .i64 lo2)), (88, isV (.int .i64 hi')), (89, isV (.pointer (some ⟨ge, 5, none⟩))), (90, isV (.int .i64 (F 5))), (91, isV (.int .i64 hi2))] (LohX w4 ge (ecs F Ax q cx) lo hi' lo2 hi2) LohX.up (by kernel_rfl) (by rfl) (by kernel_rfl) (HX0.out _ rfl rfl) ?_ ?_
            · simp only [famAllZ]
              repeat' apply And.intro
              · rw [if_pos (by decide)]
                intro L f W hi0 hcl hwt hX hl
                simp [Oper.looksAt, Op.operands, Call.operands, famAt, famOf, isV] at hl
                have e1 := hX.2.2.1 hi0
                simp [famWants, boolIs_bool, boolIs_undef, execOp, rho, go_sem, hl, e1, famUpon, famOf, isV]
                exact hX.rd0
              · rw [if_neg (by decide)]
                intro f W hl
                simp [Oper.looksAt, Op.operands, Call.operands, famAt, famOf, isV] at hl
                simp [famWants, boolIs_bool, boolIs_undef, execOp, rho, go_sem, hl, famUpon, famOf, isV, Grows.refl]
              · rw [if_pos (by decide)]
                intro L f W hi0 hcl hwt hX hl
                simp [Oper.looksAt, Op.operands, Call.operands, famAt, famOf, isV] at hl
                obtain ⟨z0, z1, z2, z3, z4, z5, z6, z7, z8, z9, z10, z11, z12, z13⟩ := set14 hX.2.1
                have hps := hX.pass (k := 2) (s := 86) (v := .int .i64 (F 5)) (by decide) (by decide)
                simp [famWants, boolIs_bool, boolIs_undef, execOp, rho, go_sem, hl, z5, famUpon, famOf, isV]
                exact hps
              · rw [if_neg (by decide)]
                intro f W hl
                have hq2 := HLO.out
                simp [Oper.looksAt, Op.operands, Call.operands, famAt, famOf, isV] at hl
                simp [famWants, boolIs_bool, boolIs_undef, execOp, rho, go_sem, hl, famUpon, famOf, isV, Grows.refl]
                rw [hq2]
                try (split <;> simp_all)
              · rw [if_pos (by decide)]
                intro L f W hi0 hcl hwt hX hl
                simp [Oper.looksAt, Op.operands, Call.operands, famAt, famOf, isV] at hl
                have e1 := hX.2.2.2.1 hi0
                simp [famWants, boolIs_bool, boolIs_undef, execOp, rho, go_sem, hl, e1, famUpon, famOf, isV]
                exact hX.rd4
              · rw [if_neg (by decide)]
                intro f W hl
                simp [Oper.looksAt, Op.operands, Call.operands, famAt, famOf, isV] at hl
                simp [famWants, boolIs_bool, boolIs_undef, execOp, rho, go_sem, hl, famUpon, famOf, isV, Grows.refl]
              · rw [if_pos (by decide)]
                intro L f W hi0 hcl hwt hX hl
                simp [Oper.looksAt, Op.operands, Call.operands, famAt, famOf, isV] at hl
                obtain ⟨z0, z1, z2, z3, z4, z5, z6, z7, z8, z9, z10, z11, z12, z13⟩ := set14 hX.2.1
                have hps := hX.pass (k := 6) (s := 90) (v := .int .i64 (F 5)) (by decide) (by decide)
                simp [famWants, boolIs_bool, boolIs_undef, execOp, rho, go_sem, hl, z5, famUpon, famOf, isV]
                exact hps
              · rw [if_neg (by decide)]
                intro f W hl
                have hq2 := HHI.out
                simp [Oper.looksAt, Op.operands, Call.operands, famAt, famOf, isV] at hl
                simp [famWants, boolIs_bool, boolIs_undef, execOp, rho, go_sem, hl, famUpon, famOf, isV, Grows.refl]
                rw [hq2]
                try (split <;> simp_all)
              · rw [if_pos (by decide)]
                intro L f W hi0 hcl hwt hX hl
                simp [Oper.looksAt, Op.operands, Call.operands, famAt, famOf, isV] at hl
                have h3 : L 3 = true := hwt 3 (by kernel_rfl)
                have h0 : L 0 = true := hcl 3 0 (by kernel_rfl) h3
                simp [famWants, boolIs_bool, boolIs_undef, execOp, rho, go_sem, hl, famUpon, famOf, isV]
                exact hX.st8 h0
              · rw [if_pos (by decide)]
                intro L f W hi0 hcl hwt hX hl
                simp [Oper.looksAt, Op.operands, Call.operands, famAt, famOf, isV] at hl
                have h3 : L 7 = true := hwt 7 (by kernel_rfl)
                have h0 : L 4 = true := hcl 7 4 (by kernel_rfl) h3
                simp [famWants, boolIs_bool, boolIs_undef, execOp, rho, go_sem, hl, famUpon, famOf, isV]
                exact hX.st9 h0
              · trivial
            · intro L u V hL hX hu
              have e11 := hX.2.2.2.2.1 (hL 8 (by decide))
              have e12 := hX.2.2.2.2.2 (hL 9 (by decide))
              have hgV := hX.1
              simp only [fill, Act.put, List.setIfInBounds_toArray, List.set_cons_zero, List.set_cons_succ, e11, e12]
              refine wpList_nil ?_
              have hbV := below_new hb34 hgV
              clear hu hL hX e11 e12 hgV HX0
              go_wp2
              go_roundw
              case rel => exact ⟨j + 1, lo2, hi2, by go_num, by omega, rfl, rfl, HL2, hbV⟩
              case measure => simp [intOf]; omega
          · obtain rfl : j = N3 := by omega
            obtain ⟨tt, rfl⟩ := Int.eq_ofNat_of_zero_le ht0
            have hb23r := below_new hb23 hb3r
            have HNL : Hid ((nwV vs sz.toNat).length = j) := Lib.hid (by rw [← newQ_vals, List.length_map, ← plain_len, ← HP3.out, plain_len, ← HN3.out])
            have hall : ∀ y ∈ nwV vs sz.toNat, lo ≤ y ∧ y ≤ hi' := by
              have h := HLH.out
              rwa [List.take_of_length_le (by rw [HNL.out]; exact Nat.le_refl _)] at h
            obtain ⟨nn, hnn⟩ : ∃ x, x = S.up (nwV vs sz.toNat).sum ((nwV vs sz.toNat).length : Nat) := ⟨_, rfl⟩
            have hbt : lo ≤ nn ∧ nn ≤ hi' := by rw [hnn]; exact up_between hall (by rw [HNL.out]; exact hNz)
            have HNN := Lib.hid hnn
            have HVS : Hid (∀ x ∈ vs, 0 ≤ x ∧ x ≤ 200000) := Lib.hid (fun x hx => by have := HV.out x hx; omega)
            have HMQ : Hid (meanQ (newQ 0 3 sz (mkS 0 vs)) = (nn, true)) := Lib.hid (by rw [mean_mkS HVS.out (by rw [HN.out]; exact h9) (by rw [HN.out]; omega) (by omega), ← hnn])
            have hpm := pmean_any (fun _ => True) Ao i co (mkS 0 vs) 0 3 sz wr HML.out (HO.out.new hb3r).erds (by omega) HME.out
            rw [HMQ.out] at hpm
            unfold meanV at hpm
            have HPM := Lib.hid hpm
            have HO3 := Lib.hid (HO.out.new hb3r)
            clear hall hnn hpm HLH hb23 hb3r
            have hg1 : ¬ nn < lo := by omega
            have hg2 : ¬ hi' < nn := by omega
            by_cases hlh : lo = hi'
            · subst hlh
              obtain rfl : nn = lo := by omega
              have hq1 : (nn == nn) = true := by simp
              have hq2 : (nn != nn) = false := by simp
              go_wp2_with fail
              refine HPM.out.mono ?_
              rintro e w5 ⟨rfl, hb5⟩
              have hb25 := below_new hb23r hb5
              have hb05 := below_new hb02 hb25
              have hO5 := HO3.out.new hb5
              obtain ⟨g, e9, hgB⟩ : ∃ g, Ao = some ⟨g, 0, none⟩ ∧ w2.heap.size ≤ g := by
                rcases hO5.row.2 with ⟨e, h0⟩ | ⟨g, cap, cur, e, hb, _⟩
                · rw [HML.out] at h0; omega
                · injection e with e1 e2 e3
                  exact ⟨g, e1, hb⟩
              subst e9
              obtain ⟨ix, hix⟩ : ∃ x : Nat, x = tt % i := ⟨_, rfl⟩
              have hixn : ix < i := by rw [hix]; exact Nat.mod_lt _ (by omega)
              have em : (tt : Int) % (i : Int) = (ix : Int) := by rw [hix]; simp
              have et : IntKind.i64.wrap (tt : Int) = (tt : Int) := IntWalk.i64_in _ (by omega)
              have ej : IntKind.i64.wrap (ix : Int) = (ix : Int) := IntWalk.i64_in _ (by omega)
              have ed : IntKind.i64.wrap d = d := IntWalk.i64_in _ (by omega)
              have hixv : ix < vs.length := by rw [HN.out]; exact hixn
              have hixm : ix < (mkS 0 vs).length := by rw [HML.out]; exact hixn
              obtain ⟨gd, hgd⟩ : ∃ p : Addr, p = ⟨g, 0, none⟩ := ⟨_, rfl⟩
              obtain ⟨ad, e8, -, -, yk, -⟩ := hO5.erds.ev hixm
              injection e8 with e8
              subst e8
              have hmk : (mkS 0 vs)[ix] = smE (((0 : Nat) : Int) + ix + 1) vs[ix] := mkS_get 0 vs ix hixm hixv
              obtain ⟨x0, hx0⟩ : ∃ x, x = vs[ix] := ⟨_, rfl⟩
              have hx0b : 0 ≤ x0 ∧ x0 < 65536 := by rw [hx0]; exact HV.out _ (List.getElem_mem hixv)
              have hce := yk 5 (.int .i64 x0) (by omega) (by rw [hmk, hx0]; rfl)
              have hea : (⟨((⟨g, 0, none⟩ : Addr).add (ix * 14)).block, ((⟨g, 0, none⟩ : Addr).add (ix * 14)).off + 5, none⟩ : Addr) = ⟨g, ix * 14 + 5, none⟩ := by rw [M.addMk]; simp
              have hrw : w5.ownsRow w2.heap.size 46 14 (.slice (some ⟨g, 0, none⟩) (mkS 0 vs).length co) (mkS 0 vs).length (evs (mkS 0 vs)) := by
                have h := hO5.row
                rw [← HML.out] at h
                exact h
              have hfr : w5.frozen? ⟨((⟨g, 0, none⟩ : Addr).add (ix * 14)).block, ((⟨g, 0, none⟩ : Addr).add (ix * 14)).off + 5, none⟩ = false := by rw [hea]; exact hrw.frozenAt _
              have ewx : IntKind.i64.wrap (x0 + d) = x0 + d := IntWalk.i64_in _ (by omega)
              obtain ⟨w6, hw6⟩ : ∃ W, w5.setCell ⟨((⟨g, 0, none⟩ : Addr).add (ix * 14)).block, ((⟨g, 0, none⟩ : Addr).add (ix * 14)).off + 5, none⟩ (.int .i64 (x0 + d)) = W := ⟨_, rfl⟩
              have hst := hrw.stored (ix * 14 + 5) (.int .i64 (x0 + d))
              rw [← hea, hw6] at hst
              have hO6 : ERds w6 (fun _ => True) (some ⟨g, 0, none⟩) (mkS 0 (vs.set ix (vs[ix] + d))) := by
                have h1 := hst.1
                have hes : (evs (mkS 0 vs)).set (ix * 14 + 5) (.int .i64 (x0 + d)) = evs (mkS 0 (vs.set ix (vs[ix] + d))) := by
                  rw [mkS_set 0 vs ix _ hixv]
                  refine evs_set hixm (by omega) (by rw [← hx0]; rfl) (fun b hb hb5 => ?_)
                  rw [hmk]
                  match b, hb, hb5 with
                  | 0, _, _ => rfl
                  | 1, _, _ => rfl
                  | 2, _, _ => rfl
                  | 3, _, _ => rfl
                  | 4, _, _ => rfl
                  | 6, _, _ => rfl
                  | 7, _, _ => rfl
                  | 8, _, _ => rfl
                  | 9, _, _ => rfl
                  | 10, _, _ => rfl
                  | 11, _, _ => rfl
                  | 12, _, _ => rfl
                  | 13, _, _ => rfl
                rw [hes] at h1
                have h2 : ERow w6 w2.heap.size (.slice (some ⟨g, 0, none⟩) (mkS 0 vs).length co) (mkS 0 (vs.set ix (vs[ix] + d))) := by
                  unfold ERow
                  have hl : (mkS 0 (vs.set ix (vs[ix] + d))).length = (mkS 0 vs).length := by rw [mkS_len, mkS_len, List.length_set]
                  rw [hl]; exact h1
                exact ⟨h2.rds.mono fun _ _ => trivial, fun e he => by
                  obtain ⟨sq, v, rfl, _⟩ := mkS_mem he
                  exact Rds.nil⟩
              have hb06 : Below w.heap.size w w6 := hb05.grown hst.2 hb05.size (fun k hk => by
                have h1 := hb02.size
                injection hk with hk
                omega)
              have hlen2 : (mkS 0 (vs.set ix (vs[ix] + d))).length = i := by rw [mkS_len, List.length_set]; exact HN.out
              have hV2 : ∀ x ∈ vs.set ix (vs[ix] + d), 0 ≤ x ∧ x ≤ 200000 := fun x hx => by
                rcases List.mem_or_eq_of_mem_set hx with h | h
                · exact HVS.out x h
                · rw [h, ← hx0]; omega
              obtain ⟨n2, hn2⟩ : ∃ x, x = S.up (nwV (vs.set ix (vs[ix] + d)) sz.toNat).sum ((nwV (vs.set ix (vs[ix] + d)) sz.toNat).length : Nat) := ⟨_, rfl⟩
              have hge : nn ≤ n2 := by rw [HNN.out, hn2]; exact up_more hixv hd0 (by rw [HNL.out]; exact hNz)
              have hm2 : meanQ (newQ 0 3 sz (mkS 0 (vs.set ix (vs[ix] + d)))) = (n2, true) := by rw [mean_mkS hV2 (by rw [List.length_set, HN.out]; exact h9) (by rw [List.length_set, HN.out]; omega) (by omega), ← hn2]
              have hp2 := pmean_any (fun _ => True) (some ⟨g, 0, none⟩) i co (mkS 0 (vs.set ix (vs[ix] + d))) 0 3 sz w6 hlen2 hO6 (by omega) (fun e he => by
                obtain ⟨sq, v, rfl, _⟩ := mkS_mem he
                simp [smE])
              rw [hm2] at hp2
              unfold meanV at hp2
              have HP2 := Lib.hid hp2
              have HW6 := Lib.hid hw6
              have hpt : 0 ≤ (ix : Int) ∧ (ix : Int) < (i : Int) := by omega
              have htt : ((ix : Int)).toNat = ix := by omega
              have hi0 : ¬ (i : Int) = 0 := by omega
              rw [← hgd] at hce hfr hw6 HW6 HP2 ⊢
              clear hst hO6 hrw hea hmk hx0 yk hO5 hb5 hb25 hb05 hp2 hm2 hn2 hV2 hlen2 hix hixv hixm hw6 hgd
              go_wp2_with fail
              rw [HW6.out]
              refine HP2.out.mono ?_
              rintro e w7 ⟨rfl, hb7⟩
              have hbf := below_new hb06 hb7
              clear HP2 hb7
              have hgd2 : decide (nn ≤ n2) = true := by simpa using hge
              go_wp2
              go_ret
              exact ⟨rfl, hbf⟩
            · have hq1 : (lo == hi') = false := by simpa using hlh
              go_wp2_with fail
              refine HPM.out.mono ?_
              rintro e w5 ⟨rfl, hb5⟩
              have hb25 := below_new hb23r hb5
              have hb05 := below_new hb02 hb25
              have hO5 := HO3.out.new hb5
              obtain ⟨g, e9, hgB⟩ : ∃ g, Ao = some ⟨g, 0, none⟩ ∧ w2.heap.size ≤ g := by
                rcases hO5.row.2 with ⟨e, h0⟩ | ⟨g, cap, cur, e, hb, _⟩
                · rw [HML.out] at h0; omega
                · injection e with e1 e2 e3
                  exact ⟨g, e1, hb⟩
              subst e9
              obtain ⟨ix, hix⟩ : ∃ x : Nat, x = tt % i := ⟨_, rfl⟩
              have hixn : ix < i := by rw [hix]; exact Nat.mod_lt _ (by omega)
              have em : (tt : Int) % (i : Int) = (ix : Int) := by rw [hix]; simp
              have et : IntKind.i64.wrap (tt : Int) = (tt : Int) := IntWalk.i64_in _ (by omega)
              have ej : IntKind.i64.wrap (ix : Int) = (ix : Int) := IntWalk.i64_in _ (by omega)
              have ed : IntKind.i64.wrap d = d := IntWalk.i64_in _ (by omega)
              have hixv : ix < vs.length := by rw [HN.out]; exact hixn
              have hixm : ix < (mkS 0 vs).length := by rw [HML.out]; exact hixn
              obtain ⟨gd, hgd⟩ : ∃ p : Addr, p = ⟨g, 0, none⟩ := ⟨_, rfl⟩
              obtain ⟨ad, e8, -, -, yk, -⟩ := hO5.erds.ev hixm
              injection e8 with e8
              subst e8
              have hmk : (mkS 0 vs)[ix] = smE (((0 : Nat) : Int) + ix + 1) vs[ix] := mkS_get 0 vs ix hixm hixv
              obtain ⟨x0, hx0⟩ : ∃ x, x = vs[ix] := ⟨_, rfl⟩
              have hx0b : 0 ≤ x0 ∧ x0 < 65536 := by rw [hx0]; exact HV.out _ (List.getElem_mem hixv)
              have hce := yk 5 (.int .i64 x0) (by omega) (by rw [hmk, hx0]; rfl)
              have hea : (⟨((⟨g, 0, none⟩ : Addr).add (ix * 14)).block, ((⟨g, 0, none⟩ : Addr).add (ix * 14)).off + 5, none⟩ : Addr) = ⟨g, ix * 14 + 5, none⟩ := by rw [M.addMk]; simp
              have hrw : w5.ownsRow w2.heap.size 46 14 (.slice (some ⟨g, 0, none⟩) (mkS 0 vs).length co) (mkS 0 vs).length (evs (mkS 0 vs)) := by
                have h := hO5.row
                rw [← HML.out] at h
                exact h
              have hfr : w5.frozen? ⟨((⟨g, 0, none⟩ : Addr).add (ix * 14)).block, ((⟨g, 0, none⟩ : Addr).add (ix * 14)).off + 5, none⟩ = false := by rw [hea]; exact hrw.frozenAt _
              have ewx : IntKind.i64.wrap (x0 + d) = x0 + d := IntWalk.i64_in _ (by omega)
              obtain ⟨w6, hw6⟩ : ∃ W, w5.setCell ⟨((⟨g, 0, none⟩ : Addr).add (ix * 14)).block, ((⟨g, 0, none⟩ : Addr).add (ix * 14)).off + 5, none⟩ (.int .i64 (x0 + d)) = W := ⟨_, rfl⟩
              have hst := hrw.stored (ix * 14 + 5) (.int .i64 (x0 + d))
              rw [← hea, hw6] at hst
              have hO6 : ERds w6 (fun _ => True) (some ⟨g, 0, none⟩) (mkS 0 (vs.set ix (vs[ix] + d))) := by
                have h1 := hst.1
                have hes : (evs (mkS 0 vs)).set (ix * 14 + 5) (.int .i64 (x0 + d)) = evs (mkS 0 (vs.set ix (vs[ix] + d))) := by
                  rw [mkS_set 0 vs ix _ hixv]
                  refine evs_set hixm (by omega) (by rw [← hx0]; rfl) (fun b hb hb5 => ?_)
                  rw [hmk]
                  match b, hb, hb5 with
                  | 0, _, _ => rfl
                  | 1, _, _ => rfl
                  | 2, _, _ => rfl
                  | 3, _, _ => rfl
                  | 4, _, _ => rfl
                  | 6, _, _ => rfl
                  | 7, _, _ => rfl
                  | 8, _, _ => rfl
                  | 9, _, _ => rfl
                  | 10, _, _ => rfl
                  | 11, _, _ => rfl
                  | 12, _, _ => rfl
                  | 13, _, _ => rfl
                rw [hes] at h1
                have h2 : ERow w6 w2.heap.size (.slice (some ⟨g, 0, none⟩) (mkS 0 vs).length co) (mkS 0 (vs.set ix (vs[ix] + d))) := by
                  unfold ERow
                  have hl : (mkS 0 (vs.set ix (vs[ix] + d))).length = (mkS 0 vs).length := by rw [mkS_len, mkS_len, List.length_set]
                  rw [hl]; exact h1
                exact ⟨h2.rds.mono fun _ _ => trivial, fun e he => by
                  obtain ⟨sq, v, rfl, _⟩ := mkS_mem he
                  exact Rds.nil⟩
              have hb06 : Below w.heap.size w w6 := hb05.grown hst.2 hb05.size (fun k hk => by
                have h1 := hb02.size
                injection hk with hk
                omega)
              have hlen2 : (mkS 0 (vs.set ix (vs[ix] + d))).length = i := by rw [mkS_len, List.length_set]; exact HN.out
              have hV2 : ∀ x ∈ vs.set ix (vs[ix] + d), 0 ≤ x ∧ x ≤ 200000 := fun x hx => by
                rcases List.mem_or_eq_of_mem_set hx with h | h
                · exact HVS.out x h
                · rw [h, ← hx0]; omega
              obtain ⟨n2, hn2⟩ : ∃ x, x = S.up (nwV (vs.set ix (vs[ix] + d)) sz.toNat).sum ((nwV (vs.set ix (vs[ix] + d)) sz.toNat).length : Nat) := ⟨_, rfl⟩
              have hge : nn ≤ n2 := by rw [HNN.out, hn2]; exact up_more hixv hd0 (by rw [HNL.out]; exact hNz)
              have hm2 : meanQ (newQ 0 3 sz (mkS 0 (vs.set ix (vs[ix] + d)))) = (n2, true) := by rw [mean_mkS hV2 (by rw [List.length_set, HN.out]; exact h9) (by rw [List.length_set, HN.out]; omega) (by omega), ← hn2]
              have hp2 := pmean_any (fun _ => True) (some ⟨g, 0, none⟩) i co (mkS 0 (vs.set ix (vs[ix] + d))) 0 3 sz w6 hlen2 hO6 (by omega) (fun e he => by
                obtain ⟨sq, v, rfl, _⟩ := mkS_mem he
                simp [smE])
              rw [hm2] at hp2
              unfold meanV at hp2
              have HP2 := Lib.hid hp2
              have HW6 := Lib.hid hw6
              have hpt : 0 ≤ (ix : Int) ∧ (ix : Int) < (i : Int) := by omega
              have htt : ((ix : Int)).toNat = ix := by omega
              have hi0 : ¬ (i : Int) = 0 := by omega
              rw [← hgd] at hce hfr hw6 HW6 HP2 ⊢
              clear hst hO6 hrw hea hmk hx0 yk hO5 hb5 hb25 hb05 hp2 hm2 hn2 hV2 hlen2 hix hixv hixm hw6 hgd
              go_wp2_with fail
              rw [HW6.out]
              refine HP2.out.mono ?_
              rintro e w7 ⟨rfl, hb7⟩
              have hbf := below_new hb06 hb7
              clear HP2 hb7
              have hgd2 : decide (nn ≤ n2) = true := by simpa using hge
              go_wp2
              go_ret
              exact ⟨rfl, hbf⟩
      · have hmm : ((N3 : Int) != (i : Int)) = false := by simp; omega
        clear hN3z
        go_wp2_with fail
        go_loopw [11, 12, 71] (fun av bv iv wr => ∃ (j : Nat) (lo hi : Int), iv = .int .i64 j ∧ j ≤ N3 ∧ av = .int .i64 lo ∧ bv = .int .i64 hi ∧ Hid (∀ y ∈ (nwV vs sz.toNat).take j, lo ≤ y ∧ y ≤ hi) ∧ Below w3.heap.size w3 wr) (fun _ _ iv _ => N3 - (intOf iv).toNat)
        case atStart => exact ⟨0, 1048576, 0, rfl, by omega, rfl, rfl, Lib.hid (fun y hy => by cases hy), Below.refl _ _⟩
        case round =>
          obtain ⟨j, lo, hi', rfl, hj, rfl, rfl, HLH, hb3r⟩ := hrel
          by_cases hlt : j < N3
          · have hlt' : j < m3.length := by rw [← HN3.out]; exact hlt
            have hjN : (j : Int) < (N3 : Int) := by omega
            obtain ⟨am, rfl, _, _, c0, c1, c2, c3, c4, c5, c6, c7, c8, c9, c10, c11, c12, c13⟩ := (HR3.out.new hb3r).cells hlt'
            have hjq : j < (newQ 0 3 sz (mkS 0 vs)).length := by rw [← plain_len, ← HP3.out, plain_len]; exact hlt'
            have hFq : m3[j].F = (newQ 0 3 sz (mkS 0 vs))[j].F := plain_get HP3.out hlt' hjq
            have hF1 : m3[j].F 1 = (i : Int) - j := by rw [hFq, newQ_seq hjq, HN.out]
            have hF5 : ∃ h : j < (nwV vs sz.toNat).length, m3[j].F 5 = (nwV vs sz.toNat)[j] := by
              have hl : j < (nwV vs sz.toNat).length := by rw [← newQ_vals, List.length_map]; exact hjq
              refine ⟨hl, ?_⟩
              rw [hFq]
              have : ∀ (q : List Int) (h : j < q.length), q = (newQ 0 3 sz (mkS 0 vs)).map (fun e => e.F 5) → (newQ 0 3 sz (mkS 0 vs))[j].F 5 = q[j] := by
                intro q h hq
                subst hq
                rw [List.getElem_map]
              exact this _ hl (newQ_vals vs sz).symm
            obtain ⟨x, hx⟩ : ∃ x, x = m3[j] := ⟨_, rfl⟩
            rw [← hx] at c0 c1 c2 c3 c4 c5 c6 c7 c8 c9 c10 c11 c12 c13 hF1 hF5
            obtain ⟨F, M, Ax, cx⟩ := x
            simp only at c0 c1 c2 c3 c4 c5 c6 c7 c8 c9 c10 c11 c12 c13 hF1 hF5
            obtain ⟨q, hq⟩ : ∃ q, M.length = q := ⟨_, rfl⟩
            rw [hq] at c13
            obtain ⟨w4, hw4⟩ : ∃ W, wr.alloc (.cells (ecs F Ax q cx) 46) = W := ⟨_, rfl⟩
            have hb4 : Below wr.heap.size wr w4 := by rw [← hw4]; exact b_alloc _ _
            obtain ⟨ge, hge⟩ : ∃ g, g = wr.heap.size := ⟨_, rfl⟩
            have hE4 : Blo w4 ge 46 (ecs F Ax q cx) := by rw [← hw4, hge]; exact Blo.made _ _ _
            have hb34 := below_new hb3r hb4
            have hne : (F 1 != (i : Int) - (j : Int)) = false := by rw [hF1]; simp
            have ew : IntKind.i64.wrap ((i : Int) - (j : Int)) = (i : Int) - (j : Int) := IntWalk.i64_in _ (by omega)
            obtain ⟨lo2, hlo⟩ : ∃ z, z = if F 5 < lo then F 5 else lo := ⟨_, rfl⟩
            obtain ⟨hi2, hhi⟩ : ∃ z, z = if hi' < F 5 then F 5 else hi' := ⟨_, rfl⟩
            have HL2 : Hid (∀ y ∈ (nwV vs sz.toNat).take (j + 1), lo2 ≤ y ∧ y ≤ hi2) := Lib.hid (by
              obtain ⟨hl, h5⟩ := hF5
              rw [List.take_succ_eq_append_getElem hl, ← h5]
              have a1 : lo2 ≤ F 5 ∧ lo2 ≤ lo := by rw [hlo]; split <;> omega
              have a2 : F 5 ≤ hi2 ∧ hi' ≤ hi2 := by rw [hhi]; split <;> omega
              intro y hy
              rcases List.mem_append.1 hy with hy | hy
              · have := HLH.out y hy
                omega
              · simp at hy
                subst hy
                omega)
            have HX0 : Hid (∀ f : Nat → Value, f 11 = .int .i64 lo → f 12 = .int .i64 hi' → LohX w4 ge (ecs F Ax q cx) lo hi' lo2 hi2 (fun _ => false) f w4) := Lib.hid (fun f h1 h2 => ⟨Below.refl _ _, hE4, fun _ => h1, fun _ => h2, fun e => (by cases e), fun e => (by cases e)⟩)
            have HLO := Lib.hid hlo
            have HHI := Lib.hid hhi
            have HW4 := Lib.hid hw4
            have HGE := Lib.hid hge
            clear hFq hF1 hF5 hx hq hw4 hge hb3r hb4 hE4 hlo hhi HLH
            go_wp2_with fail
            rw [HW4.out, ← HGE.out]
            refine wp_famZ (size := 146) (D := [84, 85, 86, 87, 88, 89, 90, 91, 11, 12]) [0, 2, 4, 6, 8, 9] [11, 12] [(84, isV (.int .i64 lo)), (85, isV (.pointer (some ⟨ge, 5, none⟩))), (86, isV (.int .i64 (F 5))), (87, isV (.int .i64 lo2)), (88, isV (.int .i64 hi')), (89, isV (.pointer (some ⟨ge, 5, none⟩))), (90, isV (.int .i64 (F 5))), (91, isV (.int .i64 hi2))] (LohX w4 ge (ecs F Ax q cx) lo hi' lo2 hi2) LohX.up (by kernel_rfl) (by rfl) (by kernel_rfl) (HX0.out _ rfl rfl) ?_ ?_
            · simp only [famAllZ]
              repeat' apply And.intro
              · rw [if_pos (by decide)]
                intro L f W hi0 hcl hwt hX hl
                simp [Oper.looksAt, Op.operands, Call.operands, famAt, famOf, isV] at hl
                have e1 := hX.2.2.1 hi0
                simp [famWants, boolIs_bool, boolIs_undef, execOp, rho, go_sem, hl, e1, famUpon, famOf, isV]
                exact hX.rd0
              · rw [if_neg (by decide)]
                intro f W hl
                simp [Oper.looksAt, Op.operands, Call.operands, famAt, famOf, isV] at hl
                simp [famWants, boolIs_bool, boolIs_undef, execOp, rho, go_sem, hl, famUpon, famOf, isV, Grows.refl]
              · rw [if_pos (by decide)]
                intro L f W hi0 hcl hwt hX hl
                simp [Oper.looksAt, Op.operands, Call.operands, famAt, famOf, isV] at hl
                obtain ⟨z0, z1, z2, z3, z4, z5, z6, z7, z8, z9, z10, z11, z12, z13⟩ := set14 hX.2.1
                have hps := hX.pass (k := 2) (s := 86) (v := .int .i64 (F 5)) (by decide) (by decide)
                simp [famWants, boolIs_bool, boolIs_undef, execOp, rho, go_sem, hl, z5, famUpon, famOf, isV]
                exact hps
              · rw [if_neg (by decide)]
                intro f W hl
                have hq2 := HLO.out
                simp [Oper.looksAt, Op.operands, Call.operands, famAt, famOf, isV] at hl
                simp [famWants, boolIs_bool, boolIs_undef, execOp, rho, go_sem, hl, famUpon, famOf, isV, Grows.refl]
                rw [hq2]
                try (split <;> simp_all)
              · rw [if_pos (by decide)]
                intro L f W hi0 hcl hwt hX hl
                simp [Oper.looksAt, Op.operands, Call.operands, famAt, famOf, isV] at hl
                have e1 := hX.2.2.2.1 hi0
                simp [famWants, boolIs_bool, boolIs_undef, execOp, rho, go_sem, hl, e1, famUpon, famOf, isV]
                exact hX.rd4
              · rw [if_neg (by decide)]
                intro f W hl
                simp [Oper.looksAt, Op.operands, Call.operands, famAt, famOf, isV] at hl
                simp [famWants, boolIs_bool, boolIs_undef, execOp, rho, go_sem, hl, famUpon, famOf, isV, Grows.refl]
              · rw [if_pos (by decide)]
                intro L f W hi0 hcl hwt hX hl
                simp [Oper.looksAt, Op.operands, Call.operands, famAt, famOf, isV] at hl
                obtain ⟨z0, z1, z2, z3, z4, z5, z6, z7, z8, z9, z10, z11, z12, z13⟩ := set14 hX.2.1
                have hps := hX.pass (k := 6) (s := 90) (v := .int .i64 (F 5)) (by decide) (by decide)
                simp [famWants, boolIs_bool, boolIs_undef, execOp, rho, go_sem, hl, z5, famUpon, famOf, isV]
                exact hps
              · rw [if_neg (by decide)]
                intro f W hl
                have hq2 := HHI.out
                simp [Oper.looksAt, Op.operands, Call.operands, famAt, famOf, isV] at hl
                simp [famWants, boolIs_bool, boolIs_undef, execOp, rho, go_sem, hl, famUpon, famOf, isV, Grows.refl]
                rw [hq2]
                try (split <;> simp_all)
              · rw [if_pos (by decide)]
                intro L f W hi0 hcl hwt hX hl
                simp [Oper.looksAt, Op.operands, Call.operands, famAt, famOf, isV] at hl
                have h3 : L 3 = true := hwt 3 (by kernel_rfl)
                have h0 : L 0 = true := hcl 3 0 (by kernel_rfl) h3
                simp [famWants, boolIs_bool, boolIs_undef, execOp, rho, go_sem, hl, famUpon, famOf, isV]
                exact hX.st8 h0
              · rw [if_pos (by decide)]
                intro L f W hi0 hcl hwt hX hl
                simp [Oper.looksAt, Op.operands, Call.operands, famAt, famOf, isV] at hl
                have h3 : L 7 = true := hwt 7 (by kernel_rfl)
                have h0 : L 4 = true := hcl 7 4 (by kernel_rfl) h3
                simp [famWants, boolIs_bool, boolIs_undef, execOp, rho, go_sem, hl, famUpon, famOf, isV]
                exact hX.st9 h0
              · trivial
            · intro L u V hL hX hu
              have e11 := hX.2.2.2.2.1 (hL 8 (by decide))
              have e12 := hX.2.2.2.2.2 (hL 9 (by decide))
              have hgV := hX.1
              simp only [fill, Act.put, List.setIfInBounds_toArray, List.set_cons_zero, List.set_cons_succ, e11, e12]
              refine wpList_nil ?_
              have hbV := below_new hb34 hgV
              clear hu hL hX e11 e12 hgV HX0
              go_wp2
              go_roundw
              case rel => exact ⟨j + 1, lo2, hi2, by go_num, by omega, rfl, rfl, HL2, hbV⟩
              case measure => simp [intOf]; omega
          · obtain rfl : j = N3 := by omega
            obtain ⟨tt, rfl⟩ := Int.eq_ofNat_of_zero_le ht0
            have hb23r := below_new hb23 hb3r
            have HNL : Hid ((nwV vs sz.toNat).length = j) := Lib.hid (by rw [← newQ_vals, List.length_map, ← plain_len, ← HP3.out, plain_len, ← HN3.out])
            have hall : ∀ y ∈ nwV vs sz.toNat, lo ≤ y ∧ y ≤ hi' := by
              have h := HLH.out
              rwa [List.take_of_length_le (by rw [HNL.out]; exact Nat.le_refl _)] at h
            obtain ⟨nn, hnn⟩ : ∃ x, x = S.up (nwV vs sz.toNat).sum ((nwV vs sz.toNat).length : Nat) := ⟨_, rfl⟩
            have hbt : lo ≤ nn ∧ nn ≤ hi' := by rw [hnn]; exact up_between hall (by rw [HNL.out]; exact hNz)
            have HNN := Lib.hid hnn
            have HVS : Hid (∀ x ∈ vs, 0 ≤ x ∧ x ≤ 200000) := Lib.hid (fun x hx => by have := HV.out x hx; omega)
            have HMQ : Hid (meanQ (newQ 0 3 sz (mkS 0 vs)) = (nn, true)) := Lib.hid (by rw [mean_mkS HVS.out (by rw [HN.out]; exact h9) (by rw [HN.out]; omega) (by omega), ← hnn])
            have hpm := pmean_any (fun _ => True) Ao i co (mkS 0 vs) 0 3 sz wr HML.out (HO.out.new hb3r).erds (by omega) HME.out
            rw [HMQ.out] at hpm
            unfold meanV at hpm
            have HPM := Lib.hid hpm
            have HO3 := Lib.hid (HO.out.new hb3r)
            clear hall hnn hpm HLH hb23 hb3r
            have hg1 : ¬ nn < lo := by omega
            have hg2 : ¬ hi' < nn := by omega
            by_cases hlh : lo = hi'
            · subst hlh
              obtain rfl : nn = lo := by omega
              have hq1 : (nn == nn) = true := by simp
              have hq2 : (nn != nn) = false := by simp
              go_wp2_with fail
              refine HPM.out.mono ?_
              rintro e w5 ⟨rfl, hb5⟩
              have hb25 := below_new hb23r hb5
              have hb05 := below_new hb02 hb25
              have hO5 := HO3.out.new hb5
              obtain ⟨g, e9, hgB⟩ : ∃ g, Ao = some ⟨g, 0, none⟩ ∧ w2.heap.size ≤ g := by
                rcases hO5.row.2 with ⟨e, h0⟩ | ⟨g, cap, cur, e, hb, _⟩
                · rw [HML.out] at h0; omega
                · injection e with e1 e2 e3
                  exact ⟨g, e1, hb⟩
              subst e9
              obtain ⟨ix, hix⟩ : ∃ x : Nat, x = tt % i := ⟨_, rfl⟩
              have hixn : ix < i := by rw [hix]; exact Nat.mod_lt _ (by omega)
              have em : (tt : Int) % (i : Int) = (ix : Int) := by rw [hix]; simp
              have et : IntKind.i64.wrap (tt : Int) = (tt : Int) := IntWalk.i64_in _ (by omega)
              have ej : IntKind.i64.wrap (ix : Int) = (ix : Int) := IntWalk.i64_in _ (by omega)
              have ed : IntKind.i64.wrap d = d := IntWalk.i64_in _ (by omega)
              have hixv : ix < vs.length := by rw [HN.out]; exact hixn
              have hixm : ix < (mkS 0 vs).length := by rw [HML.out]; exact hixn
              obtain ⟨gd, hgd⟩ : ∃ p : Addr, p = ⟨g, 0, none⟩ := ⟨_, rfl⟩
              obtain ⟨ad, e8, -, -, yk, -⟩ := hO5.erds.ev hixm
              injection e8 with e8
              subst e8
              have hmk : (mkS 0 vs)[ix] = smE (((0 : Nat) : Int) + ix + 1) vs[ix] := mkS_get 0 vs ix hixm hixv
              obtain ⟨x0, hx0⟩ : ∃ x, x = vs[ix] := ⟨_, rfl⟩
              have hx0b : 0 ≤ x0 ∧ x0 < 65536 := by rw [hx0]; exact HV.out _ (List.getElem_mem hixv)
              have hce := yk 5 (.int .i64 x0) (by omega) (by rw [hmk, hx0]; rfl)
              have hea : (⟨((⟨g, 0, none⟩ : Addr).add (ix * 14)).block, ((⟨g, 0, none⟩ : Addr).add (ix * 14)).off + 5, none⟩ : Addr) = ⟨g, ix * 14 + 5, none⟩ := by rw [M.addMk]; simp
              have hrw : w5.ownsRow w2.heap.size 46 14 (.slice (some ⟨g, 0, none⟩) (mkS 0 vs).length co) (mkS 0 vs).length (evs (mkS 0 vs)) := by
                have h := hO5.row
                rw [← HML.out] at h
                exact h
              have hfr : w5.frozen? ⟨((⟨g, 0, none⟩ : Addr).add (ix * 14)).block, ((⟨g, 0, none⟩ : Addr).add (ix * 14)).off + 5, none⟩ = false := by rw [hea]; exact hrw.frozenAt _
              have ewx : IntKind.i64.wrap (x0 + d) = x0 + d := IntWalk.i64_in _ (by omega)
              obtain ⟨w6, hw6⟩ : ∃ W, w5.setCell ⟨((⟨g, 0, none⟩ : Addr).add (ix * 14)).block, ((⟨g, 0, none⟩ : Addr).add (ix * 14)).off + 5, none⟩ (.int .i64 (x0 + d)) = W := ⟨_, rfl⟩
              have hst := hrw.stored (ix * 14 + 5) (.int .i64 (x0 + d))
              rw [← hea, hw6] at hst
              have hO6 : ERds w6 (fun _ => True) (some ⟨g, 0, none⟩) (mkS 0 (vs.set ix (vs[ix] + d))) := by
                have h1 := hst.1
                have hes : (evs (mkS 0 vs)).set (ix * 14 + 5) (.int .i64 (x0 + d)) = evs (mkS 0 (vs.set ix (vs[ix] + d))) := by
                  rw [mkS_set 0 vs ix _ hixv]
                  refine evs_set hixm (by omega) (by rw [← hx0]; rfl) (fun b hb hb5 => ?_)
                  rw [hmk]
                  match b, hb, hb5 with
                  | 0, _, _ => rfl
                  | 1, _, _ => rfl
                  | 2, _, _ => rfl
                  | 3, _, _ => rfl
                  | 4, _, _ => rfl
                  | 6, _, _ => rfl
                  | 7, _, _ => rfl
                  | 8, _, _ => rfl
                  | 9, _, _ => rfl
                  | 10, _, _ => rfl
                  | 11, _, _ => rfl
                  | 12, _, _ => rfl
                  | 13, _, _ => rfl
                rw [hes] at h1
                have h2 : ERow w6 w2.heap.size (.slice (some ⟨g, 0, none⟩) (mkS 0 vs).length co) (mkS 0 (vs.set ix (vs[ix] + d))) := by
                  unfold ERow
                  have hl : (mkS 0 (vs.set ix (vs[ix] + d))).length = (mkS 0 vs).length := by rw [mkS_len, mkS_len, List.length_set]
                  rw [hl]; exact h1
                exact ⟨h2.rds.mono fun _ _ => trivial, fun e he => by
                  obtain ⟨sq, v, rfl, _⟩ := mkS_mem he
                  exact Rds.nil⟩
              have hb06 : Below w.heap.size w w6 := hb05.grown hst.2 hb05.size (fun k hk => by
                have h1 := hb02.size
                injection hk with hk
                omega)
              have hlen2 : (mkS 0 (vs.set ix (vs[ix] + d))).length = i := by rw [mkS_len, List.length_set]; exact HN.out
              have hV2 : ∀ x ∈ vs.set ix (vs[ix] + d), 0 ≤ x ∧ x ≤ 200000 := fun x hx => by
                rcases List.mem_or_eq_of_mem_set hx with h | h
                · exact HVS.out x h
                · rw [h, ← hx0]; omega
              obtain ⟨n2, hn2⟩ : ∃ x, x = S.up (nwV (vs.set ix (vs[ix] + d)) sz.toNat).sum ((nwV (vs.set ix (vs[ix] + d)) sz.toNat).length : Nat) := ⟨_, rfl⟩
              have hge : nn ≤ n2 := by rw [HNN.out, hn2]; exact up_more hixv hd0 (by rw [HNL.out]; exact hNz)
              have hm2 : meanQ (newQ 0 3 sz (mkS 0 (vs.set ix (vs[ix] + d)))) = (n2, true) := by rw [mean_mkS hV2 (by rw [List.length_set, HN.out]; exact h9) (by rw [List.length_set, HN.out]; omega) (by omega), ← hn2]
              have hp2 := pmean_any (fun _ => True) (some ⟨g, 0, none⟩) i co (mkS 0 (vs.set ix (vs[ix] + d))) 0 3 sz w6 hlen2 hO6 (by omega) (fun e he => by
                obtain ⟨sq, v, rfl, _⟩ := mkS_mem he
                simp [smE])
              rw [hm2] at hp2
              unfold meanV at hp2
              have HP2 := Lib.hid hp2
              have HW6 := Lib.hid hw6
              have hpt : 0 ≤ (ix : Int) ∧ (ix : Int) < (i : Int) := by omega
              have htt : ((ix : Int)).toNat = ix := by omega
              have hi0 : ¬ (i : Int) = 0 := by omega
              rw [← hgd] at hce hfr hw6 HW6 HP2 ⊢
              clear hst hO6 hrw hea hmk hx0 yk hO5 hb5 hb25 hb05 hp2 hm2 hn2 hV2 hlen2 hix hixv hixm hw6 hgd
              go_wp2_with fail
              rw [HW6.out]
              refine HP2.out.mono ?_
              rintro e w7 ⟨rfl, hb7⟩
              have hbf := below_new hb06 hb7
              clear HP2 hb7
              have hgd2 : decide (nn ≤ n2) = true := by simpa using hge
              go_wp2
              go_ret
              exact ⟨rfl, hbf⟩
            · have hq1 : (lo == hi') = false := by simpa using hlh
              go_wp2_with fail
              refine HPM.out.mono ?_
              rintro e w5 ⟨rfl, hb5⟩
              have hb25 := below_new hb23r hb5
              have hb05 := below_new hb02 hb25
              have hO5 := HO3.out.new hb5
              obtain ⟨g, e9, hgB⟩ : ∃ g, Ao = some ⟨g, 0, none⟩ ∧ w2.heap.size ≤ g := by
                rcases hO5.row.2 with ⟨e, h0⟩ | ⟨g, cap, cur, e, hb, _⟩
                · rw [HML.out] at h0; omega
                · injection e with e1 e2 e3
                  exact ⟨g, e1, hb⟩
              subst e9
              obtain ⟨ix, hix⟩ : ∃ x : Nat, x = tt % i := ⟨_, rfl⟩
              have hixn : ix < i := by rw [hix]; exact Nat.mod_lt _ (by omega)
              have em : (tt : Int) % (i : Int) = (ix : Int) := by rw [hix]; simp
              have et : IntKind.i64.wrap (tt : Int) = (tt : Int) := IntWalk.i64_in _ (by omega)
              have ej : IntKind.i64.wrap (ix : Int) = (ix : Int) := IntWalk.i64_in _ (by omega)
              have ed : IntKind.i64.wrap d = d := IntWalk.i64_in _ (by omega)
              have hixv : ix < vs.length := by rw [HN.out]; exact hixn
              have hixm : ix < (mkS 0 vs).length := by rw [HML.out]; exact hixn
              obtain ⟨gd, hgd⟩ : ∃ p : Addr, p = ⟨g, 0, none⟩ := ⟨_, rfl⟩
              obtain ⟨ad, e8, -, -, yk, -⟩ := hO5.erds.ev hixm
              injection e8 with e8
              subst e8
              have hmk : (mkS 0 vs)[ix] = smE (((0 : Nat) : Int) + ix + 1) vs[ix] := mkS_get 0 vs ix hixm hixv
              obtain ⟨x0, hx0⟩ : ∃ x, x = vs[ix] := ⟨_, rfl⟩
              have hx0b : 0 ≤ x0 ∧ x0 < 65536 := by rw [hx0]; exact HV.out _ (List.getElem_mem hixv)
              have hce := yk 5 (.int .i64 x0) (by omega) (by rw [hmk, hx0]; rfl)
              have hea : (⟨((⟨g, 0, none⟩ : Addr).add (ix * 14)).block, ((⟨g, 0, none⟩ : Addr).add (ix * 14)).off + 5, none⟩ : Addr) = ⟨g, ix * 14 + 5, none⟩ := by rw [M.addMk]; simp
              have hrw : w5.ownsRow w2.heap.size 46 14 (.slice (some ⟨g, 0, none⟩) (mkS 0 vs).length co) (mkS 0 vs).length (evs (mkS 0 vs)) := by
                have h := hO5.row
                rw [← HML.out] at h
                exact h
              have hfr : w5.frozen? ⟨((⟨g, 0, none⟩ : Addr).add (ix * 14)).block, ((⟨g, 0, none⟩ : Addr).add (ix * 14)).off + 5, none⟩ = false := by rw [hea]; exact hrw.frozenAt _
              have ewx : IntKind.i64.wrap (x0 + d) = x0 + d := IntWalk.i64_in _ (by omega)
              obtain ⟨w6, hw6⟩ : ∃ W, w5.setCell ⟨((⟨g, 0, none⟩ : Addr).add (ix * 14)).block, ((⟨g, 0, none⟩ : Addr).add (ix * 14)).off + 5, none⟩ (.int .i64 (x0 + d)) = W := ⟨_, rfl⟩
              have hst := hrw.stored (ix * 14 + 5) (.int .i64 (x0 + d))
              rw [← hea, hw6] at hst
              have hO6 : ERds w6 (fun _ => True) (some ⟨g, 0, none⟩) (mkS 0 (vs.set ix (vs[ix] + d))) := by
                have h1 := hst.1
                have hes : (evs (mkS 0 vs)).set (ix * 14 + 5) (.int .i64 (x0 + d)) = evs (mkS 0 (vs.set ix (vs[ix] + d))) := by
                  rw [mkS_set 0 vs ix _ hixv]
                  refine evs_set hixm (by omega) (by rw [← hx0]; rfl) (fun b hb hb5 => ?_)
                  rw [hmk]
                  match b, hb, hb5 with
                  | 0, _, _ => rfl
                  | 1, _, _ => rfl
                  | 2, _, _ => rfl
                  | 3, _, _ => rfl
                  | 4, _, _ => rfl
                  | 6, _, _ => rfl
                  | 7, _, _ => rfl
                  | 8, _, _ => rfl
                  | 9, _, _ => rfl
                  | 10, _, _ => rfl
                  | 11, _, _ => rfl
                  | 12, _, _ => rfl
                  | 13, _, _ => rfl
                rw [hes] at h1
                have h2 : ERow w6 w2.heap.size (.slice (some ⟨g, 0, none⟩) (mkS 0 vs).length co) (mkS 0 (vs.set ix (vs[ix] + d))) := by
                  unfold ERow
                  have hl : (mkS 0 (vs.set ix (vs[ix] + d))).length = (mkS 0 vs).length := by rw [mkS_len, mkS_len, List.length_set]
                  rw [hl]; exact h1
                exact ⟨h2.rds.mono fun _ _ => trivial, fun e he => by
                  obtain ⟨sq, v, rfl, _⟩ := mkS_mem he
                  exact Rds.nil⟩
              have hb06 : Below w.heap.size w w6 := hb05.grown hst.2 hb05.size (fun k hk => by
                have h1 := hb02.size
                injection hk with hk
                omega)
              have hlen2 : (mkS 0 (vs.set ix (vs[ix] + d))).length = i := by rw [mkS_len, List.length_set]; exact HN.out
              have hV2 : ∀ x ∈ vs.set ix (vs[ix] + d), 0 ≤ x ∧ x ≤ 200000 := fun x hx => by
                rcases List.mem_or_eq_of_mem_set hx with h | h
                · exact HVS.out x h
                · rw [h, ← hx0]; omega
              obtain ⟨n2, hn2⟩ : ∃ x, x = S.up (nwV (vs.set ix (vs[ix] + d)) sz.toNat).sum ((nwV (vs.set ix (vs[ix] + d)) sz.toNat).length : Nat) := ⟨_, rfl⟩
              have hge : nn ≤ n2 := by rw [HNN.out, hn2]; exact up_more hixv hd0 (by rw [HNL.out]; exact hNz)
              have hm2 : meanQ (newQ 0 3 sz (mkS 0 (vs.set ix (vs[ix] + d)))) = (n2, true) := by rw [mean_mkS hV2 (by rw [List.length_set, HN.out]; exact h9) (by rw [List.length_set, HN.out]; omega) (by omega), ← hn2]
              have hp2 := pmean_any (fun _ => True) (some ⟨g, 0, none⟩) i co (mkS 0 (vs.set ix (vs[ix] + d))) 0 3 sz w6 hlen2 hO6 (by omega) (fun e he => by
                obtain ⟨sq, v, rfl, _⟩ := mkS_mem he
                simp [smE])
              rw [hm2] at hp2
              unfold meanV at hp2
              have HP2 := Lib.hid hp2
              have HW6 := Lib.hid hw6
              have hpt : 0 ≤ (ix : Int) ∧ (ix : Int) < (i : Int) := by omega
              have htt : ((ix : Int)).toNat = ix := by omega
              have hi0 : ¬ (i : Int) = 0 := by omega
              rw [← hgd] at hce hfr hw6 HW6 HP2 ⊢
              clear hst hO6 hrw hea hmk hx0 yk hO5 hb5 hb25 hb05 hp2 hm2 hn2 hV2 hlen2 hix hixv hixm hw6 hgd
              go_wp2_with fail
              rw [HW6.out]
              refine HP2.out.mono ?_
              rintro e w7 ⟨rfl, hb7⟩
              have hbf := below_new hb06 hb7
              clear HP2 hb7
              have hgd2 : decide (nn ≤ n2) = true := by simpa using hge
              go_wp2
              go_ret
              exact ⟨rfl, hbf⟩
end Go.Proofs.Ytodlifbhpgphcaa
