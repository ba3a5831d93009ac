/- Layer 11: what DecideMore comes to. -/
import Derived.Test.YtdppabnhflaoeaaDecLaw1
import Derived.Test.YtdppabnhflaoeaaSetB
import Derived.Test.YtdppabnhflaoeaaFam
namespace Go.Proofs.Ytdppabnhflaoeaa
set_option linter.unusedVariables false
set_option linter.unusedSimpArgs false
open Go.ChangeShapes Go.WideShapes Go.ChangeAt Go.RowKit

theorem S.mul_zero_left (b : Int) : S.mul 0 b = 0 := by
  unfold S.mul
  rw [S.clamp_id (n := 0) (by omega) (by omega), Int.zero_mul]
  exact S.clamp_id (by omega) (by omega)
theorem K.ld_bd (x : Int) : 0 ≤ K.ld x ∧ K.ld x ≤ 1099511627776 := by
  unfold K.ld S.within
  split
  · omega
  · split <;> omega
theorem K.ask_ld {F : Nat → Int} (x : Int) : askN F (K.ld x) = askN F x := by
  unfold askN
  have e : S.clamp (if K.ld x < 0 then 0 else K.ld x) = S.clamp (if x < 0 then 0 else x) := by
    have h := K.ld_bd x
    rw [if_neg (by omega), S.clamp_id (by omega) (by omega)]
    unfold K.ld S.within
    split
    · rw [if_neg (by omega), S.clamp_hi (by omega)]
    · split
      · rw [S.clamp_id (by omega) (by omega)]
      · rw [S.clamp_id (by omega) (by omega)]
  unfold S.cdiv
  rw [e]
theorem K.carr_is {F : Nat → Int} {t : Int} (h : K.ok F t = true) : K.carr F t = t * F 8 ∧ 0 ≤ t * F 8 ∧ t * F 8 ≤ 1073741824000 := by
  obtain ⟨hr, h0, h1⟩ := K.ok_all h
  have hp := K.rp_all hr
  have a1 : 0 ≤ t * F 8 := Int.mul_nonneg h0 (by omega)
  have a2 : t * F 8 ≤ 1000 * F 8 := Int.mul_le_mul_of_nonneg_right h1 (by omega)
  refine ⟨?_, a1, by omega⟩
  unfold K.carr S.mul
  rw [S.clamp_id (n := t) (by omega) (by omega), S.clamp_id (n := F 8) (by omega) (by omega)]
  exact S.clamp_id (by omega) (by omega)
/-- Where no slack is, what is wanted is what is asked for. -/
theorem K.wnt_ask {F : Nat → Int} {x t : Int} (h : K.ok F t = true) (hs : F 9 = 0) : K.wnt F x t = askN F x := by
  obtain ⟨hr, h0, h1⟩ := K.ok_all h
  have hp := K.rp_all hr
  obtain ⟨c1, c2, c3⟩ := K.carr_is h
  have hl := K.ld_bd x
  unfold K.wnt
  split
  · rename_i hk
    unfold K.slk at hk
    simp only [decide_eq_true_eq] at hk
    obtain ⟨_, hk⟩ := hk
    rw [hs, S.mul_zero_left] at hk
    have hsub : S.sub (K.ld x) (K.carr F t) = K.ld x - t * F 8 := by
      unfold S.sub
      rw [c1, S.clamp_id (n := K.ld x) (by omega) (by omega), S.clamp_id (n := t * F 8) (by omega) (by omega)]
      exact S.clamp_id (by omega) (by omega)
    have hoff : K.off F x t = if K.ld x - t * F 8 < 0 then -(K.ld x - t * F 8) else K.ld x - t * F 8 := by unfold K.off; rw [hsub]
    have ho : 0 ≤ K.off F x t ∧ K.off F x t ≤ 1099511627776 := by rw [hoff]; split <;> omega
    have hz : K.off F x t = 0 := by
      unfold S.mul at hk
      rw [S.clamp_id (n := 100) (by omega) (by omega), S.clamp_id (n := K.off F x t) (by omega) (by omega)] at hk
      rcases Int.lt_or_le 0 (K.off F x t) with g | g
      · have := S.clamp_pos (n := 100 * K.off F x t) (by omega)
        omega
      · omega
    have he : K.ld x = t * F 8 := by
      rw [hoff] at hz
      split at hz <;> omega
    rw [← K.ask_ld]
    unfold askN
    rw [if_pos hr, if_neg (by omega)]
    have hq : S.cdiv (K.ld x) (F 8) = t := by
      unfold S.cdiv
      rw [he, S.clamp_id (n := t * F 8) (by omega) (by omega), S.clamp_id (n := F 8) (by omega) (by omega)]
      exact S.up_unique (by omega) (by omega) (by omega)
    rw [hq]
  · exact K.ask_ld x
theorem K.stp_ask {F : Nat → Int} {x t : Int} (h : K.ok F t = true) (hs : F 9 = 0) : K.stp F x t = S.within (askN F x) (t - F 11) (t + F 10) := by
  unfold K.stp
  rw [if_pos h, K.wnt_ask h hs]
/-- Without slack. -/
def noS (F : Nat → Int) : Nat → Int := fun j => if j = 9 then 0 else F j
theorem noS_pv (F : Nat → Int) : pv (noS F) = .agg #[.int .i64 (F 6), .int .i64 (F 7), .int .i64 (F 8), .int .i64 0, .int .i64 (F 10), .int .i64 (F 11), .int .i64 (F 12)] := rfl
theorem more_mono {F : Nat → Int} {a b t : Int} (h : K.ok (noS F) t = true) (hab : a ≤ b) : K.stp (noS F) a t ≤ K.stp (noS F) b t := by
  obtain ⟨hr, h0, h1⟩ := K.ok_all h
  have hp := K.rp_all hr
  rw [K.stp_ask h rfl, K.stp_ask h rfl]
  exact within_mono (ask_mono hr hab) (by omega)
theorem more_ask {F : Nat → Int} {a t : Int} (h : K.ok (noS F) t = true) : K.stp (noS F) a t = askN (noS F) a ∨ (K.stp (noS F) a t = t + F 10 ∧ K.stp (noS F) a t < askN (noS F) a) ∨ (K.stp (noS F) a t = t - F 11 ∧ askN (noS F) a < K.stp (noS F) a t) := by
  rw [K.stp_ask h rfl]
  have e1 : noS F 11 = F 11 := rfl
  have e2 : noS F 10 = F 10 := rfl
  rw [e1, e2]
  unfold S.within
  split
  · omega
  · split <;> omega
/-- A policy and three numbers. -/
abbrev lcs (F : Nat → Int) (a b t : Int) : Array Value := #[.int .i64 (F 6), .int .i64 (F 7), .int .i64 (F 8), .int .i64 (F 9), .int .i64 (F 10), .int .i64 (F 11), .int .i64 (F 12), .int .i64 a, .int .i64 b, .int .i64 t]
def pP (B : Nat) : StG := ⟨fun u w => ∃ g, u = .pointer (some ⟨g, 0, none⟩) ∧ Blo w g 23 (pcs (fun _ => 0)) ∧ B ≤ g, fun _ _ _ h ⟨g, e, k, l⟩ => ⟨g, e, k.new h, l⟩⟩

set_option maxRecDepth 100000 in
set_option maxHeartbeats 8000000 in
theorem decmore_main (F : Nat → Int) (a b t : Int) (w : World) : Calls Try.prog 6 #[.agg (lcs F a b t)] w fun e w' => e = .returned (.bool true) ∧ Below w.heap.size w w' := by
  obtain ⟨w1, hw1⟩ : ∃ W, w.alloc (.cells (lcs F a b t) 40) = W := ⟨_, rfl⟩
  have hb1 : Below w.heap.size w w1 := by rw [← hw1]; exact b_alloc _ _
  have hX1 : Blo w1 w.heap.size 40 (lcs F a b t) := by rw [← hw1]; exact Blo.made _ _ _
  have HW1 := Lib.hid hw1
  clear hw1
  go_enter Try.func6, Try.ntmps6
  go_wp2_with fail
  refine (decalive_any _).mono ?_
  rintro e w2 ⟨rfl, hb2⟩
  rw [HW1.out] at hb2
  have hX2 := hX1.new hb2
  have hb02 := below_new hb1 hb2
  clear hb1 hb2 hX1
  go_wp2_with fail
  have HC : Hid (∀ V, Below w2.heap.size w2 V → V.cell? ⟨w.heap.size, 0, none⟩ = some (.int .i64 (F 6)) ∧ V.cell? ⟨w.heap.size, 1, none⟩ = some (.int .i64 (F 7)) ∧ V.cell? ⟨w.heap.size, 2, none⟩ = some (.int .i64 (F 8)) ∧ V.cell? ⟨w.heap.size, 3, none⟩ = some (.int .i64 (F 9)) ∧ V.cell? ⟨w.heap.size, 4, none⟩ = some (.int .i64 (F 10)) ∧ V.cell? ⟨w.heap.size, 5, none⟩ = some (.int .i64 (F 11)) ∧ V.cell? ⟨w.heap.size, 6, none⟩ = some (.int .i64 (F 12)) ∧ V.cell? ⟨w.heap.size, 7, none⟩ = some (.int .i64 a) ∧ V.cell? ⟨w.heap.size, 8, none⟩ = some (.int .i64 b) ∧ V.cell? ⟨w.heap.size, 9, none⟩ = some (.int .i64 t)) := Lib.hid (fun V h => by
    have hV := hX2.new h
    exact ⟨by simpa using hV.cell 0, by simpa using hV.cell 1, by simpa using hV.cell 2, by simpa using hV.cell 3, by simpa using hV.cell 4, by simpa using hV.cell 5, by simpa using hV.cell 6, by simpa using hV.cell 7, by simpa using hV.cell 8, by simpa using hV.cell 9⟩)
  refine wp_famX (size := 90) (D := [15, 16, 17, 18, 19, 20, 21, 22, 3, 4, 5, 6]) [⟨9, 8, 3, 23, pcs (fun _ => 0), pcs F⟩] [(15, isV (.pointer (some ⟨w.heap.size, 0, none⟩))), (16, isV (pv F)), (17, isV (.pointer (some ⟨w.heap.size, 7, none⟩))), (18, isV (.int .i64 a)), (19, isV (.pointer (some ⟨w.heap.size, 8, none⟩))), (20, isV (.int .i64 b)), (21, isV (.pointer (some ⟨w.heap.size, 9, none⟩))), (22, isV (.int .i64 t)), (4, isV (.int .i64 a)), (5, isV (.int .i64 b)), (6, isV (.int .i64 t))] (Below.relX _ _) (by kernel_rfl) (by rfl) (by kernel_rfl) ?_ ?_
  · simp only [famAllX]
    repeat' apply And.intro
    · refine obX_no rfl ?_
      intro f V hg hl
      simp [Oper.looksAt, Op.operands, Call.operands, famAt, famOf, isV] at hl
      simp [famWants, boolIs_bool, boolIs_undef, execOp, rho, go_sem, hl, famUpon, famOf, isV, Grows.refl]
    · refine obX_no rfl ?_
      intro f V hg hl
      obtain ⟨z0, z1, z2, z3, z4, z5, z6, z7, z8, z9⟩ := HC.out V hg
      simp [Oper.looksAt, Op.operands, Call.operands, famAt, famOf, isV] at hl
      simp [famWants, boolIs_bool, boolIs_undef, execOp, rho, go_sem, hl, z0, z1, z2, z3, z4, z5, z6, famUpon, famOf, isV, Grows.refl]
    · refine obX_no rfl ?_
      intro f V hg hl
      simp [Oper.looksAt, Op.operands, Call.operands, famAt, famOf, isV] at hl
      simp [famWants, boolIs_bool, boolIs_undef, execOp, rho, go_sem, hl, famUpon, famOf, isV, Grows.refl]
    · refine obX_no rfl ?_
      intro f V hg hl
      obtain ⟨z0, z1, z2, z3, z4, z5, z6, z7, z8, z9⟩ := HC.out V hg
      simp [Oper.looksAt, Op.operands, Call.operands, famAt, famOf, isV] at hl
      simp [famWants, boolIs_bool, boolIs_undef, execOp, rho, go_sem, hl, z7, famUpon, famOf, isV, Grows.refl]
    · refine obX_no rfl ?_
      intro f V hg hl
      simp [Oper.looksAt, Op.operands, Call.operands, famAt, famOf, isV] at hl
      simp [famWants, boolIs_bool, boolIs_undef, execOp, rho, go_sem, hl, famUpon, famOf, isV, Grows.refl]
    · refine obX_no rfl ?_
      intro f V hg hl
      obtain ⟨z0, z1, z2, z3, z4, z5, z6, z7, z8, z9⟩ := HC.out V hg
      simp [Oper.looksAt, Op.operands, Call.operands, famAt, famOf, isV] at hl
      simp [famWants, boolIs_bool, boolIs_undef, execOp, rho, go_sem, hl, z8, famUpon, famOf, isV, Grows.refl]
    · refine obX_no rfl ?_
      intro f V hg hl
      simp [Oper.looksAt, Op.operands, Call.operands, famAt, famOf, isV] at hl
      simp [famWants, boolIs_bool, boolIs_undef, execOp, rho, go_sem, hl, famUpon, famOf, isV, Grows.refl]
    · refine obX_no rfl ?_
      intro f V hg hl
      obtain ⟨z0, z1, z2, z3, z4, z5, z6, z7, z8, z9⟩ := HC.out V hg
      simp [Oper.looksAt, Op.operands, Call.operands, famAt, famOf, isV] at hl
      simp [famWants, boolIs_bool, boolIs_undef, execOp, rho, go_sem, hl, z9, famUpon, famOf, isV, Grows.refl]
    · refine obX_al 0 rfl rfl (show (9 : Nat) ≠ 8 by decide) rfl ?_
      intro f V hg
      simp [famWants, boolIs_bool, boolIs_undef, execOp, rho, go_sem, famOf]
    · refine obX_st 0 rfl rfl rfl ?_
      intro f V g hg hl hf hB
      have hf : f 3 = _ := hf
      simp [Oper.looksAt, Op.operands, Call.operands, famAt, famOf, isV] at hl
      obtain ⟨W, hrun, h2, h3⟩ := run_setb V g _ _ (pcs F) hB (by rw [Try.sizePol]; rfl) rfl (pcs_one F)
      refine ⟨by simp [famWants], ?_⟩
      simp only [execOp, rho, hf, hl, Sem.run_bind, Sem.run_pure, Result.andThen_ok, hrun, famUpon]
      exact ⟨h3, h2⟩
    · refine obX_no rfl ?_
      intro f V hg hl
      simp [Oper.looksAt, Op.operands, Call.operands, famAt, famOf, isV] at hl
      simp [famWants, boolIs_bool, boolIs_undef, execOp, rho, go_sem, hl, famUpon, famOf, isV, Grows.refl]
    · refine obX_no rfl ?_
      intro f V hg hl
      simp [Oper.looksAt, Op.operands, Call.operands, famAt, famOf, isV] at hl
      simp [famWants, boolIs_bool, boolIs_undef, execOp, rho, go_sem, hl, famUpon, famOf, isV, Grows.refl]
    · refine obX_no rfl ?_
      intro f V hg hl
      simp [Oper.looksAt, Op.operands, Call.operands, famAt, famOf, isV] at hl
      simp [famWants, boolIs_bool, boolIs_undef, execOp, rho, go_sem, hl, famUpon, famOf, isV, Grows.refl]
    · trivial
  · intro u v4 hb24 hu hmd hdis
    simp only [List.forall_mem_cons, List.not_mem_nil, false_imp_iff, implies_true, and_true] at hmd
    obtain ⟨ga, e3, hga, hA4⟩ := hmd
    have e15 : u 15 = .pointer (some ⟨w.heap.size, 0, none⟩) := hu 15 (by decide)
    have e16 : u 16 = pv F := hu 16 (by decide)
    have e17 : u 17 = .pointer (some ⟨w.heap.size, 7, none⟩) := hu 17 (by decide)
    have e18 : u 18 = .int .i64 a := hu 18 (by decide)
    have e19 : u 19 = .pointer (some ⟨w.heap.size, 8, none⟩) := hu 19 (by decide)
    have e20 : u 20 = .int .i64 b := hu 20 (by decide)
    have e21 : u 21 = .pointer (some ⟨w.heap.size, 9, none⟩) := hu 21 (by decide)
    have e22 : u 22 = .int .i64 t := hu 22 (by decide)
    have e4 : u 4 = .int .i64 a := hu 4 (by decide)
    have e5 : u 5 = .int .i64 b := hu 5 (by decide)
    have e6 : u 6 = .int .i64 t := hu 6 (by decide)
    simp only [List.drop_succ_cons, List.drop_zero, fill, Act.put, List.setIfInBounds_toArray, List.set_cons_zero, List.set_cons_succ, e3, e15, e16, e17, e18, e19, e20, e21, e22, e4, e5, e6]
    refine wpList_nil ?_
    clear hu hdis e3 e15 e16 e17 e18 e19 e20 e21 e22 e4 e5 e6
    have hb04 := below_new hb02 hb24
    have hgw : w.heap.size ≤ ga := by have := hb02.size; omega
    clear hb24 hb02 hX2 HC
    obtain ⟨w5, hw5⟩ : ∃ W, v4.setCell ⟨ga, 3, none⟩ (.int .i64 0) = W := ⟨_, rfl⟩
    have hgx : v4.grownBy w5 (some ga) := by rw [← hw5]; exact gb_set (World.grownBy.refl _ _) (.inl rfl) _
    have f3 := hA4.frozen 3
    have y3 : v4.cell? ⟨ga, 3, none⟩ = some (.int .i64 (F 9)) := by simpa using hA4.cell 3
    have hX5 : Blo w5 ga 23 (pcs (noS F)) := by rw [← hw5]; exact hA4.put 3 (.int .i64 0)
    have hb05 := hb04.grown hgx hb04.size (fun k hk => by injection hk with hk; omega)
    clear hb04 hgx hA4
    have h1 := fun W => pstep_any (noS F) a t W
    have h2 := fun W => pstep_any (noS F) b t W
    have h3 := fun W => asked_any (noS F) a W
    rw [noS_pv] at h1 h2 h3
    have hbox : ∀ W, Below w5.heap.size w5 W → W.cell? ⟨ga, 0, none⟩ = some (.int .i64 (F 6)) ∧ W.cell? ⟨ga, 1, none⟩ = some (.int .i64 (F 7)) ∧ W.cell? ⟨ga, 2, none⟩ = some (.int .i64 (F 8)) ∧ W.cell? ⟨ga, 3, none⟩ = some (.int .i64 0) ∧ W.cell? ⟨ga, 4, none⟩ = some (.int .i64 (F 10)) ∧ W.cell? ⟨ga, 5, none⟩ = some (.int .i64 (F 11)) ∧ W.cell? ⟨ga, 6, none⟩ = some (.int .i64 (F 12)) := fun W h => pol_box (noS F) (hX5.new h)
    have HBX := Lib.hid hbox
    obtain ⟨k0, k1, k2, k3, k4, k5, k6⟩ := HBX.out w5 (Below.refl _ _)
    clear hbox hX5
    cases hok : K.ok (noS F) t with
    | false =>
      rw [(K.stp_no (x := a) hok).1, (K.stp_no (x := a) hok).2] at h1
      rw [(K.stp_no (x := b) hok).1, (K.stp_no (x := b) hok).2] at h2
      have H1 := Lib.hid h1
      have H2 := Lib.hid h2
      clear h1 h2 h3 hok
      go_wp2_with fail
      refine (H1.out _).mono ?_
      rintro e w6 ⟨rfl, hb6⟩
      have hb06 := below_new hb05 hb6
      clear k0 k1 k2 k3 k4 k5 k6
      obtain ⟨k0, k1, k2, k3, k4, k5, k6⟩ := HBX.out w6 hb6
      go_wp2_with fail
      refine (H2.out _).mono ?_
      rintro e w7 ⟨rfl, hb7⟩
      have hb07 := below_new hb06 hb7
      clear k0 k1 k2 k3 k4 k5 k6
      go_wp2
      go_ret
      exact ⟨rfl, hb07⟩
    | true =>
      have hmo := fun h => more_mono (a := a) (b := b) hok h
      have hma := more_ask (a := a) hok
      have he : K.err (noS F) t = 0 := K.ok_err hok
      have hae : askE (noS F) = 0 := by unfold askE; rw [if_pos (K.ok_all hok).1]
      rw [he] at h1 h2
      rw [hae] at h3
      obtain ⟨hr, ht0, ht1⟩ := K.ok_all hok
      have hp := K.rp_all hr
      have q1 : IntKind.i64.wrap (t + F 10) = t + F 10 := IntWalk.i64_in _ (by have : noS F 10 = F 10 := rfl; omega)
      have q2 : IntKind.i64.wrap (t - F 11) = t - F 11 := IntWalk.i64_in _ (by have : noS F 11 = F 11 := rfl; omega)
      generalize K.stp (noS F) a t = n at *
      generalize K.stp (noS F) b t = m at *
      generalize askN (noS F) a = q at *
      have H1 := Lib.hid h1
      have H2 := Lib.hid h2
      have H3 := Lib.hid h3
      have HMO := Lib.hid hmo
      have HMA := Lib.hid hma
      clear h1 h2 h3 hok hr hp hmo hma he hae ht0 ht1
      go_wp2_with fail
      refine (H1.out _).mono ?_
      rintro e w6 ⟨rfl, hb6⟩
      have hb06 := below_new hb05 hb6
      clear k0 k1 k2 k3 k4 k5 k6
      obtain ⟨k0, k1, k2, k3, k4, k5, k6⟩ := HBX.out w6 hb6
      go_wp2_with fail
      refine (H2.out _).mono ?_
      rintro e w7 ⟨rfl, hb7⟩
      have hb57 := below_new hb6 hb7
      have hb07 := below_new hb06 hb7
      clear k0 k1 k2 k3 k4 k5 k6 hb05 hb6 hb06 hb7
      obtain ⟨k0, k1, k2, k3, k4, k5, k6⟩ := HBX.out w7 hb57
      by_cases hab : a ≤ b
      · have hnm : ¬ m < n := by have := HMO.out hab; omega
        go_wp2_with fail
        refine (H3.out _).mono ?_
        rintro e w8 ⟨rfl, hb8⟩
        have hb08 := below_new hb07 hb8
        clear k0 k1 k2 k3 k4 k5 k6
        obtain ⟨k0, k1, k2, k3, k4, k5, k6⟩ := HBX.out w8 (below_new hb57 hb8)
        clear hb07 hb8 hb57
        rcases HMA.out with g | ⟨g1, g2⟩ | ⟨g1, g2⟩
        · have HG := Lib.hid g
          have g' : (n == q) = true := by simpa using g
          clear g
          go_wp2
          go_ret
          exact ⟨rfl, hb08⟩
        · have g0 : (n == q) = false := by simp; omega
          have g1' : (n == t + F 10) = true := by simpa using g1
          clear g1
          go_wp2
          go_ret
          exact ⟨rfl, hb08⟩
        · have g0 : (n == q) = false := by simp; omega
          by_cases g3 : n = t + F 10
          · have g3' : (n == t + F 10) = true := by simpa using g3
            have g4 : ¬ n < q := by omega
            have g1' : (n == t - F 11) = true := by simpa using g1
            clear g1 g3
            go_wp2
            go_ret
            exact ⟨rfl, hb08⟩
          · have g3' : (n == t + F 10) = false := by simpa using g3
            have g1' : (n == t - F 11) = true := by simpa using g1
            clear g1 g3
            go_wp2
            go_ret
            exact ⟨rfl, hb08⟩
      · skip
        go_wp2_with fail
        refine (H3.out _).mono ?_
        rintro e w8 ⟨rfl, hb8⟩
        have hb08 := below_new hb07 hb8
        clear k0 k1 k2 k3 k4 k5 k6
        obtain ⟨k0, k1, k2, k3, k4, k5, k6⟩ := HBX.out w8 (below_new hb57 hb8)
        clear hb07 hb8 hb57
        rcases HMA.out with g | ⟨g1, g2⟩ | ⟨g1, g2⟩
        · have HG := Lib.hid g
          have g' : (n == q) = true := by simpa using g
          clear g
          go_wp2
          go_ret
          exact ⟨rfl, hb08⟩
        · have g0 : (n == q) = false := by simp; omega
          have g1' : (n == t + F 10) = true := by simpa using g1
          clear g1
          go_wp2
          go_ret
          exact ⟨rfl, hb08⟩
        · have g0 : (n == q) = false := by simp; omega
          by_cases g3 : n = t + F 10
          · have g3' : (n == t + F 10) = true := by simpa using g3
            have g4 : ¬ n < q := by omega
            have g1' : (n == t - F 11) = true := by simpa using g1
            clear g1 g3
            go_wp2
            go_ret
            exact ⟨rfl, hb08⟩
          · have g3' : (n == t + F 10) = false := by simpa using g3
            have g1' : (n == t - F 11) = true := by simpa using g1
            clear g1 g3
            go_wp2
            go_ret
            exact ⟨rfl, hb08⟩
end Go.Proofs.Ytdppabnhflaoeaa
