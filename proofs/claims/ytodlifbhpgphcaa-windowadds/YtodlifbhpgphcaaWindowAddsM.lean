/- What WindowAdds comes to. -/
import Derived.Test.YtodlifbhpgphcaaWinAlive
import Derived.Test.YtodlifbhpgphcaaWinAdd
import Derived.Test.YtodlifbhpgphcaaWinAddX
import Derived.Test.YtodlifbhpgphcaaWinAddY
import Derived.Test.YtodlifbhpgphcaaEvArgs2
import Derived.Test.YtodlifbhpgphcaaEvCut
namespace Go.Proofs.Ytodlifbhpgphcaa
set_option linter.unusedVariables false
set_option linter.unusedSimpArgs false
open Go.ChangeShapes Go.WideShapes Go.ChangeAt Go.RowKit

/-- What the sample of another workload, and the Set, say. -/
def oF (v : Int) : Nat → Int := fun j => [7, 1, 1, 1, 1, v].getD j 0
def tF (v : Int) : Nat → Int := fun j => [7, 2, 1, 2, 0, v].getD j 0
theorem blo3 {w : World} {t : TypeId} {a b c : Array Value} : Blo (((w.alloc (.cells a t)).alloc (.cells b t)).alloc (.cells c t)) w.heap.size t a ∧ Blo (((w.alloc (.cells a t)).alloc (.cells b t)).alloc (.cells c t)) (w.heap.size + 1) t b ∧ Blo (((w.alloc (.cells a t)).alloc (.cells b t)).alloc (.cells c t)) (w.heap.size + 1 + 1) t c := by
  refine ⟨((Blo.made _ _ _).alloc _).alloc _, ?_, ?_⟩
  · have := (Blo.made (w.alloc (.cells a t)) t b).alloc (.cells c t)
    simpa using this
  · have := Blo.made ((w.alloc (.cells a t)).alloc (.cells b t)) t c
    simpa using this

set_option maxRecDepth 100000 in
set_option maxHeartbeats 8000000 in
theorem winadds_main (A : Option Addr) (n c : Nat) (l : List EvV) (sz v : Int) (w : World) (h0 : EvsIn w A n c l) (hv0 : 0 ≤ v) (hv1 : v ≤ 65535) :
    Calls Try.prog 6 #[.slice A n c, .int .i64 sz, .int .u16 v] w fun e w' => e = .returned (.bool true) ∧ Below w.heap.size w w' := by
  obtain ⟨hn, hnc, hcm, hr, hmeek⟩ := h0
  have HN := Lib.hid hn
  have HNC := Lib.hid hnc
  have HCM : Hid (c ≤ maxLen) := Lib.hid hcm
  have HR := Lib.hid hr
  have HME := Lib.hid hmeek
  clear hn hnc hcm hr hmeek
  go_enter Try.func6, Try.ntmps6
  go_wp2_with fail
  refine (winalive_any _).mono ?_
  rintro e w1 ⟨rfl, hb1⟩
  have HGR := Lib.hid (great_any (· < w.heap.size) A n c l w1 HN.out (HR.out.new hb1) (Nat.le_trans HNC.out HCM.out))
  go_wp2_with fail
  refine HGR.out.mono ?_
  rintro e w2 ⟨b, rfl, hb2, hbk⟩
  have hb02 := below_new hb1 hb2
  clear hb1 hb2 HGR
  cases b with
  | true =>
    clear hbk
    go_wp2
    go_ret
    exact ⟨rfl, hb02⟩
  | false =>
    have HBK : Hid (bulk l ≤ 3000) := Lib.hid (hbk rfl HME.out)
    clear hbk
    by_cases h60 : 100 < n
    · have h60' : (100 : Int) < (n : Int) := by omega
      go_wp2
      go_ret
      exact ⟨rfl, hb02⟩
    · have h60' : ¬ (100 : Int) < (n : Int) := by omega
      have HEM : Hid (∀ e ∈ l, e.M.length ≤ 1000000) := Lib.hid (fun e he => by have := bulk_mem he; have := HBK.out; omega)
      have hld := pload_any (· < w.heap.size) A n c l 0 sz w2 HN.out (HR.out.below hb02 (fun b hb _ => hb)) (by omega) HEM.out
      obtain ⟨y, hy⟩ : ∃ y, y = loadQ l 0 sz := ⟨_, rfl⟩
      rw [← hy] at hld
      have HY := Lib.hid hy
      have hee : y.2.2 = if sz < 1 ∨ 16 < sz then 2 else 0 := by rw [hy, loadQ_err]
      clear hy
      obtain ⟨ld, kk, ee⟩ := y
      unfold loadV at hld
      simp only at hee
      have HLD := Lib.hid hld
      clear hld
      by_cases hsz : sz < 1 ∨ 16 < sz
      · rw [if_pos hsz] at hee
        subst hee
        clear hsz
        go_wp2_with fail
        refine HLD.out.mono ?_
        rintro e w3 ⟨rfl, hb3⟩
        have hb03 := below_new hb02 hb3
        clear HLD hb3
        go_wp2
        go_ret
        exact ⟨rfl, hb03⟩
      · rw [if_neg hsz] at hee
        subst hee
        have HSZ := Lib.hid hsz
        clear hsz
        go_wp2_with fail
        refine HLD.out.mono ?_
        rintro e w3 ⟨rfl, hb3⟩
        have hb03 := below_new hb02 hb3
        clear HLD hb3 hb02
        have S1 := Lib.hid (fun W => sample_any 7 1 v W)
        have S2 := Lib.hid (fun W => sample_any 7 2 v W)
        have S3 := Lib.hid (fun W => sample_any 7 3 v W)
        have ev1 : IntKind.i64.wrap v = v := IntWalk.i64_in _ (by omega)
        have S1' : ∀ W, Calls Try.prog 17 #[.int .i64 7, .int .i64 1, .int .i64 v] W fun e w' => e = .returned (ev (sF 7 1 v) none 0 0) ∧ Below W.heap.size W w' := S1.out
        have S2' : ∀ W, Calls Try.prog 17 #[.int .i64 7, .int .i64 2, .int .i64 v] W fun e w' => e = .returned (ev (sF 7 2 v) none 0 0) ∧ Below W.heap.size W w' := S2.out
        have S3' : ∀ W, Calls Try.prog 17 #[.int .i64 7, .int .i64 3, .int .i64 v] W fun e w' => e = .returned (ev (sF 7 3 v) none 0 0) ∧ Below W.heap.size W w' := S3.out
        simp only [sF_ev] at S1' S2' S3'
        have T1 := Lib.hid S1'
        have T2 := Lib.hid S2'
        have T3 := Lib.hid S3'
        clear S1 S2 S3 S1' S2' S3'
        go_wp2_with fail
        refine (T1.out _).mono ?_
        rintro e w4 ⟨rfl, hb4⟩
        have hb04 := below_new hb03 hb4
        clear hb03 hb4 T1
        go_wp2_with fail
        refine (T2.out _).mono ?_
        rintro e w5 ⟨rfl, hb5⟩
        have hb05 := below_new hb04 hb5
        clear hb04 hb5 T2
        go_wp2_with fail
        refine (T3.out _).mono ?_
        rintro e w6 ⟨rfl, hb6⟩
        have hb06 := below_new hb05 hb6
        clear hb05 hb6 T3
        obtain ⟨w7, hw7⟩ : ∃ W, ((w6.alloc (.cells (ecs (oF v) none 0 0) 46)).alloc (.cells (ecs (tF v) none 0 0) 46)).alloc (.cells (ecs (sF 7 3 v) none 0 0) 46) = W := ⟨_, rfl⟩
        have hb7 : Below w6.heap.size w6 w7 := by rw [← hw7]; exact (b_alloc2 _ _ _).trans ((b_alloc _ _).mono (b_alloc2 _ _ _).size)
        obtain ⟨hA7, hT7, hS7⟩ := blo3 (w := w6) (t := 46) (a := ecs (oF v) none 0 0) (b := ecs (tF v) none 0 0) (c := ecs (sF 7 3 v) none 0 0)
        rw [hw7] at hA7 hT7 hS7
        have hb07 := below_new hb06 hb7
        have HW7 : Hid (((w6.alloc (.cells #[.int .i64 7, .int .i64 1, .int .i64 1, .int .i64 1, .int .i64 1, .int .i64 v, .int .i64 0, .int .i64 0, .int .i64 0, .int .i64 0, .int .i64 0, .int .i64 0, .int .i64 0, .slice none 0 0] 46)).alloc (.cells #[.int .i64 7, .int .i64 2, .int .i64 1, .int .i64 2, .int .i64 0, .int .i64 v, .int .i64 0, .int .i64 0, .int .i64 0, .int .i64 0, .int .i64 0, .int .i64 0, .int .i64 0, .slice none 0 0] 46)).alloc (.cells #[.int .i64 7, .int .i64 3, .int .i64 1, .int .i64 1, .int .i64 0, .int .i64 v, .int .i64 0, .int .i64 0, .int .i64 0, .int .i64 0, .int .i64 0, .int .i64 0, .int .i64 0, .slice none 0 0] 46) = w7) := Lib.hid (by rw [← hw7]; rfl)
        obtain ⟨gA, hgA⟩ : ∃ g, g = w6.heap.size := ⟨_, rfl⟩
        obtain ⟨gT, hgT⟩ : ∃ g, g = gA + 1 := ⟨_, rfl⟩
        obtain ⟨gS, hgS⟩ : ∃ g, g = gT + 1 := ⟨_, rfl⟩
        rw [← hgA] at hA7 hT7 hS7
        rw [← hgT] at hT7 hS7
        rw [← hgS] at hS7
        have HA := Lib.hid (fun W (h : Below w7.heap.size w7 W) => hA7.new h)
        have HT := Lib.hid (fun W (h : Below w7.heap.size w7 W) => hT7.new h)
        have HS := Lib.hid (fun W (h : Below w7.heap.size w7 W) => hS7.new h)
        have HG := Lib.hid (And.intro hgA (And.intro hgT hgS))
        have HR7 : Hid (∀ W, Below w7.heap.size w7 W → ERds W (· < w.heap.size) A l) := Lib.hid (fun W h => HR.out.below (below_new hb07 h) (fun b hb _ => hb))
        have HBW : Hid (∀ b, b < w.heap.size → b < w7.heap.size) := Lib.hid (fun b hb => by have := hb07.size; omega)
        have HX0 : Hid (∀ f, AddX w7 w7.heap.size l [⟨oF v, [], none, 0⟩, ⟨tF v, [], none, 0⟩] (fun _ => false) f w7) := Lib.hid (fun f => ⟨Below.refl _ _, fun e => (by cases e), fun e => (by cases e), fun e => (by cases e), fun e => (by cases e)⟩)
        have HQ1 : Hid (loadQ (l ++ [(⟨oF v, [], none, 0⟩ : EvV), ⟨tF v, [], none, 0⟩]) 0 sz = (ld, kk, 0)) := Lib.hid (by rw [loadQ_other (by simp [oF]) (by simp [tF]), ← HY.out])
        have HE1 : Hid (∀ e ∈ l ++ [(⟨oF v, [], none, 0⟩ : EvV), ⟨tF v, [], none, 0⟩], e.M.length ≤ 1000000) := Lib.hid (fun e he => by
          rcases List.mem_append.1 he with h | h
          · exact HEM.out e h
          · simp at h
            rcases h with rfl | rfl <;> simp)
        clear hw7 hb7 hA7 hT7 hS7 hgA hgT hgS hb06
        go_wp2_with fail
        rw [HW7.out, ← HG.out.1, ← HG.out.2.1, ← HG.out.2.2]
        refine wp_famY (size := 114) (D := [48, 49, 50, 51, 52, 53, 54, 55, 56, 47, 57, 58, 59, 13, 14, 15]) [0, 2, 3, 4, 5, 6, 8] [48, 50, 53, 54] [(49, isV (.slice A n c)), (51, isV (.agg #[.int .i64 7, .int .i64 1, .int .i64 1, .int .i64 1, .int .i64 1, .int .i64 v, .int .i64 0, .int .i64 0, .int .i64 0, .int .i64 0, .int .i64 0, .int .i64 0, .int .i64 0, .slice none 0 0])), (52, isV (.agg #[.int .i64 7, .int .i64 2, .int .i64 1, .int .i64 2, .int .i64 0, .int .i64 v, .int .i64 0, .int .i64 0, .int .i64 0, .int .i64 0, .int .i64 0, .int .i64 0, .int .i64 0, .slice none 0 0])), (55, isV (.int .i64 sz)), (56, isV (.tuple #[.int .i64 ld, .int .i64 kk, .int .i64 0])), (47, isV (.tuple #[.int .i64 ld, .int .i64 kk, .int .i64 0])), (57, isV (.int .i64 ld)), (58, isV (.int .i64 kk)), (59, isV (.int .i64 0)), (13, isV (.int .i64 ld)), (14, isV (.int .i64 kk)), (15, isV (.int .i64 0))] (AddX w7 w7.heap.size l [⟨oF v, [], none, 0⟩, ⟨tF v, [], none, 0⟩]) (AddX.up (Nat.le_refl _)) (by kernel_rfl) (by rfl) (by kernel_rfl) (HX0.out _) ?_ ?_
        · simp only [famAllY]
          repeat' apply And.intro
          · rw [if_pos (by decide)]
            intro L f W hi hcl hwt hX hl
            simp [Oper.looksAt, Op.operands, Call.operands, famAt, famOf, isV] at hl
            have h2 : L 2 = false := by
              cases e : L 2 with
              | false => rfl
              | true => rw [hcl 2 0 (by kernel_rfl) e] at hi; cases hi
            have h6 : L 6 = false := by
              cases e : L 6 with
              | false => rfl
              | true => rw [hcl 6 2 (by kernel_rfl) e] at h2; cases h2
            have hfin := hX.lit0 (Nat.le_refl _) h2 h6
            simp [famWants, boolIs_bool, boolIs_undef, execOp, rho, go_sem, hl, famUpon, famOf, isV]
            exact hfin
          · rw [if_neg (by decide)]
            intro f W hl
            simp [Oper.looksAt, Op.operands, Call.operands, famAt, famOf, isV] at hl
            simp [famWants, boolIs_bool, boolIs_undef, execOp, rho, go_sem, hl, famUpon, famOf, isV, Grows.refl]
          · rw [if_pos (by decide)]
            intro L f W hi hcl hwt hX hl
            simp [Oper.looksAt, Op.operands, Call.operands, famAt, famOf, isV] at hl
            have h6 : L 6 = false := by
              cases e : L 6 with
              | false => rfl
              | true => rw [hcl 6 2 (by kernel_rfl) e] at hi; cases hi
            have h0 : L 0 = true := hwt 0 (by kernel_rfl)
            obtain ⟨b0, e48, v', W', hrun, hfin⟩ := hX.app (Nat.le_refl _) h0 hi h6 (T := (· < w.heap.size)) (A := A) (c := c) HN.out (HR7.out W hX.1) HBW.out (by have := HN.out; omega)
            refine ⟨fun _ => ?_, fun hh => ?_⟩
            · simp only [execOp, resolve, invoke, builtin, rho, Sem.run_bind, Sem.run_pure, Result.andThen_ok, List.map_toArray, List.map_cons, List.map_nil, hl, e48, hrun, famUpon]
              exact ⟨fun d hd => by cases hd; exact trivial, hfin⟩
            · simp [famWants] at hh
          · rw [if_pos (by decide)]
            intro L f W hi hcl hwt hX hl
            simp [Oper.looksAt, Op.operands, Call.operands, famAt, famOf, isV] at hl
            obtain ⟨z0, z1, z2, z3, z4, z5, z6, z7, z8, z9, z10, z11, z12, z13⟩ := set14 (HA.out W hX.1)
            simp [oF, tF, sF] at z0 z1 z2 z3 z4 z5 z6 z7 z8 z9 z10 z11 z12 z13
            have hps := hX.pass (k := 3) (s := 51) (v := .agg #[.int .i64 7, .int .i64 1, .int .i64 1, .int .i64 1, .int .i64 1, .int .i64 v, .int .i64 0, .int .i64 0, .int .i64 0, .int .i64 0, .int .i64 0, .int .i64 0, .int .i64 0, .slice none 0 0]) (by decide) (by decide)
            simp [famWants, boolIs_bool, boolIs_undef, execOp, rho, go_sem, hl, z0, z1, z2, z3, z4, z5, z6, z7, z8, z9, z10, z11, z12, z13, famUpon, famOf, isV]
            exact hps
          · rw [if_pos (by decide)]
            intro L f W hi hcl hwt hX hl
            simp [Oper.looksAt, Op.operands, Call.operands, famAt, famOf, isV] at hl
            obtain ⟨z0, z1, z2, z3, z4, z5, z6, z7, z8, z9, z10, z11, z12, z13⟩ := set14 (HT.out W hX.1)
            simp [oF, tF, sF] at z0 z1 z2 z3 z4 z5 z6 z7 z8 z9 z10 z11 z12 z13
            have hps := hX.pass (k := 4) (s := 52) (v := .agg #[.int .i64 7, .int .i64 2, .int .i64 1, .int .i64 2, .int .i64 0, .int .i64 v, .int .i64 0, .int .i64 0, .int .i64 0, .int .i64 0, .int .i64 0, .int .i64 0, .int .i64 0, .slice none 0 0]) (by decide) (by decide)
            simp [famWants, boolIs_bool, boolIs_undef, execOp, rho, go_sem, hl, z0, z1, z2, z3, z4, z5, z6, z7, z8, z9, z10, z11, z12, z13, famUpon, famOf, isV]
            exact hps
          · rw [if_pos (by decide)]
            intro L f W hi hcl hwt hX hl
            simp [Oper.looksAt, Op.operands, Call.operands, famAt, famOf, isV] at hl
            have h6 : L 6 = false := by
              cases e : L 6 with
              | false => rfl
              | true => rw [hcl 6 5 (by kernel_rfl) e] at hi; cases hi
            have hfin := hX.lit (Nat.le_refl _) h6 (cs := #[.int .i64 7, .int .i64 1, .int .i64 1, .int .i64 1, .int .i64 1, .int .i64 v, .int .i64 0, .int .i64 0, .int .i64 0, .int .i64 0, .int .i64 0, .int .i64 0, .int .i64 0, .slice none 0 0, .int .i64 7, .int .i64 2, .int .i64 1, .int .i64 2, .int .i64 0, .int .i64 v, .int .i64 0, .int .i64 0, .int .i64 0, .int .i64 0, .int .i64 0, .int .i64 0, .int .i64 0, .slice none 0 0]) rfl (k := 2) rfl
            simp [famWants, boolIs_bool, boolIs_undef, execOp, rho, go_sem, hl, famUpon, famOf, isV]
            exact hfin
          · rw [if_pos (by decide)]
            intro L f W hi hcl hwt hX hl
            simp [Oper.looksAt, Op.operands, Call.operands, famAt, famOf, isV] at hl
            have h8 : L 8 = false := by
              cases e : L 8 with
              | false => rfl
              | true => rw [hcl 8 6 (by kernel_rfl) e] at hi; cases hi
            have h2 : L 2 = true := hwt 2 (by kernel_rfl)
            have h5 : L 5 = true := hwt 5 (by kernel_rfl)
            obtain ⟨A2, c2, b, e50, e53, v', W', hrun, hfin⟩ := hX.app2 (Nat.le_refl _) h2 h5 hi h8 (by intro e he; simp at he; rcases he with rfl | rfl <;> rfl) (by have := HN.out; simp; omega)
            refine ⟨fun _ => ?_, fun hh => ?_⟩
            · simp only [execOp, resolve, invoke, builtin, rho, Sem.run_bind, Sem.run_pure, Result.andThen_ok, List.map_toArray, List.map_cons, List.map_nil, hl, e50, e53, hrun, famUpon]
              exact ⟨fun d hd => by cases hd; exact trivial, hfin⟩
            · simp [famWants] at hh
          · rw [if_neg (by decide)]
            intro f W hl
            simp [Oper.looksAt, Op.operands, Call.operands, famAt, famOf, isV] at hl
            simp [famWants, boolIs_bool, boolIs_undef, execOp, rho, go_sem, hl, famUpon, famOf, isV, Grows.refl]
          · rw [if_pos (by decide)]
            intro L f W hi hcl hwt hX hl
            simp [Oper.looksAt, Op.operands, Call.operands, famAt, famOf, isV] at hl
            have h6 : L 6 = true := hwt 6 (by kernel_rfl)
            have h2 : L 2 = true := hcl 6 2 (by kernel_rfl) h6
            obtain ⟨A3, c3, e54, hO3⟩ := hX.2.2.2.2 h6 hi
            have hc := pload_any (fun _ => True) A3 _ c3 _ 0 sz W rfl hO3.erds (by have := HN.out; simp; omega) HE1.out
            rw [HQ1.out] at hc
            unfold loadV at hc
            simp only at hc
            obtain ⟨N3, hN3⟩ : ∃ N, N = (l ++ [(⟨oF v, [], none, 0⟩ : EvV), ⟨tF v, [], none, 0⟩]).length := ⟨_, rfl⟩
            rw [← hN3] at e54 hc
            simp [famWants, boolIs_bool, boolIs_undef, execOp, rho, go_sem, hl, e54, famUpon, famOf, isV]
            refine hc.mono ?_
            rintro e w'' ⟨rfl, hg'⟩
            exact ⟨_, rfl, rfl, hX.ask (Nat.le_refl _) h2 h6 hg'⟩
          · rw [if_neg (by decide)]
            intro f W hl
            simp [Oper.looksAt, Op.operands, Call.operands, famAt, famOf, isV] at hl
            simp [famWants, boolIs_bool, boolIs_undef, execOp, rho, go_sem, hl, famUpon, famOf, isV, Grows.refl]
          · rw [if_neg (by decide)]
            intro f W hl
            simp [Oper.looksAt, Op.operands, Call.operands, famAt, famOf, isV] at hl
            simp [famWants, boolIs_bool, boolIs_undef, execOp, rho, go_sem, hl, famUpon, famOf, isV, Grows.refl]
          · rw [if_neg (by decide)]
            intro f W hl
            simp [Oper.looksAt, Op.operands, Call.operands, famAt, famOf, isV] at hl
            simp [famWants, boolIs_bool, boolIs_undef, execOp, rho, go_sem, hl, famUpon, famOf, isV, Grows.refl]
          · rw [if_neg (by decide)]
            intro f W hl
            simp [Oper.looksAt, Op.operands, Call.operands, famAt, famOf, isV] at hl
            simp [famWants, boolIs_bool, boolIs_undef, execOp, rho, go_sem, hl, famUpon, famOf, isV, Grows.refl]
          · rw [if_neg (by decide)]
            intro f W hl
            simp [Oper.looksAt, Op.operands, Call.operands, famAt, famOf, isV] at hl
            simp [famWants, boolIs_bool, boolIs_undef, execOp, rho, go_sem, hl, famUpon, famOf, isV, Grows.refl]
          · rw [if_neg (by decide)]
            intro f W hl
            simp [Oper.looksAt, Op.operands, Call.operands, famAt, famOf, isV] at hl
            simp [famWants, boolIs_bool, boolIs_undef, execOp, rho, go_sem, hl, famUpon, famOf, isV, Grows.refl]
          · rw [if_neg (by decide)]
            intro f W hl
            simp [Oper.looksAt, Op.operands, Call.operands, famAt, famOf, isV] at hl
            simp [famWants, boolIs_bool, boolIs_undef, execOp, rho, go_sem, hl, famUpon, famOf, isV, Grows.refl]
          · trivial
        · intro L u W hL hX hu
          have hbW := hX.1
          have e13 : u 13 = .int .i64 ld := hu 13 (by decide)
          have e14 : u 14 = .int .i64 kk := hu 14 (by decide)
          have e15 : u 15 = .int .i64 0 := hu 15 (by decide)
          simp only [fill, Act.put, List.setIfInBounds_toArray, List.set_cons_zero, List.set_cons_succ, e13, e14, e15]
          refine wpList_nil ?_
          clear hL hu e13 e14 e15 hX HX0
          obtain ⟨w8, hw8⟩ : ∃ x, x = W := ⟨_, rfl⟩
          rw [← hw8] at hbW ⊢
          clear hw8
          go_wp2_with fail
          go_loopw [70] (fun iv wr => ∃ i : Nat, iv = .int .i64 i ∧ i ≤ n ∧ Hid (smps 0 7 (l.take i) = []) ∧ Below w7.heap.size w7 wr) (fun iv _ => n - (intOf iv).toNat)
          case atStart => exact ⟨0, rfl, by omega, Lib.hid rfl, hbW⟩
          case round =>
            clear hbW
            obtain ⟨i, rfl, hi, HSM, hbr⟩ := hrel
            by_cases hlt : i < n
            · have hlt' : i < l.length := by rw [HN.out]; exact hlt
              have hiN : (i : Int) < (n : Int) := by omega
              obtain ⟨ad, rfl, _, _, c0, c1, c2, c3, c4, c5, c6, c7, c8, c9, c10, c11, c12, c13⟩ := (HR7.out wr hbr).cells hlt'
              obtain ⟨x, hx⟩ : ∃ x, x = l[i] := ⟨_, rfl⟩
              rw [← hx] at c0 c1 c2 c3 c4 c5 c6 c7 c8 c9 c10 c11 c12 c13
              have HX := Lib.hid hx
              obtain ⟨F, M, Ax, cx⟩ := x
              simp only at c0 c1 c2 c3 c4 c5 c6 c7 c8 c9 c10 c11 c12 c13
              obtain ⟨q, hq⟩ : ∃ q, M.length = q := ⟨_, rfl⟩
              rw [hq] at c13
              obtain ⟨w9, hw9⟩ : ∃ W, wr.alloc (.cells (ecs F Ax q cx) 46) = W := ⟨_, rfl⟩
              have hb9 : Below w7.heap.size w7 w9 := below_new hbr (by rw [← hw9]; exact b_alloc _ _)
              have HW9 := Lib.hid hw9
              clear hx hq hw9 hbr
              by_cases hset : F 3 = 1 ∧ F 4 = 0 ∧ F 0 = 7
              · have h3' : (F 3 == 1) = true := by simpa using hset.1
                have h4' : (F 4 == 0) = true := by simpa using hset.2.1
                have h0' : (F 0 == 7) = true := by simpa using hset.2.2
                have hbf := below_new hb07 hb9
                clear hset
                go_wp2_with fail
                rw [HW9.out]
                go_ret
                exact ⟨rfl, hbf⟩
              · have HSM2 : Hid (smps 0 7 (l.take (i + 1)) = []) := Lib.hid (by rw [smps_no hlt' (by rw [← HX.out]; exact hset)]; exact HSM.out)
                by_cases h3 : F 3 = 1
                · have h3' : (F 3 == 1) = true := by simpa using h3
                  by_cases h4 : F 4 = 0
                  · have h4' : (F 4 == 0) = true := by simpa using h4
                    have h0' : (F 0 == 7) = false := by simpa using fun h => hset ⟨h3, h4, h⟩
                    clear hset h3 h4
                    go_wp2
                    rw [HW9.out]
                    go_roundw
                    case rel => exact ⟨i + 1, by go_num, by omega, HSM2, hb9⟩
                    case measure => simp [intOf]; omega
                  · have h4' : (F 4 == 0) = false := by simpa using h4
                    clear hset h3 h4
                    go_wp2
                    rw [HW9.out]
                    go_roundw
                    case rel => exact ⟨i + 1, by go_num, by omega, HSM2, hb9⟩
                    case measure => simp [intOf]; omega
                · have h3' : (F 3 == 1) = false := by simpa using h3
                  clear hset h3
                  go_wp2
                  rw [HW9.out]
                  go_roundw
                  case rel => exact ⟨i + 1, by go_num, by omega, HSM2, hb9⟩
                  case measure => simp [intOf]; omega
            · have HSN : Hid (smps 0 7 l = []) := Lib.hid (by have h := HSM.out; rwa [List.take_of_length_le (by rw [HN.out]; omega)] at h)
              have hiN : ¬ (i : Int) < (n : Int) := by omega
              clear HSM
              obtain ⟨w9, hw9⟩ : ∃ x, x = wr := ⟨_, rfl⟩
              rw [← hw9] at hbr ⊢
              clear hw9
              have hb09 := below_new hb07 hbr
              have HR9 : Hid (∀ W, Below w9.heap.size w9 W → ERds W (· < w.heap.size) A l) := Lib.hid (fun W h => HR7.out W (below_new hbr h))
              have HBW9 : Hid (∀ b, b < w.heap.size → b < w9.heap.size) := Lib.hid (fun b hb => by have := hb09.size; omega)
              have HS9 : Hid (∀ W, Below w9.heap.size w9 W → Blo W gS 46 (ecs (sF 7 3 v) none 0 0)) := Lib.hid (fun W h => HS.out W (below_new hbr h))
              have HX0 : Hid (∀ f, AddY w9 w9.heap.size l [⟨sF 7 3 v, [], none, 0⟩] (fun _ => false) f w9) := Lib.hid (fun f => ⟨Below.refl _ _, fun e => (by cases e), fun e => (by cases e), fun e => (by cases e), fun e => (by cases e)⟩)
              obtain ⟨nl, hnl⟩ : ∃ x, x = min (ld + v) 1099511627776 := ⟨_, rfl⟩
              obtain ⟨nk, hnk⟩ : ∃ x, x = kk + 1 := ⟨_, rfl⟩
              have HQ2 : Hid (loadQ (l ++ [(⟨sF 7 3 v, [], none, 0⟩ : EvV)]) 0 sz = (nl, nk, 0)) := Lib.hid (by
                rw [loadQ_own (v := v) (by rfl) (by rfl) (by rfl) (by rfl) hv0 hv1 HSZ.out HSN.out, ← HY.out, hnl, hnk])
              have HKB : Hid (0 ≤ kk ∧ kk ≤ 8) := Lib.hid (by
                have h1 := HY.out
                unfold loadQ at h1
                rw [if_neg HSZ.out] at h1
                injection h1 with h2 h3
                injection h3 with h3 h4
                have h5 := ldQ_cnt l 0 sz 8
                rw [h3]; exact h5)
              have HLB : Hid (-1099511627776 ≤ ld ∧ ld ≤ 1099511627776) := Lib.hid (by
                have h1 := HY.out
                unfold loadQ at h1
                rw [if_neg HSZ.out] at h1
                injection h1 with h2 h3
                rw [h2]; exact ldQ_bd l 0 sz 8)
              have HNL := Lib.hid hnl
              have HNK := Lib.hid hnk
              have HE2 : Hid (∀ e ∈ l ++ [(⟨sF 7 3 v, [], none, 0⟩ : EvV)], e.M.length ≤ 1000000) := Lib.hid (fun e he => by
                rcases List.mem_append.1 he with h | h
                · exact HEM.out e h
                · simp at h
                  rw [h]; simp)
              clear hnl hnk
              go_wp2_with fail
              refine wp_famY (size := 114) (D := [90, 91, 92, 93, 94, 95, 96, 97, 89, 98, 99, 100, 13, 14]) [0, 2, 3, 4, 5, 7] [90, 92, 94, 95] [(91, isV (.slice A n c)), (93, isV (.agg #[.int .i64 7, .int .i64 3, .int .i64 1, .int .i64 1, .int .i64 0, .int .i64 v, .int .i64 0, .int .i64 0, .int .i64 0, .int .i64 0, .int .i64 0, .int .i64 0, .int .i64 0, .slice none 0 0])), (96, isV (.int .i64 sz)), (97, isV (.tuple #[.int .i64 nl, .int .i64 nk, .int .i64 0])), (89, isV (.tuple #[.int .i64 nl, .int .i64 nk, .int .i64 0])), (98, isV (.int .i64 nl)), (99, isV (.int .i64 nk)), (100, isV (.int .i64 0)), (13, isV (.int .i64 nl)), (14, isV (.int .i64 nk))] (AddY w9 w9.heap.size l [⟨sF 7 3 v, [], none, 0⟩]) (AddY.up (Nat.le_refl _)) (by kernel_rfl) (by rfl) (by kernel_rfl) (HX0.out _) ?_ ?_
              · simp only [famAllY]
                repeat' apply And.intro
                · rw [if_pos (by decide)]
                  intro L f W hi hcl hwt hX hl
                  simp [Oper.looksAt, Op.operands, Call.operands, famAt, famOf, isV] at hl
                  have h2 : L 2 = false := by
                    cases e : L 2 with
                    | false => rfl
                    | true => rw [hcl 2 0 (by kernel_rfl) e] at hi; cases hi
                  have h5 : L 5 = false := by
                    cases e : L 5 with
                    | false => rfl
                    | true => rw [hcl 5 2 (by kernel_rfl) e] at h2; cases h2
                  have hfin := hX.lit0 (Nat.le_refl _) h2 h5
                  simp [famWants, boolIs_bool, boolIs_undef, execOp, rho, go_sem, hl, famUpon, famOf, isV]
                  exact hfin
                · rw [if_neg (by decide)]
                  intro f W hl
                  simp [Oper.looksAt, Op.operands, Call.operands, famAt, famOf, isV] at hl
                  simp [famWants, boolIs_bool, boolIs_undef, execOp, rho, go_sem, hl, famUpon, famOf, isV, Grows.refl]
                · rw [if_pos (by decide)]
                  intro L f W hi hcl hwt hX hl
                  simp [Oper.looksAt, Op.operands, Call.operands, famAt, famOf, isV] at hl
                  have h5 : L 5 = false := by
                    cases e : L 5 with
                    | false => rfl
                    | true => rw [hcl 5 2 (by kernel_rfl) e] at hi; cases hi
                  have h0 : L 0 = true := hwt 0 (by kernel_rfl)
                  obtain ⟨b0, e90, v', W', hrun, hfin⟩ := hX.app (Nat.le_refl _) h0 hi h5 (T := (· < w.heap.size)) (A := A) (c := c) HN.out (HR9.out W hX.1) HBW9.out (by have := HN.out; omega)
                  refine ⟨fun _ => ?_, fun hh => ?_⟩
                  · simp only [execOp, resolve, invoke, builtin, rho, Sem.run_bind, Sem.run_pure, Result.andThen_ok, List.map_toArray, List.map_cons, List.map_nil, hl, e90, hrun, famUpon]
                    exact ⟨fun d hd => by cases hd; exact trivial, hfin⟩
                  · simp [famWants] at hh
                · rw [if_pos (by decide)]
                  intro L f W hi hcl hwt hX hl
                  simp [Oper.looksAt, Op.operands, Call.operands, famAt, famOf, isV] at hl
                  obtain ⟨z0, z1, z2, z3, z4, z5, z6, z7, z8, z9, z10, z11, z12, z13⟩ := set14 (HS9.out W hX.1)
                  simp [oF, tF, sF] at z0 z1 z2 z3 z4 z5 z6 z7 z8 z9 z10 z11 z12 z13
                  have hps := hX.pass (k := 3) (s := 93) (v := .agg #[.int .i64 7, .int .i64 3, .int .i64 1, .int .i64 1, .int .i64 0, .int .i64 v, .int .i64 0, .int .i64 0, .int .i64 0, .int .i64 0, .int .i64 0, .int .i64 0, .int .i64 0, .slice none 0 0]) (by decide) (by decide)
                  simp [famWants, boolIs_bool, boolIs_undef, execOp, rho, go_sem, hl, z0, z1, z2, z3, z4, z5, z6, z7, z8, z9, z10, z11, z12, z13, famUpon, famOf, isV]
                  exact hps
                · rw [if_pos (by decide)]
                  intro L f W hi hcl hwt hX hl
                  simp [Oper.looksAt, Op.operands, Call.operands, famAt, famOf, isV] at hl
                  have h5 : L 5 = false := by
                    cases e : L 5 with
                    | false => rfl
                    | true => rw [hcl 5 4 (by kernel_rfl) e] at hi; cases hi
                  have hfin := hX.lit (Nat.le_refl _) h5 (cs := #[.int .i64 7, .int .i64 3, .int .i64 1, .int .i64 1, .int .i64 0, .int .i64 v, .int .i64 0, .int .i64 0, .int .i64 0, .int .i64 0, .int .i64 0, .int .i64 0, .int .i64 0, .slice none 0 0]) rfl (k := 1) rfl
                  simp [famWants, boolIs_bool, boolIs_undef, execOp, rho, go_sem, hl, famUpon, famOf, isV]
                  exact hfin
                · rw [if_pos (by decide)]
                  intro L f W hi hcl hwt hX hl
                  simp [Oper.looksAt, Op.operands, Call.operands, famAt, famOf, isV] at hl
                  have h7 : L 7 = false := by
                    cases e : L 7 with
                    | false => rfl
                    | true => rw [hcl 7 5 (by kernel_rfl) e] at hi; cases hi
                  have h2 : L 2 = true := hwt 2 (by kernel_rfl)
                  have h4 : L 4 = true := hwt 4 (by kernel_rfl)
                  obtain ⟨A2, c2, b, e92, e94, v', W', hrun, hfin⟩ := hX.app2 (Nat.le_refl _) h2 h4 hi h7 (by intro e he; simp at he; rw [he]) (by have := HN.out; simp; omega)
                  refine ⟨fun _ => ?_, fun hh => ?_⟩
                  · simp only [execOp, resolve, invoke, builtin, rho, Sem.run_bind, Sem.run_pure, Result.andThen_ok, List.map_toArray, List.map_cons, List.map_nil, hl, e92, e94, hrun, famUpon]
                    exact ⟨fun d hd => by cases hd; exact trivial, hfin⟩
                  · simp [famWants] at hh
                · rw [if_neg (by decide)]
                  intro f W hl
                  simp [Oper.looksAt, Op.operands, Call.operands, famAt, famOf, isV] at hl
                  simp [famWants, boolIs_bool, boolIs_undef, execOp, rho, go_sem, hl, famUpon, famOf, isV, Grows.refl]
                · rw [if_pos (by decide)]
                  intro L f W hi hcl hwt hX hl
                  simp [Oper.looksAt, Op.operands, Call.operands, famAt, famOf, isV] at hl
                  have h5 : L 5 = true := hwt 5 (by kernel_rfl)
                  have h2 : L 2 = true := hcl 5 2 (by kernel_rfl) h5
                  obtain ⟨A3, c3, e95, hO3⟩ := hX.2.2.2.2 h5 hi
                  have hc := pload_any (fun _ => True) A3 _ c3 _ 0 sz W rfl hO3.erds (by have := HN.out; simp; omega) HE2.out
                  rw [HQ2.out] at hc
                  unfold loadV at hc
                  simp only at hc
                  obtain ⟨N3, hN3⟩ : ∃ N, N = (l ++ [(⟨sF 7 3 v, [], none, 0⟩ : EvV)]).length := ⟨_, rfl⟩
                  rw [← hN3] at e95 hc
                  simp [famWants, boolIs_bool, boolIs_undef, execOp, rho, go_sem, hl, e95, famUpon, famOf, isV]
                  refine hc.mono ?_
                  rintro e w'' ⟨rfl, hg'⟩
                  exact ⟨_, rfl, rfl, hX.ask (Nat.le_refl _) h2 h5 hg'⟩
                · rw [if_neg (by decide)]
                  intro f W hl
                  simp [Oper.looksAt, Op.operands, Call.operands, famAt, famOf, isV] at hl
                  simp [famWants, boolIs_bool, boolIs_undef, execOp, rho, go_sem, hl, famUpon, famOf, isV, Grows.refl]
                · rw [if_neg (by decide)]
                  intro f W hl
                  simp [Oper.looksAt, Op.operands, Call.operands, famAt, famOf, isV] at hl
                  simp [famWants, boolIs_bool, boolIs_undef, execOp, rho, go_sem, hl, famUpon, famOf, isV, Grows.refl]
                · rw [if_neg (by decide)]
                  intro f W hl
                  simp [Oper.looksAt, Op.operands, Call.operands, famAt, famOf, isV] at hl
                  simp [famWants, boolIs_bool, boolIs_undef, execOp, rho, go_sem, hl, famUpon, famOf, isV, Grows.refl]
                · rw [if_neg (by decide)]
                  intro f W hl
                  simp [Oper.looksAt, Op.operands, Call.operands, famAt, famOf, isV] at hl
                  simp [famWants, boolIs_bool, boolIs_undef, execOp, rho, go_sem, hl, famUpon, famOf, isV, Grows.refl]
                · rw [if_neg (by decide)]
                  intro f W hl
                  simp [Oper.looksAt, Op.operands, Call.operands, famAt, famOf, isV] at hl
                  simp [famWants, boolIs_bool, boolIs_undef, execOp, rho, go_sem, hl, famUpon, famOf, isV, Grows.refl]
                · rw [if_neg (by decide)]
                  intro f W hl
                  simp [Oper.looksAt, Op.operands, Call.operands, famAt, famOf, isV] at hl
                  simp [famWants, boolIs_bool, boolIs_undef, execOp, rho, go_sem, hl, famUpon, famOf, isV, Grows.refl]
                · trivial
              · intro L u W hL hX hu
                have hbW := hX.1
                have e13 : u 13 = .int .i64 nl := hu 13 (by decide)
                have e14 : u 14 = .int .i64 nk := hu 14 (by decide)
                simp only [fill, Act.put, List.setIfInBounds_toArray, List.set_cons_zero, List.set_cons_succ, e13, e14]
                refine wpList_nil ?_
                have hbf := below_new hb09 hbW
                clear hL hu e13 e14 hX HX0
                have ew : IntKind.i64.wrap (ld + v) = ld + v := IntWalk.i64_in _ (by have := HLB.out; omega)
                have ek : IntKind.i64.wrap (kk + 1) = kk + 1 := IntWalk.i64_in _ (by have := HKB.out; omega)
                have hnk := HNK.out
                subst hnk
                by_cases hT : (1099511627776 : Int) < ld + v
                · obtain rfl : nl = 1099511627776 := by rw [HNL.out]; omega
                  have hk1 : (kk + 1 == kk + 1) = true := by simp
                  go_wp2
                  go_ret
                  exact ⟨rfl, hbf⟩
                · obtain rfl : nl = ld + v := by rw [HNL.out]; omega
                  have hk1 : (kk + 1 == kk + 1) = true := by simp
                  go_wp2
                  go_ret
                  exact ⟨rfl, hbf⟩
end Go.Proofs.Ytodlifbhpgphcaa
