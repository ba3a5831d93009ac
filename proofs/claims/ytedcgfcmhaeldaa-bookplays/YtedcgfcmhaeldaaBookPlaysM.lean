/- The walk of BookPlays. -/
import Derived.Test.YtedcgfcmhaeldaaQPlay
namespace Go.Proofs.Ytedcgfcmhaeldaa
set_option linter.unusedVariables false
set_option linter.unusedSimpArgs false
open Go.ChangeShapes Go.WideShapes Go.ChangeAt Go.RowKit

abbrev pcs (A : Option Addr) (n c : Nat) (U : Nat → Int) (As : Option Addr) (ns cs : Nat) (most work : Int) : Array Value := #[.slice A n c, .int .i64 (U 0), .int .i64 (U 1), .int .i64 (U 2), .int .i64 (U 3), .int .i64 (U 4), .int .i64 (U 5), .int .i64 (U 6), .int .i64 (U 7), .slice As ns cs, .int .i64 most, .int .i64 work]
theorem set12 {w : World} {r : Nat} {t : TypeId} {A : Option Addr} {n c : Nat} {U : Nat → Int} {As : Option Addr} {ns cs : Nat} {most work : Int} (h : Blo w r t (pcs A n c U As ns cs most work)) :
    w.cell? ⟨r, 0, none⟩ = some (.slice A n c) ∧ w.cell? ⟨r, 1, none⟩ = some (.int .i64 (U 0)) ∧ w.cell? ⟨r, 2, none⟩ = some (.int .i64 (U 1)) ∧ w.cell? ⟨r, 3, none⟩ = some (.int .i64 (U 2)) ∧ w.cell? ⟨r, 4, none⟩ = some (.int .i64 (U 3)) ∧ w.cell? ⟨r, 5, none⟩ = some (.int .i64 (U 4)) ∧ w.cell? ⟨r, 6, none⟩ = some (.int .i64 (U 5)) ∧
      w.cell? ⟨r, 7, none⟩ = some (.int .i64 (U 6)) ∧ w.cell? ⟨r, 8, none⟩ = some (.int .i64 (U 7)) ∧ w.cell? ⟨r, 9, none⟩ = some (.slice As ns cs) ∧ w.cell? ⟨r, 10, none⟩ = some (.int .i64 most) ∧ w.cell? ⟨r, 11, none⟩ = some (.int .i64 work) :=
  ⟨by simpa using h.cell 0, by simpa using h.cell 1, by simpa using h.cell 2, by simpa using h.cell 3, by simpa using h.cell 4, by simpa using h.cell 5, by simpa using h.cell 6, by simpa using h.cell 7, by simpa using h.cell 8, by simpa using h.cell 9, by simpa using h.cell 10, by simpa using h.cell 11⟩

theorem Try.zeroBook : Try.zeroCells37 = ((Array.replicate 784 (.bool false)).push (.slice none 0 0)).push (.int .i64 0) := by kernel_rfl
theorem mbook_new (w : World) : MBook (w.alloc (.cells Try.zeroCells37 37)) w.heap.size TB (fun _ => True) B.new := by
  refine ⟨[], ⟨Try.zeroCells37, none, 0, 0, Blo.made _ _ _, ⟨?_, fun n k hn hk => ?_⟩, ?_, ?_, rfl, EOwn.nil _ _ _⟩, rfl⟩
  · rw [Try.zeroBook]; simp
  · rw [Try.zeroBook]
    have h1 : n * 98 + k < 784 := by omega
    rw [Array.getElem?_push, if_neg (by simp; omega), Array.getElem?_push, if_neg (by simp; omega)]
    simp [h1, B.new]
  · rw [Try.zeroBook, Array.getElem?_push, if_neg (by simp), Array.getElem?_push, if_pos (by simp)]
  · rw [Try.zeroBook, Array.getElem?_push, if_pos (by simp)]
    rfl

set_option maxRecDepth 100000 in
set_option maxHeartbeats 16000000 in
theorem plays_main (A : Option Addr) (n c : Nat) (l : List EvV) (U : Nat → Int) (As : Option Addr) (ns cs : Nat) (Ms : List D.Dot) (most work : Int) (w : World) (hA : EvsIn w A n c l) (hns : Ms.length = ns) (hrs : Rds w (· < w.heap.size) As (dvs Ms)) :
    Calls Try.prog 3 #[.agg (pcs A n c U As ns cs most work)] w fun e w' => e = .returned (.bool true) ∧ Below w.heap.size w w' := by
  obtain ⟨hn, hnc, hcm, hr, hmk⟩ := hA
  have hnm : n ≤ maxLen := by omega
  obtain ⟨w0, hw0⟩ : ∃ W, w.alloc (.cells (pcs A n c U As ns cs most work) 28) = W := ⟨_, rfl⟩
  obtain ⟨gq, hgq⟩ : ∃ q, q = w.heap.size := ⟨_, rfl⟩
  have hb0 : Below w.heap.size w w0 := by rw [← hw0]; exact b_alloc _ _
  have hX0 : Blo w0 gq 28 (pcs A n c U As ns cs most work) := by rw [← hw0, hgq]; exact Blo.made _ _ _
  have HN := Lib.hid hn
  have HMK := Lib.hid hmk
  have HNS := Lib.hid hns
  have HW0 := Lib.hid hw0
  have HGQ := Lib.hid hgq
  have hs0 := hb0.size
  clear hn hmk hnc hcm hns hw0 hgq
  go_enter Try.func3, Try.ntmps3
  go_wp2_with fail
  rw [HW0.out, ← HGQ.out]
  refine (balive_any _).mono ?_
  rintro e w1 ⟨rfl, hb1⟩
  have hX1 := hX0.new hb1
  have hb01 := below_new hb0 hb1
  have HQ12 : Hid (∀ V, Grows w1 V → _) := Lib.hid (fun V hV => set12 (hX1.new hV))
  clear hX0 hb0 hb1 hs0
  go_wp2_with fail
  refine wp_famX (size := 174) (D := [23, 24, 25, 26, 27, 28, 29, 30, 4, 3, 5, 6]) [⟨10, 8, 4, 26, (scs (fun _ => 0) none 0 0), (scs U As ns cs)⟩] [(23, isV (.pointer (some ⟨gq, 0, none⟩))), (24, isV (.slice A n c)), (25, isV (.pointer (some ⟨gq, 1, none⟩))), (26, isV (sv U As ns cs)), (27, isV (.pointer (some ⟨gq, 10, none⟩))), (28, isV (.int .i64 most)), (29, isV (.pointer (some ⟨gq, 11, none⟩))), (30, isV (.int .i64 work)), (3, isV (.slice A n c)), (5, isV (.int .i64 most)), (6, isV (.int .i64 work))] (Below.relX _ _) (by kernel_rfl) (by rfl) (by kernel_rfl) ?_ ?_
  · simp only [famAllX]
    repeat' apply And.intro
    · refine obX_no rfl ?_
      intro f V hg hl
      simp [Oper.looksAt, Op.operands, Call.operands, famAt, famOf, isV] at hl
      simp [famWants, boolIs_bool, boolIs_undef, execOp, rho, go_sem, hl, famUpon, famOf, isV, Grows.refl]
    · refine obX_no rfl ?_
      intro f V hg hl
      obtain ⟨p0, p1, p2, p3, p4, p5, p6, p7, p8, p9, p10, p11⟩ := HQ12.out V hg
      simp [Oper.looksAt, Op.operands, Call.operands, famAt, famOf, isV] at hl
      simp [famWants, boolIs_bool, boolIs_undef, execOp, rho, go_sem, hl, p0, p1, p2, p3, p4, p5, p6, p7, p8, p9, p10, p11, famUpon, famOf, isV, Grows.refl]
    · refine obX_no rfl ?_
      intro f V hg hl
      simp [Oper.looksAt, Op.operands, Call.operands, famAt, famOf, isV] at hl
      simp [famWants, boolIs_bool, boolIs_undef, execOp, rho, go_sem, hl, famUpon, famOf, isV, Grows.refl]
    · refine obX_no rfl ?_
      intro f V hg hl
      obtain ⟨p0, p1, p2, p3, p4, p5, p6, p7, p8, p9, p10, p11⟩ := HQ12.out V hg
      simp [Oper.looksAt, Op.operands, Call.operands, famAt, famOf, isV] at hl
      simp [famWants, boolIs_bool, boolIs_undef, execOp, rho, go_sem, hl, p0, p1, p2, p3, p4, p5, p6, p7, p8, p9, p10, p11, famUpon, famOf, isV, Grows.refl]
    · refine obX_no rfl ?_
      intro f V hg hl
      simp [Oper.looksAt, Op.operands, Call.operands, famAt, famOf, isV] at hl
      simp [famWants, boolIs_bool, boolIs_undef, execOp, rho, go_sem, hl, famUpon, famOf, isV, Grows.refl]
    · refine obX_no rfl ?_
      intro f V hg hl
      obtain ⟨p0, p1, p2, p3, p4, p5, p6, p7, p8, p9, p10, p11⟩ := HQ12.out V hg
      simp [Oper.looksAt, Op.operands, Call.operands, famAt, famOf, isV] at hl
      simp [famWants, boolIs_bool, boolIs_undef, execOp, rho, go_sem, hl, p0, p1, p2, p3, p4, p5, p6, p7, p8, p9, p10, p11, famUpon, famOf, isV, Grows.refl]
    · refine obX_no rfl ?_
      intro f V hg hl
      simp [Oper.looksAt, Op.operands, Call.operands, famAt, famOf, isV] at hl
      simp [famWants, boolIs_bool, boolIs_undef, execOp, rho, go_sem, hl, famUpon, famOf, isV, Grows.refl]
    · refine obX_no rfl ?_
      intro f V hg hl
      obtain ⟨p0, p1, p2, p3, p4, p5, p6, p7, p8, p9, p10, p11⟩ := HQ12.out V hg
      simp [Oper.looksAt, Op.operands, Call.operands, famAt, famOf, isV] at hl
      simp [famWants, boolIs_bool, boolIs_undef, execOp, rho, go_sem, hl, p0, p1, p2, p3, p4, p5, p6, p7, p8, p9, p10, p11, famUpon, famOf, isV, Grows.refl]
    · refine obX_al 0 rfl rfl (show (10 : Nat) ≠ 8 by decide) rfl ?_
      intro f V hg
      simp [famWants, boolIs_bool, boolIs_undef, execOp, rho, go_sem, famOf]
    · refine obX_no rfl ?_
      intro f V hg hl
      simp [Oper.looksAt, Op.operands, Call.operands, famAt, famOf, isV] at hl
      simp [famWants, boolIs_bool, boolIs_undef, execOp, rho, go_sem, hl, famUpon, famOf, isV, Grows.refl]
    · refine obX_st 0 rfl rfl rfl ?_
      intro f V g hg hl hf hB
      have hf : f 4 = _ := hf
      simp [Oper.looksAt, Op.operands, Call.operands, famAt, famOf, isV] at hl
      obtain ⟨W, hrun, h2, h3⟩ := run_setv Try.sizeLaw V g _ hB rfl U As ns cs
      refine ⟨by simp [famWants], ?_⟩
      simp only [execOp, rho, hf, hl, Sem.run_bind, Sem.run_pure, Result.andThen_ok, hrun, famUpon]
      exact ⟨h3, h2⟩
    · refine obX_no rfl ?_
      intro f V hg hl
      simp [Oper.looksAt, Op.operands, Call.operands, famAt, famOf, isV] at hl
      simp [famWants, boolIs_bool, boolIs_undef, execOp, rho, go_sem, hl, famUpon, famOf, isV, Grows.refl]
    · refine obX_no rfl ?_
      intro f V hg hl
      simp [Oper.looksAt, Op.operands, Call.operands, famAt, famOf, isV] at hl
      simp [famWants, boolIs_bool, boolIs_undef, execOp, rho, go_sem, hl, famUpon, famOf, isV, Grows.refl]
    · trivial
  · intro u w2 hb12 hu hmd hdis
    obtain ⟨gs, e4, hgs, hS2⟩ := hmd _ (List.mem_singleton.2 rfl)
    have e3 : u 3 = .slice A n c := hu 3 (by decide)
    have e5 : u 5 = .int .i64 most := hu 5 (by decide)
    have e6 : u 6 = .int .i64 work := hu 6 (by decide)
    simp only at e4 hS2
    simp only [fill, Act.put, List.setIfInBounds_toArray, List.set_cons_zero, List.set_cons_succ, e3, e4, e5, e6]
    refine wpList_nil ?_
    have hb02 : Below w.heap.size w w2 := below_new hb01 (hb12 : Below w1.heap.size w1 w2)
    have hgs0 : w.heap.size ≤ gs := Nat.le_trans hb01.size hgs
    have hgr := great_any _ A n c l w2 HN.out (hr.new hb02) hnm
    clear hu hmd hdis e3 e4 e5 e6 HQ12 hX1 hb12
    go_wp2_with fail
    refine hgr.mono ?_
    rintro e w3 ⟨gt, rfl, hb3, hgt⟩
    have hb03 := below_new hb02 hb3
    have hS3 := hS2.new hb3
    clear hgr
    cases gt with
    | true =>
      clear hgt
      go_wp2
      go_ret
      exact ⟨rfl, hb03⟩
    | false =>
      have HBK : Hid (bulk l ≤ 3000) := Lib.hid (hgt rfl HMK.out)
      have k8 : w3.cell? ⟨gs, 8, none⟩ = some (.slice As ns cs) := by simpa using hS3.cell 8
      have hnb : n ≤ 1000000 := by rw [← HN.out]; have := bulk_n HBK.out; omega
      clear hgt HMK
      by_cases h1000 : 1000 < ns
      · have q1 : decide ((1000 : Int) < (ns : Int)) = true := by simp; omega
        clear h1000
        go_wp2
        go_ret
        exact ⟨rfl, hb03⟩
      have q1 : decide ((1000 : Int) < (ns : Int)) = false := by simp; omega
      have hnsb : ns ≤ 1000000 := by omega
      clear h1000
      go_wp2_with fail
      refine (bnew_bok hb03).mono ?_
      rintro e w4 ⟨rfl, hB4, hb4⟩
      obtain ⟨g, hg⟩ : ∃ q, q = w3.heap.size := ⟨_, rfl⟩
      rw [← hg] at hB4 ⊢
      obtain ⟨w5, hw5⟩ : ∃ W, w4.alloc (.cells Try.zeroCells37 37) = W := ⟨_, rfl⟩
      obtain ⟨gm, hgm⟩ : ∃ q, q = w4.heap.size := ⟨_, rfl⟩
      have hb5 : Below w4.heap.size w4 w5 := by rw [← hw5]; exact b_alloc _ _
      have hM5 : MBook w5 gm TB (fun _ => True) B.new := by rw [← hw5, hgm]; exact mbook_new _
      have hB5 := hB4.new hb5
      have hS5 := (hS3.new hb4).new hb5
      have hgg : g < gm := by have := hB4.lt; omega
      have hgsl := hS3.lt
      have hgsg : gs ≠ g := by omega
      have hgsm : gs ≠ gm := by have := hb4.size; omega
      have hgl := hB4.gl
      have hgml : w.heap.size ≤ gm := by omega
      have HW5' := Lib.hid hw5
      have HGM := Lib.hid hgm
      have HG := Lib.hid hg
      clear k8 q1 hg hw5 hgm hB4 hb4 hb5 hS2 hS3 hb03 hb02 hb01 hb3 hgsl hgs
      go_wp2_with fail
      rw [HW5'.out, ← HGM.out]
      go_loopw [44] (fun iv wr => ∃ (i : Nat) (mo : Option Nat), iv = .int .i64 i ∧ i ≤ n ∧ Bok w wr g mo (B.run B.new (plain (l.take i))) ∧ MBook wr gm TB (fun _ => True) (B.run B.new (plain (l.take i))) ∧ Blo wr gs 26 (scs U As ns cs)) (fun iv _ => n - (intOf iv).toNat)
      case atStart => exact ⟨0, none, rfl, by omega, hB5, hM5, hS5⟩
      case round =>
        obtain ⟨i, mo, rfl, hi, hB, hMb, hSb⟩ := hrel
        clear hB5 hM5 hS5
        by_cases hlt : i < n
        · have hlt' : i < l.length := by rw [HN.out]; exact hlt
          obtain ⟨ad, rfl, _, hrx, c0, c1, c2, c3, c4, c5, c6, c7, c8, c9, c10, c11, c12, c13⟩ := (hB.erds hr).cells hlt'
          obtain ⟨x, hx⟩ : ∃ x, x = l[i] := ⟨_, rfl⟩
          rw [← hx] at hrx c0 c1 c2 c3 c4 c5 c6 c7 c8 c9 c10 c11 c12 c13
          have hxl : x ∈ l := by rw [hx]; exact List.getElem_mem hlt'
          have HXX := Lib.hid hx
          obtain ⟨F, M, Ax, cx⟩ := x
          simp only at hrx c0 c1 c2 c3 c4 c5 c6 c7 c8 c9 c10 c11 c12 c13
          obtain ⟨q, hq⟩ : ∃ q, M.length = q := ⟨_, rfl⟩
          rw [hq] at c13
          have hqm : q ≤ maxLen := by rw [← hq]; exact len_max (bulk_max HBK.out hxl)
          have HQ := Lib.hid hq
          have HXL := Lib.hid hxl
          clear hq hx hxl
          have hq1m : q ≤ 1000000 := by rw [← HQ.out]; have h := bulk_max HBK.out HXL.out; simp only at h; omega
          have HRE : Hid (Rds w (fun x => x < w.heap.size) Ax (dvs M)) := Lib.hid (hr.2 _ HXL.out)
          have HRS := Lib.hid (run_take (b := B.new) hlt' HXX.out)
          obtain ⟨b, hb⟩ : ∃ b, b = B.run B.new (plain (l.take i)) := ⟨_, rfl⟩
          rw [← hb] at hB hMb HRS
          have HOK := Lib.hid hB.pb.1
          have hml := hB.ml
          obtain ⟨ge, hge⟩ : ∃ q, q = wr.heap.size := ⟨_, rfl⟩
          obtain ⟨w6, hw6⟩ : ∃ W, wr.alloc (.cells (ecs F Ax q cx) 43) = W := ⟨_, rfl⟩
          have hb6 : Below wr.heap.size wr w6 := by rw [← hw6]; exact b_alloc _ _
          have hXe6 : Blo w6 ge 43 (ecs F Ax q cx) := by rw [← hw6, hge]; exact Blo.made _ _ _
          have hgeg : ge ≠ g := by have := hB.lt; omega
          have hgem : ge ≠ gm := by have := hMb.lt; omega
          have hcp := ecopy_any _ F Ax q cx M w6 HQ.out (hrx.new hb6) hq1m
          have hs6 := hb6.size
          have HW6 := Lib.hid hw6
          have HGE := Lib.hid hge
          obtain ⟨Bo, hBo⟩ : ∃ q, q = wr.heap.size := ⟨_, rfl⟩
          have hP6 : PB w6 (fun x => x < Bo) g mo b := by rw [hBo]; exact hB.pb.old.new hb6
          have hM6 : MBook w6 gm TB (fun x => x < Bo) b := by rw [hBo]; exact hMb.old.new hb6
          have hS6 := hSb.new hb6
          have hb06 := below_new hB.bl hb6
          have hBo6 : Bo ≤ w6.heap.size := by omega
          have hgB : g < Bo := by have := hB.lt; omega
          have hgmB : gm < Bo := by have := hMb.lt; omega
          clear hw6 hge hBo hb hB hMb hSb hb6 hrx hs6
          go_wp2_with fail
          rw [HW6.out, ← HGE.out]
          refine hcp.mono ?_
          rintro e w7 ⟨Ac, cc, rfl, hC7, hb7⟩
          rw [HQ.out]
          obtain ⟨w8, hw8⟩ : ∃ W, w7.alloc (.cells (ecs F Ac q cc) 43) = W := ⟨_, rfl⟩
          obtain ⟨gi, hgi⟩ : ∃ q, q = w7.heap.size := ⟨_, rfl⟩
          have hb8 : Below w7.heap.size w7 w8 := by rw [← hw8]; exact b_alloc _ _
          have hXi8 : Blo w8 gi 43 (ecs F Ac q cc) := by rw [← hw8, hgi]; exact Blo.made _ _ _
          have hXe8 := (hXe6.new hb7).new hb8
          have hP8 := (hP6.new hb7).new hb8
          have hM8 := (hM6.new hb7).new hb8
          have hS8 := (hS6.new hb7).new hb8
          have hb08 := below_new (below_new hb06 hb7) hb8
          have hs7 := hb7.size
          have hs8 := hb8.size
          have hgig : gi ≠ g := by omega
          have hgim : gi ≠ gm := by omega
          have hD8 : DRu w8 (fun x => Bo ≤ x ∧ x < w8.heap.size) Ac M := (DRu.new (Rds.mono hC7.dru fun x hx => ⟨⟨by omega, by have := hx.2.db.lt; omega⟩, hx.2⟩ : DRu w7 (fun x => Bo ≤ x ∧ x < w8.heap.size) Ac M) hb8)
          obtain ⟨V8, hV8⟩ : ∃ W, W = w8 := ⟨_, rfl⟩
          have HX0 : Hid (∀ f, PX w w8 Bo g gm gs gi ge mo b F Ac cc Ax cx q M (scs U As ns cs) (fun _ => false) f w8) := Lib.hid (fun f => ⟨⟨hb08, Nat.le_refl _⟩, hXi8, hXe8, hS8, hD8, fun _ => hP8, fun e => (by cases e), fun _ => hM8, fun e => (by cases e)⟩)
          have hww : w.heap.size ≤ w8.heap.size := hb08.size
          have hBo8 : Bo ≤ w8.heap.size := by omega
          have HAD : Hid (∀ W, PB W (fun x => x < Bo) g mo b → DRu W (fun x => Bo ≤ x ∧ x < w8.heap.size) Ac M → Calls Try.prog 13 #[.pointer (some ⟨g, 0, none⟩), ev F Ac q cc] W (AddP b (F, M) (fun x => x < Bo) g mo W)) := Lib.hid (fun W hP hD => badd_any _ F Ac q cc M W hP HQ.out (Rds.mono hD fun x hx => hx.1) (fun x hx => by omega) hqm)
          have HRD : Hid (∀ W, MBook W gm TB (fun x => x < Bo) b → Below w.heap.size w W → Calls Try.prog 14 #[.pointer (some ⟨gm, 0, none⟩), ev F Ax q cx] W (RAddP b (F, M) gm TB (fun x => x < Bo) W)) := Lib.hid (fun W hM hW => by
            obtain ⟨m9, hM9, hpl9⟩ := hM
            exact radd_any F Ax q cx M hM9 hpl9 HQ.out (HRE.out.below hW fun x hx _ => hx) (fun x hx => by omega) hqm (by rw [← plain_len, hpl9]; have := hold_len HOK.out; omega))
          have HW8 := Lib.hid hw8
          have HGI := Lib.hid hgi
          obtain ⟨ra, hra⟩ : ∃ r, r = B.addE b (F, M) := ⟨_, rfl⟩
          have HRA := Lib.hid hra
          clear hcp hw8 hgi hV8 V8 hra c0 c1 c2 c3 c4 c5 c6 c7 c8 c9 c10 c11 c12 c13 hXe6 hP6 hM6 hS6 hC7 hb06 hXi8 hXe8 hP8 hM8 hS8 hD8 hb7 hb8 hs7 hs8 hBo6 hb08
          go_wp2_with fail
          rw [HW8.out, ← HGI.out]
          refine wp_famY (size := 174) (D := [50, 51, 52, 53, 54, 55, 56]) [1, 2, 4, 5] [] [(50, isV (.pointer (some ⟨g, 0, none⟩))), (51, isV (ev F Ac q cc)), (52, isV (.int .i64 ra)), (53, isV (.pointer (some ⟨gm, 0, none⟩))), (54, isV (ev F Ax q cx)), (55, isV (.int .i64 ra)), (56, isV (.bool false))] (PX w w8 Bo g gm gs gi ge mo b F Ac cc Ax cx q M (scs U As ns cs)) (PX.up hww) (by kernel_rfl) (by rfl) (by kernel_rfl) (HX0.out _) ?_ ?_
          · simp only [famAllY]
            repeat' apply And.intro
            · rw [if_neg (by decide)]
              intro f W hl
              simp [Oper.looksAt, Op.operands, Call.operands, famAt, famOf, isV] at hl
              simp [famWants, execOp, rho, go_sem, hl, famUpon, famOf, isV, Grows.refl]
            · rw [if_pos (by decide)]
              intro L f W hi hcl hwt hX hl
              simp [Oper.looksAt, Op.operands, Call.operands, famAt, famOf, isV] at hl
              obtain ⟨z0, z1, z2, z3, z4, z5, z6, z7, z8, z9, z10, z11, z12, z13⟩ := set14 hX.2.1
              simp [famWants, execOp, rho, go_sem, hl, z0, z1, z2, z3, z4, z5, z6, z7, z8, z9, z10, z11, z12, z13, famUpon, famOf, isV]
              exact hX.pass (by decide)
            · rw [if_pos (by decide)]
              intro L f W hi hcl hwt hX hl
              simp [Oper.looksAt, Op.operands, Call.operands, famAt, famOf, isV] at hl
              have h5 : L 5 = false := by
                cases e : L 5 with
                | false => rfl
                | true => rw [hcl 5 2 (by kernel_rfl) e] at hi; cases hi
              have hc := HAD.out W (hX.2.2.2.2.2.1 hi) hX.2.2.2.2.1
              simp [famWants, execOp, rho, go_sem, hl, famUpon, famOf, isV]
              refine hc.mono ?_
              rintro e w'' ⟨rfl, ⟨mo', hP', hm'⟩, hK'⟩
              rw [← HRA.out]
              exact ⟨_, rfl, rfl, hX.add hgg hgig hgeg hgsg hgl hml hww hi h5 hP' hm' hK'⟩
            · rw [if_neg (by decide)]
              intro f W hl
              simp [Oper.looksAt, Op.operands, Call.operands, famAt, famOf, isV] at hl
              simp [famWants, execOp, rho, go_sem, hl, famUpon, famOf, isV, Grows.refl]
            · rw [if_pos (by decide)]
              intro L f W hi hcl hwt hX hl
              simp [Oper.looksAt, Op.operands, Call.operands, famAt, famOf, isV] at hl
              obtain ⟨z0, z1, z2, z3, z4, z5, z6, z7, z8, z9, z10, z11, z12, z13⟩ := set14 hX.2.2.1
              simp [famWants, execOp, rho, go_sem, hl, z0, z1, z2, z3, z4, z5, z6, z7, z8, z9, z10, z11, z12, z13, famUpon, famOf, isV]
              exact hX.pass (by decide)
            · rw [if_pos (by decide)]
              intro L f W hi hcl hwt hX hl
              simp [Oper.looksAt, Op.operands, Call.operands, famAt, famOf, isV] at hl
              have h2 : L 2 = true := hwt 2 (by kernel_rfl)
              have hc := HRD.out W (hX.2.2.2.2.2.2.2.1 hi) hX.1.1
              simp [famWants, execOp, rho, go_sem, hl, famUpon, famOf, isV]
              refine hc.mono ?_
              rintro e w'' ⟨rfl, hM', hg'⟩
              rw [← HRA.out]
              exact ⟨_, rfl, rfl, hX.doc hgg hgim hgem hgsm hgml h2 hi hM' hg'⟩
            · rw [if_neg (by decide)]
              intro f W hl
              simp [Oper.looksAt, Op.operands, Call.operands, famAt, famOf, isV] at hl
              simp [famWants, execOp, rho, go_sem, hl, famUpon, famOf, isV, Grows.refl]
            · trivial
          · intro L' u W hL hX hu
            obtain ⟨⟨hbW, hsW⟩, hXiW, hXeW, hSW, hDW, _, k7, _, k9⟩ := hX
            obtain ⟨mo', hPW, hmW⟩ := k7 (hL 2 (by decide))
            have hMW := k9 (hL 5 (by decide))
            have e56 : u 56 = .bool false := hu 56 (by decide)
            simp only [fill, Act.put, List.setIfInBounds_toArray, List.set_cons_zero, List.set_cons_succ, e56]
            refine wpList_nil ?_
            have hCW := hDW.cel
            rw [HQ.out] at hCW
            have y13 : W.cell? ⟨gi, 13, none⟩ = some (.slice Ac q cc) := (set14 hXiW).2.2.2.2.2.2.2.2.2.2.2.2.2
            rw [HRS.out] at hPW hMW
            clear hu hL e56 HX0 HAD HRD k7 k9 hXeW hDW
            go_wp2_with fail
            clear y13
            go_loopw [60] (fun iv ws => ∃ j : Nat, iv = .int .i64 j ∧ j ≤ q ∧ PB ws (fun x => x < Bo ∨ w8.heap.size ≤ x) g mo' (B.run B.new (plain (l.take (i + 1)))) ∧ MBook ws gm TB (fun x => x < Bo ∨ w8.heap.size ≤ x) (B.run B.new (plain (l.take (i + 1)))) ∧ Blo ws gi 43 (ecs F Ac q cc) ∧ Blo ws gs 26 (scs U As ns cs) ∧ Cel ws (fun x => Bo ≤ x ∧ x < w8.heap.size) Ac q ∧ Below w.heap.size w ws) (fun iv _ => q - (intOf iv).toNat)
            case atStart => exact ⟨0, rfl, by omega, hPW, hMW, hXiW, hSW, hCW, hbW⟩
            case round =>
              obtain ⟨j, rfl, hj, hPj, hMj, hXj, hSj, hCj, hbj⟩ := hrel
              clear hPW hMW hXiW hSW hCW hbW
              by_cases hltj : j < q
              · obtain ⟨ad, v9, rfl, ⟨hs1, hs2⟩, hdu, hcl⟩ := hCj j hltj
                have e2 : (ad.add (j * 2)).block = ad.block := by rw [Go.Proofs.Ytedcgfcmhaeldaa.M.addBlock]
                have hfz : wr.frozen? ⟨(ad.add (j * 2)).block, (ad.add (j * 2)).off + 1, none⟩ = false := by
                  obtain ⟨cs9, hB9⟩ := hdu
                  rw [e2]
                  exact hB9.frozen _
                have y13 : wr.cell? ⟨gi, 13, none⟩ = some (.slice (some ad) q cc) := (set14 hXj).2.2.2.2.2.2.2.2.2.2.2.2.2
                obtain ⟨w9, hw9⟩ : ∃ W, wr.setCell ⟨(ad.add (j * 2)).block, (ad.add (j * 2)).off + 1, none⟩ (.int .i64 (-1)) = W := ⟨_, rfl⟩
                have hg9 : wr.grownBy w9 (some ad.block) := by rw [← hw9, e2]; exact gb_set (World.grownBy.refl _ _) (.inl rfl) _
                have hP9 := hPj.cell hdu (by omega) hg9
                have hM9 := hMj.cell hdu (by omega) hg9
                have hX9 := hXj.grown hg9 (fun e => by injection e with e; exact hdu.db.blo hXj (by decide) e.symm)
                have hS9 := hSj.grown hg9 (fun e => by injection e with e; exact hdu.db.blo hSj (by decide) e.symm)
                have hC9 : Cel w9 (fun x => Bo ≤ x ∧ x < w8.heap.size) (some ad) q := by rw [← hw9]; exact hCj.set _ _ _
                have hwB : w.heap.size ≤ ad.block := by omega
                have hb9 : Below w.heap.size w w9 := hbj.grown hg9 hbj.size (fun k hk => by injection hk with hk; omega)
                have HW9 := Lib.hid hw9
                clear hw9 hg9 hPj hMj hXj hSj hCj hbj e2 hs1 hs2 hwB hdu
                go_wp2
                go_roundw
                case rel => exact ⟨j + 1, by go_num, by omega, by rw [HW9.out]; exact hP9, by rw [HW9.out]; exact hM9, by rw [HW9.out]; exact hX9, by rw [HW9.out]; exact hS9, by rw [HW9.out]; exact hC9, by rw [HW9.out]; exact hb9⟩
                case measure => simp [intOf]; omega
              · have hBf : Bok w wr g mo' (B.run B.new (plain (l.take (i + 1)))) := ⟨hPj.mono fun _ _ => trivial, hgl, hmW, hbj⟩
                have hMf := hMj.mono (Z' := fun _ => True) fun _ _ => trivial
                clear hPj hMj hXj hCj hbj
                go_wp2
                go_roundw
                case rel => exact ⟨i + 1, mo', by go_num, by omega, hBf, hMf, hSj⟩
                case measure => simp [intOf]; omega
        · obtain ⟨b, hb⟩ : ∃ b, b = B.run B.new (plain (l.take i)) := ⟨_, rfl⟩
          rw [← hb] at hB hMb
          have HOK := Lib.hid hB.pb.1
          have hev := bevents_u wr hB.pb
          obtain ⟨Bo, hBo⟩ : ∃ q, q = wr.heap.size := ⟨_, rfl⟩
          have hP4 : PB wr (fun x => x < Bo) g mo b := by rw [hBo]; exact hB.pb.old
          have hM4 : MBook wr gm TB (fun x => x < Bo) b := by rw [hBo]; exact hMb.old
          have hbr := hB.bl
          have hBow : w.heap.size ≤ Bo := by rw [hBo]; exact hbr.size
          have HBO := Lib.hid hBo
          clear hb hBo hB hMb
          go_wp2_with fail
          refine hev.mono ?_
          rintro e w6 ⟨A4, N4, c4, lg, rfl, HN4, hl4, hO4, hb6, hU4⟩
          rw [← HBO.out] at hO4 hU4
          have hM6 := hM4.new hb6
          have hG6 : Got w w6 Bo g gm gs mo b (scs U As ns cs) (.slice A4 N4 c4) lg := ⟨hP4.new hb6, hM6, hSb.new hb6, hO4.row, fun e he => (hU4 e he).cel, below_new hbr hb6⟩
          obtain ⟨m6, ⟨cs6, Ah, Nh, ch, hK6⟩, hpl6⟩ := hM6
          obtain rfl : N4 = Nh := by rw [HN4.out, hK6.len, ← plain_len, ← plain_len, hl4, hpl6]
          have hN4 : N4 ≤ 1000000 := by have := hold_len HOK.out; rw [HN4.out, ← plain_len, hl4]; omega
          have HK4 : Hid (∀ V, Grows w6 V → V.cell? ⟨gm, 784, none⟩ = some (.slice Ah N4 ch)) := Lib.hid (fun V hV => ((hK6.blo.new hV).cell _).trans hK6.hold)
          have HK5 : Hid (∀ V, Grows w6 V → V.cell? ⟨gm, 785, none⟩ = some (.int .i64 b.time)) := Lib.hid (fun V hV => ((hK6.blo.new hV).cell _).trans hK6.time)
          have HAL : Hid (∀ V, Grows w6 V → Calls Try.prog 16 #[.slice A4 N4 c4, .slice Ah N4 ch] V fun e w' => e = .returned (.bool true) ∧ Below V.heap.size V w') := Lib.hid (fun V hV => eall_yes _ _ A4 Ah N4 c4 ch lg m6 V HN4.out.symm (alike_plain (hl4.trans hpl6.symm)) (hO4.erds.new hV) (hK6.own.erds.new hV) (by unfold maxLen; omega) (hold_short HOK.out (fun x hx => by rw [hl4] at hx; exact hx)))
          obtain ⟨U6, hU6⟩ : ∃ U, U = D.cU b.saw := ⟨_, rfl⟩
          obtain ⟨M6, hM6'⟩ : ∃ M, M = D.cM b.saw := ⟨_, rfl⟩
          obtain ⟨n6, hn6⟩ : ∃ k, M6.length = k := ⟨_, rfl⟩
          have hn6l : n6 ≤ 1000000 := by rw [← hn6, hM6']; exact Nat.le_trans (D.cM_len _) (by omega)
          have HSE : Hid (∀ V, Grows w6 V → Calls Try.prog 19 #[.pointer (some ⟨g, 0, none⟩)] V (CopyPost U6 M6 V)) := Lib.hid (fun V hV => by rw [hU6, hM6']; exact bseen_any V (hG6.new hV).pb)
          have HFR : Hid (∀ V A c, Copy V w6.heap.size A c M6 → Calls Try.prog 18 #[sv U6 A n6 c] V (CopyPost U6 M6 V)) := Lib.hid (fun V A c hC => from_any _ U6 A n6 c M6 V hn6 hC.rds hn6l)
          have HRSE : Hid (∀ V, Grows w6 V → Calls Try.prog 20 #[.pointer (some ⟨gm, 0, none⟩)] V (SetPost U6 M6 V)) := Lib.hid (fun V hV => by
            obtain ⟨m7, hm7, _⟩ := (hG6.new hV).doc
            rw [hU6, hM6']
            exact rseen_any hm7)
          have HSM : Hid (∀ V A c A' c', Copy V w6.heap.size A c M6 → DRow V w6.heap.size (.slice A' n6 c') M6 → Calls Try.prog 17 #[sv U6 A n6 c, sv U6 A' n6 c'] V fun e w' => e = .returned (.bool true) ∧ Below V.heap.size V w') := Lib.hid (fun V A c A' c' hC hD => rsame_yes _ _ U6 A A' n6 c c' M6 V hn6 hC.rds hD.rdsT hn6l)
          have HCK : Hid (∀ V, Grows w6 V → Calls Try.prog 21 #[.pointer (some ⟨g, 0, none⟩)] V fun e w' => e = .returned (.int .i64 b.time) ∧ w' = V) := Lib.hid (fun V hV => bclock_any V (hG6.new hV).pb)
          have HN6 := Lib.hid hn6
          have HPLG := Lib.hid hl4
          have HSHO : Hid (∀ e ∈ lg, e.M.length ≤ 1000000) := Lib.hid (hold_short HOK.out (fun x hx => by rw [hl4] at hx; exact hx))
          obtain ⟨tm, htm⟩ : ∃ t, t = b.time := ⟨_, rfl⟩
          rw [← htm] at HK5 HCK
          clear hev hP4 hM4 hbr hSb hO4 hU4 hl4 hK6 hpl6 hU6 hM6' hn6 htm hb6
          go_wp2_with fail
          refine wp_fam (n := 25) (size := 174) (D := [72, 73, 74, 75, 76, 77, 78, 79, 80, 81, 82, 83, 84, 85, 86, 87, 88, 89, 90, 91, 92, 93, 94, 95, 96]) [(72, isV (.slice A4 N4 c4)), (73, isV (.pointer (some ⟨gm, 0, none⟩))), (74, isV (.pointer (some ⟨gm, 0, none⟩))), (75, isV (.pointer (some ⟨gm, 784, none⟩))), (76, isV (.slice Ah N4 ch)), (77, isV (.bool true)), (78, isV (.bool false)), (79, isV (.bool false)), (80, isV (.pointer (some ⟨g, 0, none⟩))), (81, seenV w6.heap.size n6 U6 M6), (82, seenV w6.heap.size n6 U6 M6), (83, isV (.pointer (some ⟨gm, 0, none⟩))), (84, setV w6.heap.size n6 U6 M6), (85, isV (.bool true)), (86, isV (.bool false)), (87, isV (.bool false)), (88, isV (.bool false)), (89, isV (.pointer (some ⟨g, 0, none⟩))), (90, isV (.int .i64 tm)), (91, isV (.pointer (some ⟨gm, 0, none⟩))), (92, isV (.pointer (some ⟨gm, 0, none⟩))), (93, isV (.pointer (some ⟨gm, 785, none⟩))), (94, isV (.int .i64 tm)), (95, isV (.bool false)), (96, isV (.bool false))] (by kernel_rfl) (by rfl) (by kernel_rfl) ?_ ?_
          · simp only [List.take_succ_cons, List.take_zero, famAll]
            repeat' apply And.intro
            · intro f V hg hl
              simp [Oper.looksAt, Op.operands, Call.operands, famAt, famOf, isV] at hl
              simp [famWants, boolIs_bool, boolIs_undef, execOp, rho, go_sem, hl, famUpon, famOf, isV, Grows.refl]
            · intro f V hg hl
              simp [Oper.looksAt, Op.operands, Call.operands, famAt, famOf, isV] at hl
              simp [famWants, boolIs_bool, boolIs_undef, execOp, rho, go_sem, hl, famUpon, famOf, isV, Grows.refl]
            · intro f V hg hl
              simp [Oper.looksAt, Op.operands, Call.operands, famAt, famOf, isV] at hl
              simp [famWants, boolIs_bool, boolIs_undef, execOp, rho, go_sem, hl, famUpon, famOf, isV, Grows.refl]
            · intro f V hg hl
              simp [Oper.looksAt, Op.operands, Call.operands, famAt, famOf, isV] at hl
              simp [famWants, boolIs_bool, boolIs_undef, execOp, rho, go_sem, hl, famUpon, famOf, isV, Grows.refl]
            · intro f V hg hl
              have k4 := HK4.out V hg
              simp [Oper.looksAt, Op.operands, Call.operands, famAt, famOf, isV] at hl
              simp [famWants, boolIs_bool, boolIs_undef, execOp, rho, go_sem, hl, k4, famUpon, famOf, isV, Grows.refl]
            · intro f V hg hl
              simp [Oper.looksAt, Op.operands, Call.operands, famAt, famOf, isV] at hl
              simp [famWants, boolIs_bool, boolIs_undef, execOp, rho, go_sem, hl, famUpon, famOf, isV, Grows.refl]
              refine (HAL.out V hg).mono ?_
              rintro e w'' ⟨rfl, hb⟩
              exact ⟨rfl, hb⟩
            · intro f V hg hl
              simp [Oper.looksAt, Op.operands, Call.operands, famAt, famOf, isV] at hl
              simp [famWants, boolIs_bool, boolIs_undef, execOp, rho, go_sem, hl, famUpon, famOf, isV, Grows.refl]
            · intro f V hg hl
              simp [Oper.looksAt, Op.operands, Call.operands, famAt, famOf, isV] at hl
              simp [famWants, boolIs_bool, boolIs_undef, execOp, rho, go_sem, hl, famUpon, famOf, isV, Grows.refl]
            · intro f V hg hl
              simp [Oper.looksAt, Op.operands, Call.operands, famAt, famOf, isV] at hl
              simp [famWants, boolIs_bool, boolIs_undef, execOp, rho, go_sem, hl, famUpon, famOf, isV, Grows.refl]
            · intro f V hg hl
              simp [Oper.looksAt, Op.operands, Call.operands, famAt, famOf, isV] at hl
              simp [famWants, boolIs_bool, boolIs_undef, execOp, rho, go_sem, hl, famUpon, famOf, isV, Grows.refl]
              refine (HSE.out V hg).mono ?_
              rintro e w'' ⟨A', c', rfl, hc, hb⟩
              exact ⟨_, rfl, hb, A', c', by rw [HN6.out], hc.mono (Below.size hg)⟩
            · intro f V hg hl
              simp [Oper.looksAt, Op.operands, Call.operands, famAt, famOf, isV] at hl
              obtain ⟨⟨A', c', e81, hc⟩, e79⟩ := hl
              have hl := e79
              simp [famWants, boolIs_bool, boolIs_undef, execOp, rho, go_sem, hl, e81, famUpon, famOf, isV, Grows.refl]
              refine (HFR.out V A' c' hc).mono ?_
              rintro e w'' ⟨A2, c2, rfl, hc2, hb⟩
              exact ⟨_, rfl, hb, A2, c2, by rw [HN6.out], hc2.mono (Below.size hg)⟩
            · intro f V hg hl
              simp [Oper.looksAt, Op.operands, Call.operands, famAt, famOf, isV] at hl
              simp [famWants, boolIs_bool, boolIs_undef, execOp, rho, go_sem, hl, famUpon, famOf, isV, Grows.refl]
            · intro f V hg hl
              simp [Oper.looksAt, Op.operands, Call.operands, famAt, famOf, isV] at hl
              simp [famWants, boolIs_bool, boolIs_undef, execOp, rho, go_sem, hl, famUpon, famOf, isV, Grows.refl]
              refine (HRSE.out V hg).mono ?_
              rintro e w'' ⟨A', c', rfl, hc, hb⟩
              exact ⟨_, rfl, hb, A', c', by rw [HN6.out], by rw [← HN6.out]; exact hc.mono (Below.size hg)⟩
            · intro f V hg hl
              simp [Oper.looksAt, Op.operands, Call.operands, famAt, famOf, isV] at hl
              obtain ⟨⟨A', c', e82, hc⟩, ⟨A2, c2, e84, hd⟩, e79⟩ := hl
              have hl := e79
              simp [famWants, boolIs_bool, boolIs_undef, execOp, rho, go_sem, hl, e82, e84, famUpon, famOf, isV, Grows.refl]
              refine (HSM.out V A' c' A2 c2 hc hd).mono ?_
              rintro e w'' ⟨rfl, hb⟩
              exact ⟨rfl, hb⟩
            · intro f V hg hl
              simp [Oper.looksAt, Op.operands, Call.operands, famAt, famOf, isV] at hl
              simp [famWants, boolIs_bool, boolIs_undef, execOp, rho, go_sem, hl, famUpon, famOf, isV, Grows.refl]
            · intro f V hg hl
              simp [Oper.looksAt, Op.operands, Call.operands, famAt, famOf, isV] at hl
              simp [famWants, boolIs_bool, boolIs_undef, execOp, rho, go_sem, hl, famUpon, famOf, isV, Grows.refl]
            · intro f V hg hl
              simp [Oper.looksAt, Op.operands, Call.operands, famAt, famOf, isV] at hl
              simp [famWants, boolIs_bool, boolIs_undef, execOp, rho, go_sem, hl, famUpon, famOf, isV, Grows.refl]
            · intro f V hg hl
              simp [Oper.looksAt, Op.operands, Call.operands, famAt, famOf, isV] at hl
              simp [famWants, boolIs_bool, boolIs_undef, execOp, rho, go_sem, hl, famUpon, famOf, isV, Grows.refl]
            · intro f V hg hl
              simp [Oper.looksAt, Op.operands, Call.operands, famAt, famOf, isV] at hl
              simp [famWants, boolIs_bool, boolIs_undef, execOp, rho, go_sem, hl, famUpon, famOf, isV, Grows.refl]
              refine (HCK.out V hg).mono ?_
              rintro e w'' ⟨rfl, rfl⟩
              exact ⟨rfl, Grows.refl _⟩
            · intro f V hg hl
              simp [Oper.looksAt, Op.operands, Call.operands, famAt, famOf, isV] at hl
              simp [famWants, boolIs_bool, boolIs_undef, execOp, rho, go_sem, hl, famUpon, famOf, isV, Grows.refl]
            · intro f V hg hl
              simp [Oper.looksAt, Op.operands, Call.operands, famAt, famOf, isV] at hl
              simp [famWants, boolIs_bool, boolIs_undef, execOp, rho, go_sem, hl, famUpon, famOf, isV, Grows.refl]
            · intro f V hg hl
              simp [Oper.looksAt, Op.operands, Call.operands, famAt, famOf, isV] at hl
              simp [famWants, boolIs_bool, boolIs_undef, execOp, rho, go_sem, hl, famUpon, famOf, isV, Grows.refl]
            · intro f V hg hl
              have k5 := HK5.out V hg
              simp [Oper.looksAt, Op.operands, Call.operands, famAt, famOf, isV] at hl
              simp [famWants, boolIs_bool, boolIs_undef, execOp, rho, go_sem, hl, k5, famUpon, famOf, isV, Grows.refl]
            · intro f V hg hl
              simp [Oper.looksAt, Op.operands, Call.operands, famAt, famOf, isV] at hl
              simp [famWants, boolIs_bool, boolIs_undef, execOp, rho, go_sem, hl, famUpon, famOf, isV, Grows.refl]
            · intro f V hg hl
              simp [Oper.looksAt, Op.operands, Call.operands, famAt, famOf, isV] at hl
              simp [famWants, boolIs_bool, boolIs_undef, execOp, rho, go_sem, hl, famUpon, famOf, isV, Grows.refl]
            · trivial
          · intro u V hg hu
            have e96 : u 96 = .bool false := hu 96 (by decide)
            simp only [List.drop_succ_cons, List.drop_zero, fill, Act.put, List.setIfInBounds_toArray, List.set_cons_zero, List.set_cons_succ, e96]
            refine wpList_nil ?_
            have hG7 := hG6.new hg
            clear hu e96 HK4 HK5 HAL HSE HFR HRSE HSM HCK hG6
            go_wp2_with fail
            go_loopw [99] (fun iv ws => ∃ i : Nat, iv = .int .i64 i ∧ i ≤ N4 ∧ Got w ws Bo g gm gs mo b (scs U As ns cs) (.slice A4 N4 c4) lg) (fun iv _ => N4 - (intOf iv).toNat)
            case atStart => exact ⟨0, rfl, by omega, hG7⟩
            case round =>
              obtain ⟨i, rfl, hi, hG⟩ := hrel
              clear hG7
              by_cases hlt : i < N4
              · have hlt' : i < lg.length := by rw [← HN4.out]; exact hlt
                obtain ⟨ad, rfl, y13⟩ := evs_rem hG.row.rds hlt'
                obtain ⟨x, hx⟩ : ∃ x, x = lg[i] := ⟨_, rfl⟩
                rw [← hx] at y13
                have HX := Lib.hid hx
                obtain ⟨F, M, Ax, cx⟩ := x
                simp only at y13
                obtain ⟨q, hq⟩ : ∃ q, M.length = q := ⟨_, rfl⟩
                rw [hq] at y13
                have HQ := Lib.hid hq
                have hqb : q ≤ 1000000 := by
                  have h1 : (⟨F, M, Ax, cx⟩ : EvV).M.length ≤ 1000000 := HSHO.out _ (by rw [hx]; exact List.getElem_mem hlt')
                  rw [← hq]; exact h1
                clear hx hq
                go_wp2_with fail
                clear y13
                go_loopw [108] (fun iv ws => ∃ k : Nat, iv = .int .i64 k ∧ k ≤ q ∧ Got w ws Bo g gm gs mo b (scs U As ns cs) (.slice (some ad) N4 c4) lg) (fun iv _ => q - (intOf iv).toNat)
                case atStart => exact ⟨0, rfl, by omega, hG⟩
                case round =>
                  obtain ⟨k, rfl, hk, hGk⟩ := hrel
                  clear hG
                  by_cases hltk : k < q
                  · obtain ⟨ad', e', y13⟩ := evs_rem hGk.row.rds hlt'
                    injection e' with e'
                    subst e'
                    rw [← HX.out] at y13
                    simp only at y13
                    rw [HQ.out] at y13
                    obtain ⟨a2, v9, e9, hs1, hdu, hcl⟩ := hGk.cel _ (List.getElem_mem hlt') k (by rw [← HX.out]; show k < M.length; rw [HQ.out]; exact hltk)
                    have e9' : Ax = some a2 := by rw [← HX.out] at e9; exact e9
                    subst e9'
                    have e2 : (a2.add (k * 2)).block = a2.block := by rw [Go.Proofs.Ytedcgfcmhaeldaa.M.addBlock]
                    have hfz : wr.frozen? ⟨(a2.add (k * 2)).block, (a2.add (k * 2)).off + 1, none⟩ = false := by
                      obtain ⟨cs9, hB9⟩ := hdu
                      rw [e2]
                      exact hB9.frozen _
                    obtain ⟨w9, hw9⟩ : ∃ W, wr.setCell ⟨(a2.add (k * 2)).block, (a2.add (k * 2)).off + 1, none⟩ (.int .i64 (-1)) = W := ⟨_, rfl⟩
                    have hG9 : Got w w9 Bo g gm gs mo b (scs U As ns cs) (.slice (some ad) N4 c4) lg := by
                      rw [← hw9, e2]
                      exact hGk.set _ _ hdu hs1 hBow
                    have HW9 := Lib.hid hw9
                    clear hw9 hGk e2 hs1 hdu e9
                    go_wp2
                    go_roundw
                    case rel => exact ⟨k + 1, by go_num, by omega, by rw [HW9.out]; exact hG9⟩
                    case measure => simp [intOf]; omega
                  · go_wp2
                    go_roundw
                    case rel => exact ⟨i + 1, by go_num, by omega, hGk⟩
                    case measure => simp [intOf]; omega
              · go_wp2_with fail
                go_loopw [16] (fun iv ws => ∃ k : Int, iv = .int .i64 k ∧ -1 ≤ k ∧ k ≤ 9 ∧ Got w ws Bo g gm gs mo b (scs U As ns cs) (.slice A4 N4 c4) lg) (fun iv _ => (9 - intOf iv).toNat)
                case atStart => exact ⟨-1, rfl, by omega, by omega, hG⟩
                case round =>
                  obtain ⟨k, rfl, hk1, hk2, hGk⟩ := hrel
                  clear hG
                  by_cases hk8 : k ≤ 8
                  · have hla := blast_any k wr hGk.pb
                    go_wp2_with fail
                    refine hla.mono ?_
                    rintro e w9 ⟨rfl, hb9⟩
                    have hG9 := hGk.new hb9
                    obtain ⟨m9, hm9, _⟩ := hG9.doc
                    have hrl := rlast_any (node := k) hm9
                    have e0 : lastN b.saw k = B.last b k := rfl
                    rw [e0] at hrl
                    obtain ⟨z, hz⟩ : ∃ z, z = B.last b k := ⟨_, rfl⟩
                    rw [← hz] at hrl ⊢
                    clear hla hz e0 hm9 hGk
                    go_wp2_with fail
                    refine hrl.mono ?_
                    rintro e w10 ⟨rfl, rfl⟩
                    clear hrl
                    go_wp2
                    go_roundw
                    case rel => exact ⟨k + 1, by go_num, by omega, by omega, hG9⟩
                    case measure => simp [intOf]; omega
                  · have hst := bstands_any work wr hGk.pb
                    obtain ⟨nS, hnS⟩ : ∃ q, q = (Go.Proofs.Ytedcgfcmhaeldaa.B.stA b work).length := ⟨_, rfl⟩
                    obtain ⟨eS, heS⟩ : ∃ q, q = Go.Proofs.Ytedcgfcmhaeldaa.B.stE b work := ⟨_, rfl⟩
                    have hnSb : nS ≤ 1000000 := by
                      rw [hnS]
                      unfold Go.Proofs.Ytedcgfcmhaeldaa.B.stA
                      split
                      · exact Nat.le_trans (D.lst_len _) (by omega)
                      · simp
                    have HNS' := Lib.hid hnS
                    have HES := Lib.hid heS
                    clear hnS heS
                    go_wp2_with fail
                    refine hst.mono ?_
                    rintro e w7 ⟨A7, c7, rfl, hD7, hb7⟩
                    rw [← HNS'.out] at hD7
                    rw [← HNS'.out, ← HES.out]
                    have hG7 := hGk.new hb7
                    obtain ⟨m7, hm7, hpl7⟩ := hG7.doc
                    have hrt := rstands_any work hm7 hpl7 HOK.out
                    clear hst hGk hm7 hpl7 m7
                    go_wp2_with fail
                    refine hrt.mono ?_
                    rintro e w8 ⟨A8, c8, rfl, hD8, hb8⟩
                    rw [← HNS'.out] at hD8
                    rw [← HNS'.out, ← HES.out]
                    have hG8 := hG7.new hb8
                    have hD7' := hD7.new hb8
                    obtain ⟨m8, ⟨cs8, Ah8, Nh8, ch8, hK8⟩, hpl8⟩ := hG8.doc
                    obtain rfl : N4 = Nh8 := by rw [HN4.out, hK8.len, ← plain_len, ← plain_len, HPLG.out, hpl8]
                    have hrsw : Rds w8 (fun x => x < w.heap.size) As (dvs Ms) := hrs.below hG8.bl fun x hx _ => hx
                    obtain ⟨X, hX⟩ : ∃ X, X = B.newer b (D.has U Ms) most := ⟨_, rfl⟩
                    obtain ⟨NX, hNX⟩ : ∃ k, X.length = k := ⟨_, rfl⟩
                    have hXin : ∀ x ∈ X, x ∈ b.hold := fun x hx => by rw [hX] at hx; exact (B.mem_news.1 (List.mem_of_mem_take hx)).1
                    have hNXb : NX ≤ 1000000 := by
                      rw [← hNX, hX]
                      unfold B.newer
                      rw [List.length_take]
                      have h1 : (B.news b (D.has U Ms)).length ≤ b.hold.length := List.length_filter_le _ _
                      have h2 := hold_len HOK.out
                      omega
                    have HSC : Hid (∀ V, Grows w8 V → _) := Lib.hid (fun V hV => set9 (hG8.new hV).box)
                    have HTO : Hid (∀ V, Grows w8 V → Calls Try.prog 27 #[sv U As ns cs] V (CopyPost U Ms V)) := Lib.hid (fun V hV => to_any _ U As ns cs Ms V HNS.out (hrsw.new hV) hnsb)
                    have HRF : Hid (∀ V, Grows w8 V → Calls Try.prog 29 #[sv U As ns cs] V (CopyPost U Ms V)) := Lib.hid (fun V hV => ref_any _ U As ns cs Ms V HNS.out (hrsw.new hV) hnsb)
                    have HNW : Hid (∀ V A c, Grows w8 V → Copy V w8.heap.size A c Ms → Calls Try.prog 26 #[.pointer (some ⟨g, 0, none⟩), sv U A ns c, .int .i64 most] V (NewP X V)) := Lib.hid (fun V A c hV hC => by rw [hX]; exact bnewer_any U A ns c Ms most V (hG8.new hV).pb HNS.out hC.rds hnsb)
                    have HRN : Hid (∀ V A c, Grows w8 V → Copy V w8.heap.size A c Ms → Calls Try.prog 28 #[.pointer (some ⟨gm, 0, none⟩), sv U A ns c, .int .i64 most] V (NewP X V)) := Lib.hid (fun V A c hV hC => by
                      obtain ⟨m9, hm9, hpl9⟩ := (hG8.new hV).doc
                      rw [hX]
                      exact rnewer_any U A ns c Ms most hm9 hpl9 HOK.out HNS.out hC.rds hnsb)
                    have HAX : Hid (∀ V A c (l1 : List EvV) A' c' (l2 : List EvV), plain l1 = X → plain l2 = X → ERds V (fun _ => True) A l1 → ERds V (fun _ => True) A' l2 → Calls Try.prog 16 #[.slice A NX c, .slice A' NX c'] V fun e w' => e = .returned (.bool true) ∧ Below V.heap.size V w') := Lib.hid (fun V A c l1 A' c' l2 h1 h2 h3 h4 => eall_yes _ _ A A' NX c c' l1 l2 V (by rw [← plain_len, h1]; exact hNX) (alike_plain (h1.trans h2.symm)) h3 h4 (by unfold maxLen; omega) (hold_short HOK.out (fun x hx => by rw [h1] at hx; exact hXin x hx)))
                    have HDT : Hid (∀ V, Grows w8 V → Calls Try.prog 30 #[.slice A7 nS c7, .slice A8 nS c8] V fun e w' => e = .returned (.bool true) ∧ Below V.heap.size V w') := Lib.hid (fun V hV => dots_yes _ _ A7 A8 nS c7 c8 (Go.Proofs.Ytedcgfcmhaeldaa.B.stA b work) V HNS'.out.symm (hD7'.rdsT.new hV) (hD8.rdsT.new hV) hnSb |>.mono fun _ _ h => ⟨h.1, h.2.below _⟩)
                    have HEV : Hid (∀ V, Grows w8 V → Calls Try.prog 15 #[.pointer (some ⟨g, 0, none⟩)] V (NewP b.hold V)) := Lib.hid (fun V hV => bevents_any V (hG8.new hV).pb)
                    have HK8 : Hid (∀ V, Grows w8 V → V.cell? ⟨gm, 784, none⟩ = some (.slice Ah8 N4 ch8)) := Lib.hid (fun V hV => ((hK8.blo.new hV).cell _).trans hK8.hold)
                    have HLE : Hid (b.hold.length = N4) := Lib.hid (by rw [HN4.out, ← plain_len, HPLG.out])
                    have HAH : Hid (∀ V A c (l1 : List EvV), Grows w8 V → plain l1 = b.hold → ERds V (fun _ => True) A l1 → Calls Try.prog 16 #[.slice A N4 c, .slice Ah8 N4 ch8] V fun e w' => e = .returned (.bool true) ∧ Below V.heap.size V w') := Lib.hid (fun V A c l1 hV h1 h3 => eall_yes _ _ A Ah8 N4 c ch8 l1 m8 V (by rw [← plain_len, h1]; exact HLE.out) (alike_plain (h1.trans hpl8.symm)) h3 (hK8.own.erds.new hV) (by unfold maxLen; omega) (hold_short HOK.out (fun x hx => by rw [h1] at hx; exact hx)))
                    have HNXX := Lib.hid hNX
                    clear hrt hG7 hD7 hD7' hD8 hK8 hpl8 hrsw hX hNX hXin hb7 hb8
                    go_wp2_with fail
                    refine wp_fam (n := 31) (size := 174) (D := [144, 145, 146, 147, 148, 149, 150, 151, 152, 153, 154, 155, 156, 157, 158, 159, 160, 161, 162, 163, 164, 165, 166, 167, 168, 169, 170, 171, 172, 173, 2]) [(144, isV (.pointer (some ⟨g, 0, none⟩))), (145, isV (sv U As ns cs)), (146, seenV w8.heap.size ns U Ms), (147, isV (.int .i64 most)), (148, newV NX X), (149, isV (.pointer (some ⟨gm, 0, none⟩))), (150, isV (sv U As ns cs)), (151, seenV w8.heap.size ns U Ms), (152, isV (.int .i64 most)), (153, newV NX X), (154, isV (.bool true)), (155, isV (.bool true)), (156, isV (.slice A7 nS c7)), (157, isV (.slice A8 nS c8)), (158, isV (.bool true)), (159, isV (.bool true)), (160, isV (.bool true)), (161, isV (.int .i64 eS)), (162, isV (.int .i64 eS)), (163, isV (.bool true)), (164, isV (.bool true)), (165, isV (.bool true)), (166, isV (.pointer (some ⟨g, 0, none⟩))), (167, newV N4 b.hold), (168, isV (.pointer (some ⟨gm, 0, none⟩))), (169, isV (.pointer (some ⟨gm, 0, none⟩))), (170, isV (.pointer (some ⟨gm, 784, none⟩))), (171, isV (.slice Ah8 N4 ch8)), (172, isV (.bool true)), (173, isV (.bool true)), (2, isV (.bool true))] (by kernel_rfl) (by rfl) (by kernel_rfl) ?_ ?_
                    · simp only [List.take_succ_cons, List.take_zero, famAll]
                      repeat' apply And.intro
                      · intro f V hg hl
                        simp [Oper.looksAt, Op.operands, Call.operands, famAt, famOf, isV] at hl
                        simp [famWants, boolIs_bool, boolIs_undef, execOp, rho, go_sem, hl, famUpon, famOf, isV, Grows.refl]
                      · intro f V hg hl
                        obtain ⟨s0, s1, s2, s3, s4, s5, s6, s7, s8⟩ := HSC.out V hg
                        simp [Oper.looksAt, Op.operands, Call.operands, famAt, famOf, isV] at hl
                        simp [famWants, boolIs_bool, boolIs_undef, execOp, rho, go_sem, hl, s0, s1, s2, s3, s4, s5, s6, s7, s8, famUpon, famOf, isV, Grows.refl]
                      · intro f V hg hl
                        simp [Oper.looksAt, Op.operands, Call.operands, famAt, famOf, isV] at hl
                        simp [famWants, boolIs_bool, boolIs_undef, execOp, rho, go_sem, hl, famUpon, famOf, isV, Grows.refl]
                        refine (HTO.out V hg).mono ?_
                        rintro e w'' ⟨A', c', rfl, hc, hb⟩
                        exact ⟨_, rfl, hb, A', c', by rw [HNS.out], hc.mono (Below.size hg)⟩
                      · intro f V hg hl
                        simp [Oper.looksAt, Op.operands, Call.operands, famAt, famOf, isV] at hl
                        simp [famWants, boolIs_bool, boolIs_undef, execOp, rho, go_sem, hl, famUpon, famOf, isV, Grows.refl]
                      · intro f V hg hl
                        simp [Oper.looksAt, Op.operands, Call.operands, famAt, famOf, isV] at hl
                        obtain ⟨e144, ⟨A0, c0, e146, hc⟩, e147⟩ := hl
                        have hl := And.intro e144 e147
                        simp [famWants, boolIs_bool, boolIs_undef, execOp, rho, go_sem, hl, e146, famUpon, famOf, isV, Grows.refl]
                        refine (HNW.out V A0 c0 hg hc).mono ?_
                        rintro e w'' ⟨A', N', c', l', rfl, hN', hp', hO', hb'⟩
                        exact ⟨_, rfl, hb', A', c', l', by rw [hN'.out, ← plain_len, hp', HNXX.out], hp', hO'.erds⟩
                      · intro f V hg hl
                        simp [Oper.looksAt, Op.operands, Call.operands, famAt, famOf, isV] at hl
                        simp [famWants, boolIs_bool, boolIs_undef, execOp, rho, go_sem, hl, famUpon, famOf, isV, Grows.refl]
                      · intro f V hg hl
                        obtain ⟨s0, s1, s2, s3, s4, s5, s6, s7, s8⟩ := HSC.out V hg
                        simp [Oper.looksAt, Op.operands, Call.operands, famAt, famOf, isV] at hl
                        simp [famWants, boolIs_bool, boolIs_undef, execOp, rho, go_sem, hl, s0, s1, s2, s3, s4, s5, s6, s7, s8, famUpon, famOf, isV, Grows.refl]
                      · intro f V hg hl
                        simp [Oper.looksAt, Op.operands, Call.operands, famAt, famOf, isV] at hl
                        simp [famWants, boolIs_bool, boolIs_undef, execOp, rho, go_sem, hl, famUpon, famOf, isV, Grows.refl]
                        refine (HRF.out V hg).mono ?_
                        rintro e w'' ⟨A', c', rfl, hc, hb⟩
                        exact ⟨_, rfl, hb, A', c', by rw [HNS.out], hc.mono (Below.size hg)⟩
                      · intro f V hg hl
                        simp [Oper.looksAt, Op.operands, Call.operands, famAt, famOf, isV] at hl
                        simp [famWants, boolIs_bool, boolIs_undef, execOp, rho, go_sem, hl, famUpon, famOf, isV, Grows.refl]
                      · intro f V hg hl
                        simp [Oper.looksAt, Op.operands, Call.operands, famAt, famOf, isV] at hl
                        obtain ⟨e149, ⟨A0, c0, e151, hc⟩, e152⟩ := hl
                        have hl := And.intro e149 e152
                        simp [famWants, boolIs_bool, boolIs_undef, execOp, rho, go_sem, hl, e151, famUpon, famOf, isV, Grows.refl]
                        refine (HRN.out V A0 c0 hg hc).mono ?_
                        rintro e w'' ⟨A', N', c', l', rfl, hN', hp', hO', hb'⟩
                        exact ⟨_, rfl, hb', A', c', l', by rw [hN'.out, ← plain_len, hp', HNXX.out], hp', hO'.erds⟩
                      · intro f V hg hl
                        simp [Oper.looksAt, Op.operands, Call.operands, famAt, famOf, isV] at hl
                        obtain ⟨⟨A0, c0, l0, e148, h1, h2⟩, A2, c2, l2, e153, h3, h4⟩ := hl
                        have hl := e148
                        simp [famWants, boolIs_bool, boolIs_undef, execOp, rho, go_sem, hl, e153, famUpon, famOf, isV, Grows.refl]
                        refine (HAX.out V A0 c0 l0 A2 c2 l2 h1 h3 h2 h4).mono ?_
                        rintro e w'' ⟨rfl, hb⟩
                        exact ⟨rfl, hb⟩
                      · intro f V hg hl
                        simp [Oper.looksAt, Op.operands, Call.operands, famAt, famOf, isV] at hl
                        simp [famWants, boolIs_bool, boolIs_undef, execOp, rho, go_sem, hl, famUpon, famOf, isV, Grows.refl]
                      · intro f V hg hl
                        simp [Oper.looksAt, Op.operands, Call.operands, famAt, famOf, isV] at hl
                        simp [famWants, boolIs_bool, boolIs_undef, execOp, rho, go_sem, hl, famUpon, famOf, isV, Grows.refl]
                      · intro f V hg hl
                        simp [Oper.looksAt, Op.operands, Call.operands, famAt, famOf, isV] at hl
                        simp [famWants, boolIs_bool, boolIs_undef, execOp, rho, go_sem, hl, famUpon, famOf, isV, Grows.refl]
                      · intro f V hg hl
                        simp [Oper.looksAt, Op.operands, Call.operands, famAt, famOf, isV] at hl
                        simp [famWants, boolIs_bool, boolIs_undef, execOp, rho, go_sem, hl, famUpon, famOf, isV, Grows.refl]
                        refine (HDT.out V hg).mono ?_
                        rintro e w'' ⟨rfl, hb⟩
                        exact ⟨rfl, hb⟩
                      · intro f V hg hl
                        simp [Oper.looksAt, Op.operands, Call.operands, famAt, famOf, isV] at hl
                        simp [famWants, boolIs_bool, boolIs_undef, execOp, rho, go_sem, hl, famUpon, famOf, isV, Grows.refl]
                      · intro f V hg hl
                        simp [Oper.looksAt, Op.operands, Call.operands, famAt, famOf, isV] at hl
                        simp [famWants, boolIs_bool, boolIs_undef, execOp, rho, go_sem, hl, famUpon, famOf, isV, Grows.refl]
                      · intro f V hg hl
                        simp [Oper.looksAt, Op.operands, Call.operands, famAt, famOf, isV] at hl
                        simp [famWants, boolIs_bool, boolIs_undef, execOp, rho, go_sem, hl, famUpon, famOf, isV, Grows.refl]
                      · intro f V hg hl
                        simp [Oper.looksAt, Op.operands, Call.operands, famAt, famOf, isV] at hl
                        simp [famWants, boolIs_bool, boolIs_undef, execOp, rho, go_sem, hl, famUpon, famOf, isV, Grows.refl]
                      · intro f V hg hl
                        simp [Oper.looksAt, Op.operands, Call.operands, famAt, famOf, isV] at hl
                        simp [famWants, boolIs_bool, boolIs_undef, execOp, rho, go_sem, hl, famUpon, famOf, isV, Grows.refl]
                      · intro f V hg hl
                        simp [Oper.looksAt, Op.operands, Call.operands, famAt, famOf, isV] at hl
                        simp [famWants, boolIs_bool, boolIs_undef, execOp, rho, go_sem, hl, famUpon, famOf, isV, Grows.refl]
                      · intro f V hg hl
                        simp [Oper.looksAt, Op.operands, Call.operands, famAt, famOf, isV] at hl
                        simp [famWants, boolIs_bool, boolIs_undef, execOp, rho, go_sem, hl, famUpon, famOf, isV, Grows.refl]
                      · intro f V hg hl
                        simp [Oper.looksAt, Op.operands, Call.operands, famAt, famOf, isV] at hl
                        simp [famWants, boolIs_bool, boolIs_undef, execOp, rho, go_sem, hl, famUpon, famOf, isV, Grows.refl]
                      · intro f V hg hl
                        simp [Oper.looksAt, Op.operands, Call.operands, famAt, famOf, isV] at hl
                        simp [famWants, boolIs_bool, boolIs_undef, execOp, rho, go_sem, hl, famUpon, famOf, isV, Grows.refl]
                        refine (HEV.out V hg).mono ?_
                        rintro e w'' ⟨A', N', c', l', rfl, hN', hp', hO', hb'⟩
                        exact ⟨_, rfl, hb', A', c', l', by rw [hN'.out, ← plain_len, hp', HLE.out], hp', hO'.erds⟩
                      · intro f V hg hl
                        simp [Oper.looksAt, Op.operands, Call.operands, famAt, famOf, isV] at hl
                        simp [famWants, boolIs_bool, boolIs_undef, execOp, rho, go_sem, hl, famUpon, famOf, isV, Grows.refl]
                      · intro f V hg hl
                        simp [Oper.looksAt, Op.operands, Call.operands, famAt, famOf, isV] at hl
                        simp [famWants, boolIs_bool, boolIs_undef, execOp, rho, go_sem, hl, famUpon, famOf, isV, Grows.refl]
                      · intro f V hg hl
                        simp [Oper.looksAt, Op.operands, Call.operands, famAt, famOf, isV] at hl
                        simp [famWants, boolIs_bool, boolIs_undef, execOp, rho, go_sem, hl, famUpon, famOf, isV, Grows.refl]
                      · intro f V hg hl
                        have k4 := HK8.out V hg
                        simp [Oper.looksAt, Op.operands, Call.operands, famAt, famOf, isV] at hl
                        simp [famWants, boolIs_bool, boolIs_undef, execOp, rho, go_sem, hl, k4, famUpon, famOf, isV, Grows.refl]
                      · intro f V hg hl
                        simp [Oper.looksAt, Op.operands, Call.operands, famAt, famOf, isV] at hl
                        obtain ⟨⟨A0, c0, l0, e167, h1, h2⟩, e171, e165⟩ := hl
                        have hl := e165
                        simp [famWants, boolIs_bool, boolIs_undef, execOp, rho, go_sem, hl, e167, e171, famUpon, famOf, isV, Grows.refl]
                        refine (HAH.out V A0 c0 l0 hg h1 h2).mono ?_
                        rintro e w'' ⟨rfl, hb⟩
                        exact ⟨rfl, hb⟩
                      · intro f V hg hl
                        simp [Oper.looksAt, Op.operands, Call.operands, famAt, famOf, isV] at hl
                        simp [famWants, boolIs_bool, boolIs_undef, execOp, rho, go_sem, hl, famUpon, famOf, isV, Grows.refl]
                      · intro f V hg hl
                        simp [Oper.looksAt, Op.operands, Call.operands, famAt, famOf, isV] at hl
                        simp [famWants, boolIs_bool, boolIs_undef, execOp, rho, go_sem, hl, famUpon, famOf, isV, Grows.refl]
                      · trivial
                    · intro u V hg hu
                      have e2 : u 2 = .bool true := hu 2 (by decide)
                      simp only [List.drop_succ_cons, List.drop_zero, fill, Act.put, List.setIfInBounds_toArray, List.set_cons_zero, List.set_cons_succ, e2]
                      refine wpList_nil ?_
                      have hbV := (hG8.new hg).bl
                      clear hu e2 HSC HTO HRF HNW HRN HAX HDT HEV HK8 HAH hG8
                      go_wp2
                      go_ret
                      exact ⟨rfl, hbV⟩
end Go.Proofs.Ytedcgfcmhaeldaa
