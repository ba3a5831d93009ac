/- Layer 8, the program's: Seen. -/
import Derived.Test.YtedcgfcmhaeldaaBkP2
import Derived.Test.YtedcgfcmhaeldaaQDot
namespace Go.Proofs.Ytedcgfcmhaeldaa
set_option linter.unusedVariables false
set_option linter.unusedSimpArgs false
open Go.ChangeShapes Go.WideShapes Go.ChangeAt Go.RowKit

set_option maxRecDepth 100000 in
set_option maxHeartbeats 4000000 in
theorem bseen_any {S : Nat → Prop} {g : Nat} {m : Option Nat} {b : B.Bk} (w : World) (hP : PB w S g m b) :
    Calls Try.prog 19 #[.pointer (some ⟨g, 0, none⟩)] w (CopyPost (D.cU b.saw) (D.cM b.saw) w) := by
  obtain ⟨hok, T, hT, hPi⟩ := hP
  obtain ⟨hUU, hMM⟩ := D.cl_same hT
  have HUU := Lib.hid hUU
  have HMM := Lib.hid hMM
  obtain ⟨w1, hw1⟩ : ∃ W, w.alloc (.cells (scs (fun _ => 0) none 0 0) 53) = W := ⟨_, rfl⟩
  obtain ⟨gx, hgx⟩ : ∃ q, q = w.heap.size := ⟨_, rfl⟩
  have hb1 : Below w.heap.size w w1 := by rw [← hw1]; exact b_alloc _ _
  have hs1 := hb1.size
  have hX1 : Blo w1 gx 53 (scs (fun _ => 0) none 0 0) := by rw [← hw1, hgx]; exact Blo.made _ _ _
  have hP1 := hPi.new hb1
  have hlt := hPi.lt
  obtain ⟨A, c, hB, hR⟩ := hP1.blk
  obtain ⟨M, hM⟩ : ∃ M, D.cM T = M := ⟨_, rfl⟩
  rw [hM] at hB hR
  obtain ⟨n, hn⟩ : ∃ k, M.length = k := ⟨_, rfl⟩
  have hl : n ≤ 1000000 := by have := D.cM_len T; rw [hM] at this; omega
  rw [hn] at hB
  obtain ⟨U, hU⟩ : ∃ U, D.cU T = U := ⟨_, rfl⟩
  rw [hU] at hB
  have HB : Hid (∀ V, Grows w1 V → _) := Lib.hid (fun V hV => set11 (hB.new hV))
  have HC : Hid (∀ V, Grows w1 V → Calls Try.prog 46 #[.slice A n c] V (ClonePost M V)) := Lib.hid (fun V hV => clone_any _ A n c M V hn (hR.new hV).rds hl)
  have HM := Lib.hid hM
  have HU := Lib.hid hU
  have HN := Lib.hid hn
  have HW := Lib.hid hw1
  have HGX := Lib.hid hgx
  clear hw1 hgx hM hU hn hUU hMM hT hR hB hPi hP1
  go_enter Try.func19, Try.ntmps19
  go_wp2_with fail
  rw [HW.out, ← HGX.out]
  refine wp_fam (n := 12) (size := 18) (D := [6, 7, 8, 9, 10, 11, 12, 13, 14, 15, 16, 17]) [(6, isV (.pointer (some ⟨g, 0, none⟩))), (7, isV (.pointer (some ⟨g, 0, none⟩))), (8, isV (.pointer (some ⟨g, 0, none⟩))), (9, isV (.pointer (some ⟨g, 0, none⟩))), (10, isV (av U)), (11, isV (.pointer (some ⟨g, 0, none⟩))), (12, isV (.pointer (some ⟨g, 0, none⟩))), (13, isV (.pointer (some ⟨g, 0, none⟩))), (14, isV (.pointer (some ⟨g, 8, none⟩))), (15, isV (.slice A n c)), (16, copyV w1.heap.size n M), (17, copyS U w1.heap.size n M)] (by kernel_rfl) (by rfl) (by kernel_rfl) ?_ ?_
  · simp only [List.take_succ_cons, List.take_zero, famAll]
    repeat' apply And.intro
    · intro f V hg hl
      simp [Oper.looksAt, Op.operands, Call.operands, famAt, famOf, isV] at hl
      simp [famWants, boolIs_bool, boolIs_undef, execOp, rho, go_sem, hl, famUpon, famOf, isV, Grows.refl]
    · intro f V hg hl
      simp [Oper.looksAt, Op.operands, Call.operands, famAt, famOf, isV] at hl
      simp [famWants, boolIs_bool, boolIs_undef, execOp, rho, go_sem, hl, famUpon, famOf, isV, Grows.refl]
    · intro f V hg hl
      simp [Oper.looksAt, Op.operands, Call.operands, famAt, famOf, isV] at hl
      simp [famWants, boolIs_bool, boolIs_undef, execOp, rho, go_sem, hl, famUpon, famOf, isV, Grows.refl]
    · intro f V hg hl
      simp [Oper.looksAt, Op.operands, Call.operands, famAt, famOf, isV] at hl
      simp [famWants, boolIs_bool, boolIs_undef, execOp, rho, go_sem, hl, famUpon, famOf, isV, Grows.refl]
    · intro f V hg hl
      obtain ⟨b0, b1, b2, b3, b4, b5, b6, b7, b8, b9, b10⟩ := HB.out V hg
      simp [Oper.looksAt, Op.operands, Call.operands, famAt, famOf, isV] at hl
      simp [famWants, boolIs_bool, boolIs_undef, execOp, rho, go_sem, hl, b0, b1, b2, b3, b4, b5, b6, b7, b8, b9, b10, famUpon, famOf, isV, Grows.refl]
    · intro f V hg hl
      simp [Oper.looksAt, Op.operands, Call.operands, famAt, famOf, isV] at hl
      simp [famWants, boolIs_bool, boolIs_undef, execOp, rho, go_sem, hl, famUpon, famOf, isV, Grows.refl]
    · intro f V hg hl
      simp [Oper.looksAt, Op.operands, Call.operands, famAt, famOf, isV] at hl
      simp [famWants, boolIs_bool, boolIs_undef, execOp, rho, go_sem, hl, famUpon, famOf, isV, Grows.refl]
    · intro f V hg hl
      simp [Oper.looksAt, Op.operands, Call.operands, famAt, famOf, isV] at hl
      simp [famWants, boolIs_bool, boolIs_undef, execOp, rho, go_sem, hl, famUpon, famOf, isV, Grows.refl]
    · intro f V hg hl
      simp [Oper.looksAt, Op.operands, Call.operands, famAt, famOf, isV] at hl
      simp [famWants, boolIs_bool, boolIs_undef, execOp, rho, go_sem, hl, famUpon, famOf, isV, Grows.refl]
    · intro f V hg hl
      obtain ⟨b0, b1, b2, b3, b4, b5, b6, b7, b8, b9, b10⟩ := HB.out V hg
      simp [Oper.looksAt, Op.operands, Call.operands, famAt, famOf, isV] at hl
      simp [famWants, boolIs_bool, boolIs_undef, execOp, rho, go_sem, hl, b0, b1, b2, b3, b4, b5, b6, b7, b8, b9, b10, famUpon, famOf, isV, Grows.refl]
    · intro f V hg hl
      simp [Oper.looksAt, Op.operands, Call.operands, famAt, famOf, isV] at hl
      simp [famWants, boolIs_bool, boolIs_undef, execOp, rho, go_sem, hl, famUpon, famOf, isV, Grows.refl]
      refine (HC.out V hg).mono ?_
      rintro e w'' ⟨A', c', rfl, hc, hb⟩
      exact ⟨_, rfl, hb, A', c', by rw [HN.out], hc.mono (Below.size hg)⟩
    · intro f V hg hl
      simp [Oper.looksAt, Op.operands, Call.operands, famAt, famOf, isV] at hl
      obtain ⟨e10, A', c', e16, hcp⟩ := hl
      have hl := e10
      simp [famWants, boolIs_bool, boolIs_undef, execOp, rho, go_sem, hl, e16, famUpon, famOf, isV, Grows.refl]
      exact ⟨A', c', rfl, hcp⟩
    · trivial
  · intro u V hg hu
    obtain ⟨A', c', e17, hcp⟩ : ∃ A' c', u 17 = sv U A' n c' ∧ Copy V w1.heap.size A' c' M := hu 17 (by decide)
    simp only [List.drop_succ_cons, List.drop_zero, fill, Act.put, List.setIfInBounds_toArray, List.set_cons_zero, List.set_cons_succ, e17]
    have hXV := hX1.new hg
    have hbV := below_new hb1 hg
    clear hu e17 HB HC
    go_wp2_with (refine wpList_setv _ rfl 53 _ _ rfl Try.sizeSet gx _ rfl U A' n c' rfl hXV rfl ?_)
    intro w5 hZ5 hg5
    have hgxw : gx < w1.heap.size := hX1.lt
    have hgx0 : w.heap.size ≤ gx := by have := HGX.out; omega
    have hcp5 : Copy w5 w1.heap.size A' c' M := hcp.grown hg5 hgxw
    have hb5 : Below w.heap.size w w5 := hbV.grown hg5 hbV.size (fun k hk => by injection hk with hk; omega)
    obtain ⟨y0, y1, y2, y3, y4, y5, y6, y7, y8⟩ := set9 hZ5
    rw [HGX.out] at y0 y1 y2 y3 y4 y5 y6 y7 y8
    go_wp2
    refine bodyPost_ret (v := sv U A' n c') ?_ rfl ?_
    · simp [results, Try.results19, go_sem, HGX.out, y0, y1, y2, y3, y4, y5, y6, y7, y8]
    refine ⟨A', c', ?_, ?_, hb5⟩
    · rw [← HU.out, sv_congr HUU.out, ← HMM.out, HM.out, HN.out]
    · rw [← HMM.out, HM.out]; exact hcp5.mono hs1
end Go.Proofs.Ytedcgfcmhaeldaa
