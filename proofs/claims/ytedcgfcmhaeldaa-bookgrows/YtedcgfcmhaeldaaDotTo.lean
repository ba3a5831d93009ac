/- Layer 6, the law's own: To, Ref, From; same. -/
import Derived.Test.YtedcgfcmhaeldaaDotFace
namespace Go.Proofs.Ytedcgfcmhaeldaa
set_option linter.unusedVariables false
set_option linter.unusedSimpArgs false
open Go.ChangeShapes Go.WideShapes Go.ChangeAt Go.RowKit

/-- A call answers a copy of a set. -/
def CopyPost (U : Nat → Int) (M : List D.Dot) (w : World) (e : Ending) (w' : World) : Prop :=
  ∃ A c, e = .returned (sv U A M.length c) ∧ Copy w' w.heap.size A c M ∧ Below w.heap.size w w'
theorem Copy.grown {w w' : World} {B g : Nat} {A : Option Addr} {c : Nat} {l : List D.Dot} (h : Copy w B A c l) (hg : w.grownBy w' (some g)) (hB : g < B) : Copy w' B A c l :=
  ⟨h.1, h.2.imp id fun h => h.grown hg (fun b hb e => by have := (h.lt b hb).1; injection e with e; omega)⟩
/-- An empty literal; a copy of dots; of a set: in a region that draws its order. -/
def litV : StG := ⟨fun u _ => ∃ p, u = .slice (some p) 0 0, fun _ _ _ _ h => h⟩
def copyV (B n : Nat) (M : List D.Dot) : StG := ⟨fun u w => ∃ A c, u = .slice A n c ∧ Copy w B A c M, fun _ _ _ h ⟨A, c, e, k⟩ => ⟨A, c, e, k.new h⟩⟩
def copyS (U : Nat → Int) (B n : Nat) (M : List D.Dot) : StG := ⟨fun u w => ∃ A c, u = sv U A n c ∧ Copy w B A c M, fun _ _ _ h ⟨A, c, e, k⟩ => ⟨A, c, e, k.new h⟩⟩
theorem Try.sizeLaw : (Try.prog.info? 26).map (·.size) = some 9 := by kernel_rfl

set_option maxRecDepth 100000 in
set_option maxHeartbeats 2000000 in
theorem to_any (S : Nat → Prop) (U : Nat → Int) (A : Option Addr) (n c : Nat) (M : List D.Dot) (w : World) (hn : M.length = n) (hr : Rds w S A (dvs M)) (hl : n ≤ 1000000) :
    Calls Try.prog 27 #[sv U A n c] w (CopyPost U M w) := by
  obtain ⟨w1, hw1⟩ : ∃ W, (w.alloc (.cells (scs U A n c) 26)).alloc (.cells (scs (fun _ => 0) none 0 0) 53) = W := ⟨_, rfl⟩
  have hb1 : Below w.heap.size w w1 := by rw [← hw1]; exact b_alloc2 _ _ _
  have hz1 : w1.heap.size = w.heap.size + 2 := by rw [← hw1]; simp
  have hX : Blo w1 w.heap.size 26 (scs U A n c) := by rw [← hw1]; exact (Blo.made _ _ _).alloc _
  have hZ : Blo w1 (w.heap.size + 1) 53 (scs (fun _ => 0) none 0 0) := by
    rw [← hw1]
    have := Blo.made (w.alloc (.cells (scs U A n c) 26)) 53 (scs (fun _ => 0) none 0 0)
    simpa using this
  have hr1 := hr.new hb1
  have HC : Hid (∀ V, Grows w1 V → _) := Lib.hid (fun V hV => set9 (hX.new hV))
  have HA : Hid (∀ (V : World) (p : Addr), Grows w1 V → _) := Lib.hid (fun V p hV => run_dapp0 V 24 p S A n c M hn (hr1.new hV) hl)
  have HW := Lib.hid hw1
  have HN := Lib.hid hn
  clear hw1 hn
  go_enter Try.func27, Try.ntmps27
  go_wp2_with fail
  rw [HW.out]
  refine wp_fam (n := 7) (size := 10) (D := [3, 4, 5, 6, 7, 8, 9]) [(3, isV (.pointer (some ⟨w.heap.size, 0, none⟩))), (4, isV (av U)), (5, litV), (6, isV (.pointer (some ⟨w.heap.size, 8, none⟩))), (7, isV (.slice A n c)), (8, copyV w1.heap.size n M), (9, copyS U w1.heap.size n M)] (by kernel_rfl) (by rfl) (by kernel_rfl) ?_ ?_
  · simp only [List.take_succ_cons, List.take_zero, famAll]
    repeat' apply And.intro
    · intro f V hg hl
      simp [Oper.looksAt, Op.operands, Call.operands, famAt, famOf, isV] at hl
      simp [famWants, execOp, rho, go_sem, hl, famUpon, famOf, isV, Grows.refl]
    · intro f V hg hl
      obtain ⟨z0, z1, z2, z3, z4, z5, z6, z7, z8⟩ := HC.out V hg
      simp [Oper.looksAt, Op.operands, Call.operands, famAt, famOf, isV] at hl
      simp [famWants, execOp, rho, go_sem, hl, z0, z1, z2, z3, z4, z5, z6, z7, z8, famUpon, famOf, isV, Grows.refl]
    · intro f V hg hl
      simp [Oper.looksAt, Op.operands, Call.operands, famAt, famOf, isV] at hl
      simp [famWants, execOp, rho, go_sem, hl, famUpon, famOf, isV, Grows.alloc]
      exact ⟨_, rfl⟩
    · intro f V hg hl
      simp [Oper.looksAt, Op.operands, Call.operands, famAt, famOf, isV] at hl
      simp [famWants, execOp, rho, go_sem, hl, famUpon, famOf, isV, Grows.refl]
    · intro f V hg hl
      obtain ⟨z0, z1, z2, z3, z4, z5, z6, z7, z8⟩ := HC.out V hg
      simp [Oper.looksAt, Op.operands, Call.operands, famAt, famOf, isV] at hl
      simp [famWants, execOp, rho, go_sem, hl, z0, z1, z2, z3, z4, z5, z6, z7, z8, famUpon, famOf, isV, Grows.refl]
    · intro f V hg hl
      simp [Oper.looksAt, Op.operands, Call.operands, famAt, famOf, isV] at hl
      obtain ⟨⟨p, e5⟩, e7⟩ := hl
      obtain ⟨A', c', W', hrun, hcp, hb⟩ := HA.out V p hg
      refine ⟨fun _ => ?_, fun h => by cases h⟩
      simp only [execOp, resolve, invoke, builtin, Sem.run_bind, Sem.run_pure, Result.andThen_ok, List.map_toArray, List.map_cons, List.map_nil, rho, e5, e7, hrun, famUpon]
      refine ⟨hb, fun d hd => ?_⟩
      cases hd
      exact ⟨A', c', rfl, hcp.mono (Below.size hg)⟩
    · intro f V hg hl
      simp [Oper.looksAt, Op.operands, Call.operands, famAt, famOf, isV] at hl
      obtain ⟨e4, A', c', e8, hcp⟩ := hl
      simp [famWants, execOp, rho, go_sem, e4, e8, famUpon, famOf, isV, Grows.refl]
      exact ⟨A', c', rfl, hcp⟩
    · trivial
  · intro u V hg hu
    obtain ⟨A', c', e9, hcp⟩ : ∃ A' c', u 9 = sv U A' n c' ∧ Copy V w1.heap.size A' c' M := hu 9 (by decide)
    simp only [List.drop_succ_cons, List.drop_zero, fill, Act.put, List.setIfInBounds_toArray, List.set_cons_zero, List.set_cons_succ, e9]
    have hZV := hZ.new hg
    have hb0V := below_new hb1 hg
    clear hu e9
    go_wp2_with (refine wpList_setv _ rfl 53 _ _ rfl Try.sizeSet (w.heap.size + 1) _ rfl U A' n c' rfl hZV rfl ?_)
    intro w5 hZ5 hg5
    have hcp5 : Copy w5 w1.heap.size A' c' M := hcp.grown hg5 (by omega)
    have hb5 : Below w.heap.size w w5 := hb0V.grown hg5 hb0V.size (fun k hk => by injection hk with hk; omega)
    obtain ⟨y0, y1, y2, y3, y4, y5, y6, y7, y8⟩ := set9 hZ5
    go_wp2
    refine bodyPost_ret (v := sv U A' n c') ?_ rfl ?_
    · simp [results, Try.results27, go_sem, y0, y1, y2, y3, y4, y5, y6, y7, y8]
    unfold CopyPost
    rw [HN.out]
    exact ⟨A', c', rfl, hcp5.mono (by omega), hb5⟩

set_option maxRecDepth 100000 in
set_option maxHeartbeats 2000000 in
theorem ref_any (S : Nat → Prop) (U : Nat → Int) (A : Option Addr) (n c : Nat) (M : List D.Dot) (w : World) (hn : M.length = n) (hr : Rds w S A (dvs M)) (hl : n ≤ 1000000) :
    Calls Try.prog 29 #[sv U A n c] w (CopyPost U M w) := by
  obtain ⟨w1, hw1⟩ : ∃ W, (w.alloc (.cells (scs U A n c) 26)).alloc (.cells (scs (fun _ => 0) none 0 0) 51) = W := ⟨_, rfl⟩
  have hb1 : Below w.heap.size w w1 := by rw [← hw1]; exact b_alloc2 _ _ _
  have hz1 : w1.heap.size = w.heap.size + 2 := by rw [← hw1]; simp
  have hX : Blo w1 w.heap.size 26 (scs U A n c) := by rw [← hw1]; exact (Blo.made _ _ _).alloc _
  have hZ : Blo w1 (w.heap.size + 1) 51 (scs (fun _ => 0) none 0 0) := by
    rw [← hw1]
    have := Blo.made (w.alloc (.cells (scs U A n c) 26)) 51 (scs (fun _ => 0) none 0 0)
    simpa using this
  have hr1 := hr.new hb1
  have HC : Hid (∀ V, Grows w1 V → _) := Lib.hid (fun V hV => set9 (hX.new hV))
  have HA : Hid (∀ (V : World) (p : Addr), Grows w1 V → _) := Lib.hid (fun V p hV => run_dapp0 V 24 p S A n c M hn (hr1.new hV) hl)
  have HW := Lib.hid hw1
  have HN := Lib.hid hn
  clear hw1 hn
  go_enter Try.func29, Try.ntmps29
  go_wp2_with fail
  rw [HW.out]
  refine wp_fam (n := 7) (size := 10) (D := [3, 4, 5, 6, 7, 8, 9]) [(3, isV (.pointer (some ⟨w.heap.size, 0, none⟩))), (4, isV (av U)), (5, litV), (6, isV (.pointer (some ⟨w.heap.size, 8, none⟩))), (7, isV (.slice A n c)), (8, copyV w1.heap.size n M), (9, copyS U w1.heap.size n M)] (by kernel_rfl) (by rfl) (by kernel_rfl) ?_ ?_
  · simp only [List.take_succ_cons, List.take_zero, famAll]
    repeat' apply And.intro
    · intro f V hg hl
      simp [Oper.looksAt, Op.operands, Call.operands, famAt, famOf, isV] at hl
      simp [famWants, execOp, rho, go_sem, hl, famUpon, famOf, isV, Grows.refl]
    · intro f V hg hl
      obtain ⟨z0, z1, z2, z3, z4, z5, z6, z7, z8⟩ := HC.out V hg
      simp [Oper.looksAt, Op.operands, Call.operands, famAt, famOf, isV] at hl
      simp [famWants, execOp, rho, go_sem, hl, z0, z1, z2, z3, z4, z5, z6, z7, z8, famUpon, famOf, isV, Grows.refl]
    · intro f V hg hl
      simp [Oper.looksAt, Op.operands, Call.operands, famAt, famOf, isV] at hl
      simp [famWants, execOp, rho, go_sem, hl, famUpon, famOf, isV, Grows.alloc]
      exact ⟨_, rfl⟩
    · intro f V hg hl
      simp [Oper.looksAt, Op.operands, Call.operands, famAt, famOf, isV] at hl
      simp [famWants, execOp, rho, go_sem, hl, famUpon, famOf, isV, Grows.refl]
    · intro f V hg hl
      obtain ⟨z0, z1, z2, z3, z4, z5, z6, z7, z8⟩ := HC.out V hg
      simp [Oper.looksAt, Op.operands, Call.operands, famAt, famOf, isV] at hl
      simp [famWants, execOp, rho, go_sem, hl, z0, z1, z2, z3, z4, z5, z6, z7, z8, famUpon, famOf, isV, Grows.refl]
    · intro f V hg hl
      simp [Oper.looksAt, Op.operands, Call.operands, famAt, famOf, isV] at hl
      obtain ⟨⟨p, e5⟩, e7⟩ := hl
      obtain ⟨A', c', W', hrun, hcp, hb⟩ := HA.out V p hg
      refine ⟨fun _ => ?_, fun h => by cases h⟩
      simp only [execOp, resolve, invoke, builtin, Sem.run_bind, Sem.run_pure, Result.andThen_ok, List.map_toArray, List.map_cons, List.map_nil, rho, e5, e7, hrun, famUpon]
      refine ⟨hb, fun d hd => ?_⟩
      cases hd
      exact ⟨A', c', rfl, hcp.mono (Below.size hg)⟩
    · intro f V hg hl
      simp [Oper.looksAt, Op.operands, Call.operands, famAt, famOf, isV] at hl
      obtain ⟨e4, A', c', e8, hcp⟩ := hl
      simp [famWants, execOp, rho, go_sem, e4, e8, famUpon, famOf, isV, Grows.refl]
      exact ⟨A', c', rfl, hcp⟩
    · trivial
  · intro u V hg hu
    obtain ⟨A', c', e9, hcp⟩ : ∃ A' c', u 9 = sv U A' n c' ∧ Copy V w1.heap.size A' c' M := hu 9 (by decide)
    simp only [List.drop_succ_cons, List.drop_zero, fill, Act.put, List.setIfInBounds_toArray, List.set_cons_zero, List.set_cons_succ, e9]
    have hZV := hZ.new hg
    have hb0V := below_new hb1 hg
    clear hu e9
    go_wp2_with (refine wpList_setv _ rfl 51 _ _ rfl Try.sizeRef (w.heap.size + 1) _ rfl U A' n c' rfl hZV rfl ?_)
    intro w5 hZ5 hg5
    have hcp5 : Copy w5 w1.heap.size A' c' M := hcp.grown hg5 (by omega)
    have hb5 : Below w.heap.size w w5 := hb0V.grown hg5 hb0V.size (fun k hk => by injection hk with hk; omega)
    obtain ⟨y0, y1, y2, y3, y4, y5, y6, y7, y8⟩ := set9 hZ5
    go_wp2
    refine bodyPost_ret (v := sv U A' n c') ?_ rfl ?_
    · simp [results, Try.results29, go_sem, y0, y1, y2, y3, y4, y5, y6, y7, y8]
    unfold CopyPost
    rw [HN.out]
    exact ⟨A', c', rfl, hcp5.mono (by omega), hb5⟩

set_option maxRecDepth 100000 in
set_option maxHeartbeats 2000000 in
theorem from_any (S : Nat → Prop) (U : Nat → Int) (A : Option Addr) (n c : Nat) (M : List D.Dot) (w : World) (hn : M.length = n) (hr : Rds w S A (dvs M)) (hl : n ≤ 1000000) :
    Calls Try.prog 18 #[sv U A n c] w (CopyPost U M w) := by
  obtain ⟨w1, hw1⟩ : ∃ W, (w.alloc (.cells (scs U A n c) 53)).alloc (.cells (scs (fun _ => 0) none 0 0) 51) = W := ⟨_, rfl⟩
  have hb1 : Below w.heap.size w w1 := by rw [← hw1]; exact b_alloc2 _ _ _
  have hz1 : w1.heap.size = w.heap.size + 2 := by rw [← hw1]; simp
  have hX : Blo w1 w.heap.size 53 (scs U A n c) := by rw [← hw1]; exact (Blo.made _ _ _).alloc _
  have hZ : Blo w1 (w.heap.size + 1) 51 (scs (fun _ => 0) none 0 0) := by
    rw [← hw1]
    have := Blo.made (w.alloc (.cells (scs U A n c) 53)) 51 (scs (fun _ => 0) none 0 0)
    simpa using this
  have hr1 := hr.new hb1
  have HC : Hid (∀ V, Grows w1 V → _) := Lib.hid (fun V hV => set9 (hX.new hV))
  have HA : Hid (∀ (V : World) (p : Addr), Grows w1 V → _) := Lib.hid (fun V p hV => run_dapp0 V 24 p S A n c M hn (hr1.new hV) hl)
  have HW := Lib.hid hw1
  have HN := Lib.hid hn
  clear hw1 hn
  go_enter Try.func18, Try.ntmps18
  go_wp2_with fail
  rw [HW.out]
  refine wp_fam (n := 7) (size := 10) (D := [3, 4, 5, 6, 7, 8, 9]) [(3, isV (.pointer (some ⟨w.heap.size, 0, none⟩))), (4, isV (av U)), (5, litV), (6, isV (.pointer (some ⟨w.heap.size, 8, none⟩))), (7, isV (.slice A n c)), (8, copyV w1.heap.size n M), (9, copyS U w1.heap.size n M)] (by kernel_rfl) (by rfl) (by kernel_rfl) ?_ ?_
  · simp only [List.take_succ_cons, List.take_zero, famAll]
    repeat' apply And.intro
    · intro f V hg hl
      simp [Oper.looksAt, Op.operands, Call.operands, famAt, famOf, isV] at hl
      simp [famWants, execOp, rho, go_sem, hl, famUpon, famOf, isV, Grows.refl]
    · intro f V hg hl
      obtain ⟨z0, z1, z2, z3, z4, z5, z6, z7, z8⟩ := HC.out V hg
      simp [Oper.looksAt, Op.operands, Call.operands, famAt, famOf, isV] at hl
      simp [famWants, execOp, rho, go_sem, hl, z0, z1, z2, z3, z4, z5, z6, z7, z8, famUpon, famOf, isV, Grows.refl]
    · intro f V hg hl
      simp [Oper.looksAt, Op.operands, Call.operands, famAt, famOf, isV] at hl
      simp [famWants, execOp, rho, go_sem, hl, famUpon, famOf, isV, Grows.alloc]
      exact ⟨_, rfl⟩
    · intro f V hg hl
      simp [Oper.looksAt, Op.operands, Call.operands, famAt, famOf, isV] at hl
      simp [famWants, execOp, rho, go_sem, hl, famUpon, famOf, isV, Grows.refl]
    · intro f V hg hl
      obtain ⟨z0, z1, z2, z3, z4, z5, z6, z7, z8⟩ := HC.out V hg
      simp [Oper.looksAt, Op.operands, Call.operands, famAt, famOf, isV] at hl
      simp [famWants, execOp, rho, go_sem, hl, z0, z1, z2, z3, z4, z5, z6, z7, z8, famUpon, famOf, isV, Grows.refl]
    · intro f V hg hl
      simp [Oper.looksAt, Op.operands, Call.operands, famAt, famOf, isV] at hl
      obtain ⟨⟨p, e5⟩, e7⟩ := hl
      obtain ⟨A', c', W', hrun, hcp, hb⟩ := HA.out V p hg
      refine ⟨fun _ => ?_, fun h => by cases h⟩
      simp only [execOp, resolve, invoke, builtin, Sem.run_bind, Sem.run_pure, Result.andThen_ok, List.map_toArray, List.map_cons, List.map_nil, rho, e5, e7, hrun, famUpon]
      refine ⟨hb, fun d hd => ?_⟩
      cases hd
      exact ⟨A', c', rfl, hcp.mono (Below.size hg)⟩
    · intro f V hg hl
      simp [Oper.looksAt, Op.operands, Call.operands, famAt, famOf, isV] at hl
      obtain ⟨e4, A', c', e8, hcp⟩ := hl
      simp [famWants, execOp, rho, go_sem, e4, e8, famUpon, famOf, isV, Grows.refl]
      exact ⟨A', c', rfl, hcp⟩
    · trivial
  · intro u V hg hu
    obtain ⟨A', c', e9, hcp⟩ : ∃ A' c', u 9 = sv U A' n c' ∧ Copy V w1.heap.size A' c' M := hu 9 (by decide)
    simp only [List.drop_succ_cons, List.drop_zero, fill, Act.put, List.setIfInBounds_toArray, List.set_cons_zero, List.set_cons_succ, e9]
    have hZV := hZ.new hg
    have hb0V := below_new hb1 hg
    clear hu e9
    go_wp2_with (refine wpList_setv _ rfl 51 _ _ rfl Try.sizeRef (w.heap.size + 1) _ rfl U A' n c' rfl hZV rfl ?_)
    intro w5 hZ5 hg5
    have hcp5 : Copy w5 w1.heap.size A' c' M := hcp.grown hg5 (by omega)
    have hb5 : Below w.heap.size w w5 := hb0V.grown hg5 hb0V.size (fun k hk => by injection hk with hk; omega)
    obtain ⟨y0, y1, y2, y3, y4, y5, y6, y7, y8⟩ := set9 hZ5
    go_wp2
    refine bodyPost_ret (v := sv U A' n c') ?_ rfl ?_
    · simp [results, Try.results18, go_sem, y0, y1, y2, y3, y4, y5, y6, y7, y8]
    unfold CopyPost
    rw [HN.out]
    exact ⟨A', c', rfl, hcp5.mono (by omega), hb5⟩

end Go.Proofs.Ytedcgfcmhaeldaa
