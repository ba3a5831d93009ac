/- Layer 7, the document's own: Same (of the same), Copy. -/
import Derived.Test.YtodlifbhpgphcaaEvPol
import Derived.Test.YtodlifbhpgphcaaFam
namespace Go.Proofs.Ytodlifbhpgphcaa
set_option linter.unusedVariables false
set_option linter.unusedSimpArgs false
open Go.ChangeShapes Go.WideShapes Go.ChangeAt Go.RowKit

theorem eql_pol1 (F : Nat → Int) (W : World) : (binOp .eql 43 (pv F) (pv F)).run Try.prog W = .ok (.bool true) W := by
  rw [run_eql_struct, eqIn_pol]
  simp

set_option maxRecDepth 100000 in
set_option maxHeartbeats 4000000 in
theorem esame_yes (S T : Nat → Prop) (F : Nat → Int) (A B : Option Addr) (n c d : Nat) (M : List D.Dot) (w : World) (hn : M.length = n) (hA : Rds w S A (dvs M)) (hB : Rds w T B (dvs M)) (hl : n ≤ 1000000) :
    Calls Try.prog 19 #[ev F A n c, ev F B n d] w fun e w' => e = .returned (.bool true) ∧ Below w.heap.size w w' := by
  have q1 : ∀ W, (binOp .eql 41 (.agg #[.int .i64 (F 0), .int .i64 (F 1)]) (.agg #[.int .i64 (F 0), .int .i64 (F 1)])).run Try.prog W = .ok (.bool true) W := fun W => by rw [eql_dot]; simp
  have q2 := Try.guardDot
  have q3 := fun W => eql_pol1 F W
  have q4 := Try.guardPol
  go_enter Try.func19, Try.ntmps19
  go_wp2_with fail
  refine (dots_yes S T A B n c d M _ hn ((hA.alloc _).alloc _) ((hB.alloc _).alloc _) hl).mono ?_
  rintro e w1 ⟨rfl, hd⟩
  clear q1 q2 q3 q4
  go_wp2
  go_ret
  exact ⟨rfl, (b_alloc2 _ _ _).trans (hd.below _)⟩

/-- An append of dots onto an empty literal. -/
theorem wpList_dapp0 (w : World) {ops : Array Oper} {rest : List Oper} {o : Oper} {a : Act} {Q : Exit → Act → World → Prop} (hgd : o.guard = none) (s x : Operand)
    (ho : o.op = .call { callee := .builtin .append, args := #[s, x], argTypes := #[44, 44] })
    (p : Addr) (hs : a.eval s = .slice (some p) 0 0)
    (S : Nat → Prop) (A : Option Addr) (m c : Nat) (news : List D.Dot) (hx : a.eval x = .slice A m c) (hm : news.length = m) (hr : Rds w S A (dvs news)) (h63 : m ≤ 1000000)
    (h : ∀ A' c' w', Copy w' w.heap.size A' c' news → Below w.heap.size w w' → wpList Try.prog ops Q rest (a.put o.dst (.slice A' m c')) w') : wpList Try.prog ops Q (o :: rest) a w := by
  refine wpList_plain hgd fun K hK => ?_
  obtain ⟨A', c', w', hrun, h2, h3⟩ := run_dapp0 w o.type p S A m c news hm hr h63
  unfold Oper.wp execOp
  simp only [ho, resolve, invoke, builtin, Sem.run_bind, Sem.run_pure, Result.andThen_ok, List.map_toArray, List.map_cons, List.map_nil, hs, hx, hrun]
  exact hK _ _ (h A' c' w' h2 h3)
/-- An event with a row of dots of its own (none: no row). -/
def EvPost (F : Nat → Int) (M : List D.Dot) (w : World) (e : Ending) (w' : World) : Prop :=
  ∃ A c, e = .returned (ev F A M.length c) ∧ Copy w' w.heap.size A c M ∧ Below w.heap.size w w'
set_option maxRecDepth 100000 in
set_option maxHeartbeats 4000000 in
theorem ecopy_any (S : Nat → Prop) (F : Nat → Int) (A : Option Addr) (n c : Nat) (M : List D.Dot) (w : World) (hn : M.length = n) (hr : Rds w S A (dvs M)) (hl : n ≤ 1000000) :
    Calls Try.prog 18 #[ev F A n c] w (EvPost F M w) := by
  obtain ⟨w1, hw1⟩ : ∃ W, (w.alloc (.cells (ecs F A n c) 46)).alloc (.cells (ecs (fun _ => 0) none 0 0) 46) = W := ⟨_, rfl⟩
  have hb1 : Below w.heap.size w w1 := by rw [← hw1]; exact b_alloc2 _ _ _
  have hX : Blo w1 w.heap.size 46 (ecs F A n c) := by rw [← hw1]; exact (Blo.made _ _ _).alloc _
  have hY : Blo w1 (w.heap.size + 1) 46 (ecs (fun _ => 0) none 0 0) := by
    rw [← hw1]
    have := Blo.made (w.alloc (.cells (ecs F A n c) 46)) 46 (ecs (fun _ => 0) none 0 0)
    simpa using this
  have HW := Lib.hid hw1
  have HN := Lib.hid hn
  have hr1 := hr.new hb1
  clear hw1 hn hr
  go_enter Try.func18, Try.ntmps18
  have hre := hr1
  rw [← HW.out] at hre
  go_wp2_with (at_builtin; refine wpList_dapp0 _ rfl _ _ rfl _ rfl S A n c M rfl HN.out (hre.alloc _) hl ?_)
  intro A2 c2 w2 hC2 hb2
  have e0 : ((w.alloc (.cells (ecs F A n c) 46)).alloc (.cells (ecs (fun _ => 0) none 0 0) 46)).alloc (.cells #[] 41) = w1.alloc (.cells #[] 41) := by rw [HW.out]
  have hb2 : Below (w1.alloc (.cells #[] 41)).heap.size (w1.alloc (.cells #[] 41)) w2 := by rw [← e0]; simpa using hb2
  have hC2 : Copy w2 (w1.alloc (.cells #[] 41)).heap.size A2 c2 M := by rw [← e0]; simpa using hC2
  have hX2 := (hX.alloc (.cells #[] 41)).new hb2
  have hY2 := (hY.alloc (.cells #[] 41)).new hb2
  have hb02 := below_new (below_new hb1 (b_alloc _ _)) hb2
  have hs2 : w.heap.size ≤ (w1.alloc (.cells #[] 41)).heap.size := (below_new hb1 (b_alloc w1 (.cells #[] 41))).size
  have z13 : w2.cell? ⟨w.heap.size, 13, none⟩ = some (.slice A n c) := by simpa using hX2.cell 13
  have f13 := hX2.frozen 13
  have hgx : w2.grownBy (w2.setCell ⟨w.heap.size, 13, none⟩ (.slice A2 n c2)) (some w.heap.size) := gb_set (World.grownBy.refl _ _) (.inl rfl) _
  have hX3 := hX2.put 13 (.slice A2 n c2)
  rw [ecs_more] at hX3
  have hY3 := hY2.grown hgx (fun e => by injection e with e; omega)
  have hC3 : Copy (w2.setCell ⟨w.heap.size, 13, none⟩ (.slice A2 n c2)) (w1.alloc (.cells #[] 41)).heap.size A2 c2 M := ⟨hC2.1, hC2.2.imp id fun h => h.grown hgx (fun b hb e => h.blo hX2 (by decide) (hb.trans e))⟩
  have hb03 := hb02.grown hgx hb02.size (fun k hk => by injection hk with hk; omega)
  obtain ⟨w3, hw3⟩ : ∃ W, w2.setCell ⟨w.heap.size, 13, none⟩ (.slice A2 n c2) = W := ⟨_, rfl⟩
  rw [hw3] at hX3 hY3 hC3 hb03
  obtain ⟨z0, z1, z2, z3, z4, z5, z6, z7, z8, z9, z10, z11, z12, z13'⟩ := set14 hX3
  clear e0 hgx hX2 hY2 hC2 hb02 hb2 hre hr1 hX hY hb1
  go_wp2_with (refine wpList_sete _ rfl _ _ rfl (w.heap.size + 1) _ rfl F A2 n c2 rfl hY3 rfl ?_)
  intro w4 hZ4 hg4
  have hC4 : Copy w4 (w1.alloc (.cells #[] 41)).heap.size A2 c2 M := ⟨hC3.1, hC3.2.imp id fun h => h.grown hg4 (fun b hb e => h.blo hY3 (by decide) (hb.trans e))⟩
  have hb04 := hb03.grown hg4 hb03.size (fun k hk => by injection hk with hk; omega)
  clear z0 z1 z2 z3 z4 z5 z6 z7 z8 z9 z10 z11 z12 z13' z13 f13 hw3
  obtain ⟨z0, z1, z2, z3, z4, z5, z6, z7, z8, z9, z10, z11, z12, z13⟩ := set14 hZ4
  go_wp2
  refine bodyPost_ret (v := ev F A2 n c2) ?_ rfl ?_
  · simp [results, Try.results18, go_sem, z0, z1, z2, z3, z4, z5, z6, z7, z8, z9, z10, z11, z12, z13]
  unfold EvPost
  rw [HN.out]
  exact ⟨A2, c2, rfl, ⟨hC4.1, hC4.2.imp id fun h => h.mono hs2⟩, hb04⟩
end Go.Proofs.Ytodlifbhpgphcaa
