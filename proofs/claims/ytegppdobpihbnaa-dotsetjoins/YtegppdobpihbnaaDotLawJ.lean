/- Layer 6, words for DotsetJoins: a dot stored whole; three sets and a dot; the law's own 'same'. -/
import Derived.Test.YtegppdobpihbnaaDotLawV
import Derived.Test.YtegppdobpihbnaaFamF
namespace Go.Proofs.Ytegppdobpihbnaa
set_option linter.unusedVariables false
set_option linter.unusedSimpArgs false
open Go.ChangeShapes Go.WideShapes Go.ChangeAt Go.RowKit

theorem run_dotv (w : World) (r : Nat) (cs : Array Value) (hB : Blo w r 27 cs) (hs : cs.size = 2) (a b : Int) :
    ∃ W, (Instr.storeAt 27 (.pointer (some ⟨r, 0, none⟩)) (.agg #[.int .i64 a, .int .i64 b])).run Try.prog w = .ok () W ∧ Blo W r 27 #[.int .i64 a, .int .i64 b] ∧ w.grownBy W (some r) := by
  obtain ⟨i0, hi, hz0, hz1, hz2⟩ := info_parts Try.rowDot
  have h1 := run_storeCells_at (P := Try.prog) r 0 27 [.int .i64 a, .int .i64 b] 0 cs w hB (by simp; omega) (by intro v hv; simp at hv; rcases hv with rfl | rfl <;> rfl)
  have hd : cs.toList.drop 2 = [] := List.drop_eq_nil_of_le (by simp; omega)
  have e : (cs.toList.take (0 + 0) ++ [Value.int .i64 a, .int .i64 b] ++ cs.toList.drop (0 + 0 + ([Value.int .i64 a, .int .i64 b] : List Value).length)).toArray = #[.int .i64 a, .int .i64 b] := by simp [hd]
  rw [e] at h1
  refine ⟨_, ?_, setRow_heap w r cs _ 27 _ hB, ⟨rfl, rfl, rfl, by simp, fun k _ hk => setRow_other w r k _ (fun e => hk (by rw [e]))⟩⟩
  rw [← h1]
  simp [Instr.storeAt, Instr.sureAddr, storeVar, sizeOf, typeInfo, hi, hz1, Value.cells]
theorem wpList_dotv (w : World) {ops : Array Oper} {rest : List Oper} {o : Oper} {a : Act} {Q : Exit → Act → World → Prop} (hgd : o.guard = none) (x y : Operand) (ho : o.op = .store 27 x y)
    (r : Nat) (cs : Array Value) (hx : a.eval x = .pointer (some ⟨r, 0, none⟩)) (p q : Int) (hy : a.eval y = .agg #[.int .i64 p, .int .i64 q]) (hB : Blo w r 27 cs) (hs : cs.size = 2)
    (h : ∀ W, Blo W r 27 #[.int .i64 p, .int .i64 q] → w.grownBy W (some r) → wpList Try.prog ops Q rest (a.put o.dst undef) W) : wpList Try.prog ops Q (o :: rest) a w := by
  refine wpList_plain hgd fun K hK => ?_
  obtain ⟨W, hrun, h2, h3⟩ := run_dotv w r cs hB hs p q
  unfold Oper.wp execOp
  simp only [ho, hx, hy, Sem.run_bind, Sem.run_pure, Result.andThen_ok, hrun]
  exact hK _ _ (h W h2 h3)

/-- A copy keeps while a block of another kind is written. -/
theorem Copy.far {w w' : World} {B g : Nat} {t : TypeId} {cs : Array Value} {A : Option Addr} {c : Nat} {l : List D.Dot} (h : Copy w B A c l) (hb : Blo w g t cs) (ht : 27 ≠ t) (hg : w.grownBy w' (some g)) : Copy w' B A c l :=
  ⟨h.1, h.2.imp id fun h => h.grown hg (fun _ hb' e => h.blo hb ht (hb'.trans e))⟩

set_option maxHeartbeats 1000000 in
theorem same1_any (S T : Nat → Prop) (U : Nat → Int) (A B : Option Addr) (n c d : Nat) (M : List D.Dot) (w : World) (hn : M.length = n) (hA : Rds w S A (dvs M)) (hB : Rds w T B (dvs M)) (hl : n ≤ 1000000) :
    Calls Try.prog 33 #[sv U A n c, sv U B n d] w fun e w' => e = .returned (.bool true) ∧ Below w.heap.size w w' := by
  obtain ⟨w1, hw1⟩ : ∃ W, (w.alloc (.cells (scs U A n c) 30)).alloc (.cells (scs U B n d) 30) = W := ⟨_, rfl⟩
  have hb1 : Below w.heap.size w w1 := by rw [← hw1]; exact b_alloc2 _ _ _
  have hX : Blo w1 w.heap.size 30 (scs U A n c) := by rw [← hw1]; exact (Blo.made _ _ _).alloc _
  have hY : Blo w1 (w.heap.size + 1) 30 (scs U B n d) := by
    rw [← hw1]
    have := Blo.made (w.alloc (.cells (scs U A n c) 30)) 30 (scs U B n d)
    simpa using this
  have HC : Hid (∀ V, Grows w1 V → _) := Lib.hid (fun V hV => And.intro (set9 (hX.new hV)) (set9 (hY.new hV)))
  have HN := Lib.hid hn
  have HF1 : Hid (∀ V, Grows w1 V → Calls Try.prog 20 #[sv U A n c] V fun e w' => ∃ A' c', e = .returned (sv U A' n c') ∧ Copy w' V.heap.size A' c' M ∧ Below V.heap.size V w') := Lib.hid (fun V hV => by
    have := from_any _ U A n c M V HN.out ((hA.new hb1).new hV) hl
    unfold CopyPost at this
    rw [HN.out] at this
    exact this)
  have HF2 : Hid (∀ V, Grows w1 V → Calls Try.prog 20 #[sv U B n d] V fun e w' => ∃ A' c', e = .returned (sv U A' n c') ∧ Copy w' V.heap.size A' c' M ∧ Below V.heap.size V w') := Lib.hid (fun V hV => by
    have := from_any _ U B n d M V HN.out ((hB.new hb1).new hV) hl
    unfold CopyPost at this
    rw [HN.out] at this
    exact this)
  have HSa : Hid (∀ (V : World) (B1 B2 : Option Addr) (d1 d2 : Nat), Copy V w1.heap.size B1 d1 M → Copy V w1.heap.size B2 d2 M → Calls Try.prog 19 #[sv U B1 n d1, sv U B2 n d2] V fun e w' => e = .returned (.bool true) ∧ Grows V w') := Lib.hid (fun V B1 B2 d1 d2 h1 h2 => rsame_yes _ _ U B1 B2 n d1 d2 M V HN.out h1.at h2.at hl)
  have HW := Lib.hid hw1
  clear hw1 hn
  go_enter Try.func33, Try.ntmps33
  go_wp2_with fail
  rw [HW.out]
  refine wp_fam (n := 6) (size := 10) (D := [5, 6, 7, 8, 9, 4]) [(5, isV (sv U A n c)), (6, copyS U w1.heap.size n M), (7, isV (sv U B n d)), (8, copyS U w1.heap.size n M), (9, isV (.bool true)), (4, isV (.bool true))] (by kernel_rfl) (by rfl) (by kernel_rfl) ?_ ?_
  · simp only [List.take_succ_cons, List.take_zero, famAll]
    repeat' apply And.intro
    · intro f V hg hl
      obtain ⟨⟨z0, z1, z2, z3, z4, z5, z6, z7, z8⟩, _⟩ := HC.out V hg
      simp [Oper.looksAt, Op.operands, Call.operands, famAt, famOf, isV] at hl
      simp [famWants, execOp, rho, go_sem, hl, z0, z1, z2, z3, z4, z5, z6, z7, z8, famUpon, famOf, isV, Grows.refl]
    · intro f V hg hl
      simp [Oper.looksAt, Op.operands, Call.operands, famAt, famOf, isV] at hl
      simp [famWants, execOp, rho, go_sem, hl, famUpon, famOf, isV, Grows.refl]
      refine (HF1.out V hg).mono ?_
      rintro e w'' ⟨B, d, rfl, hc, hb⟩
      exact ⟨_, rfl, hb, B, d, rfl, hc.mono (Below.size hg)⟩
    · intro f V hg hl
      obtain ⟨_, z0, z1, z2, z3, z4, z5, z6, z7, z8⟩ := HC.out V hg
      simp [Oper.looksAt, Op.operands, Call.operands, famAt, famOf, isV] at hl
      simp [famWants, execOp, rho, go_sem, hl, z0, z1, z2, z3, z4, z5, z6, z7, z8, famUpon, famOf, isV, Grows.refl]
    · intro f V hg hl
      simp [Oper.looksAt, Op.operands, Call.operands, famAt, famOf, isV] at hl
      simp [famWants, execOp, rho, go_sem, hl, famUpon, famOf, isV, Grows.refl]
      refine (HF2.out V hg).mono ?_
      rintro e w'' ⟨B, d, rfl, hc, hb⟩
      exact ⟨_, rfl, hb, B, d, rfl, hc.mono (Below.size hg)⟩
    · intro f V hg hl
      simp [Oper.looksAt, Op.operands, Call.operands, famAt, famOf, isV] at hl
      obtain ⟨⟨B1, d1, e6, h1⟩, B2, d2, e8, h2⟩ := hl
      simp [famWants, execOp, rho, go_sem, e6, e8, famUpon, famOf, isV, Grows.refl]
      exact HSa.out V B1 B2 d1 d2 h1 h2
    · intro f V hg hl
      simp [Oper.looksAt, Op.operands, Call.operands, famAt, famOf, isV] at hl
      simp [famWants, execOp, rho, go_sem, hl, famUpon, famOf, isV, Grows.refl]
    · trivial
  · intro u V hg hu
    have h4 : u 4 = .bool true := hu 4 (by decide)
    simp only [List.drop_succ_cons, List.drop_zero, fill, Act.put, List.setIfInBounds_toArray, List.set_cons_zero, List.set_cons_succ, h4]
    refine wpList_nil ?_
    clear hu h4
    go_wp2
    go_ret
    exact ⟨rfl, below_new hb1 hg⟩

/-- One of three. -/
def three {α : Type} (x y z : α) : Nat → α := fun i => if i = 0 then x else if i = 1 then y else z
theorem big_three (n n' n'' : Nat) : anyBig (three n n' n'') 3 = (decide (1000 < n) || decide (1000 < n') || decide (1000 < n'')) := by simp [anyBig, three]
abbrev scs3 (U : Nat → Int) (A : Option Addr) (n c : Nat) (U' : Nat → Int) (A' : Option Addr) (n' c' : Nat) (U'' : Nat → Int) (A'' : Option Addr) (n'' c'' : Nat) : Array Value := #[.int .i64 (U 0), .int .i64 (U 1), .int .i64 (U 2), .int .i64 (U 3), .int .i64 (U 4), .int .i64 (U 5), .int .i64 (U 6), .int .i64 (U 7), .slice A n c,
  .int .i64 (U' 0), .int .i64 (U' 1), .int .i64 (U' 2), .int .i64 (U' 3), .int .i64 (U' 4), .int .i64 (U' 5), .int .i64 (U' 6), .int .i64 (U' 7), .slice A' n' c',
  .int .i64 (U'' 0), .int .i64 (U'' 1), .int .i64 (U'' 2), .int .i64 (U'' 3), .int .i64 (U'' 4), .int .i64 (U'' 5), .int .i64 (U'' 6), .int .i64 (U'' 7), .slice A'' n'' c'']
theorem setAt_three (w : World) (U : Nat → Int) (A : Option Addr) (n c : Nat) (U' : Nat → Int) (A' : Option Addr) (n' c' : Nat) (U'' : Nat → Int) (A'' : Option Addr) (n'' c'' : Nat) (t : TypeId) : ∀ i, i < 3 → SetAt (w.alloc (.cells (scs3 U A n c U' A' n' c' U'' A'' n'' c'') t)) w.heap.size i (three U U' U'' i) (three A A' A'' i) (three n n' n'' i) (three c c' c'' i) := fun i hi j v hv => by
  refine ((Blo.made w t (scs3 U A n c U' A' n' c' U'' A'' n'' c'')).cell (i * 9 + j)).trans (Eq.trans ?_ hv)
  have hj : j < 9 := by
    rcases Nat.lt_or_ge j 9 with h | h
    · exact h
    · rw [Array.getElem?_eq_none (by simpa using h)] at hv; cases hv
  rcases i with _ | _ | _ | i
  · rcases j with _ | _ | _ | _ | _ | _ | _ | _ | _ | j
    all_goals first | rfl | omega
  · rcases j with _ | _ | _ | _ | _ | _ | _ | _ | _ | j
    all_goals first | rfl | omega
  · rcases j with _ | _ | _ | _ | _ | _ | _ | _ | _ | j
    all_goals first | rfl | omega
  · omega
end Go.Proofs.Ytegppdobpihbnaa
