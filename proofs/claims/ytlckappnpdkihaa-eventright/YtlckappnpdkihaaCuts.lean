/- Parts of slices, their addresses by a name; append in a region that draws its order. -/
import Derived.Test.YtlckappnpdkihaaMem
import Derived.Deep.RegionHeld3
import Derived.Deep.AppendLies
import Derived.IntWalk
namespace Go.Proofs.Ytlckappnpdkihaa
open Go.ChangeShapes Go.WideShapes Go.ChangeAt Go.RowKit

/-- append in a region that draws its order. -/
theorem step_app {P : Program} {w : World} {ops : Array Oper} {o : Oper} {a : Act} {K : Act → World → Prop} {Q : Exit → Act → World → Prop} {E : Prop} (hgd : o.guard = none) (s x : Operand) (t : TypeId)
    (ho : o.op = .call { callee := .builtin .append, args := #[s, x], argTypes := #[t, t] })
    (base : Nat) (e : TypeId) (i : TypeInfo) (z : Value) (bytes : Nat) (ht : P.underlying t = some (.slice e)) (hi : P.info? e = some i) (hz : i.zero = some z)
    (hsize : i.size = 1) (hby : i.bytes = bytes) (hzs : z.cells.size = 1)
    (v : Value) (n : Nat) (xs : List Value) (hs : a.eval s = v) (hown : w.ownsRow base e 1 v n xs)
    (S : Nat → Prop) (A : Option Addr) (m c : Nat) (news : List Value) (hx : a.eval x = .slice A m c) (hm : news.length = m) (hr : Rds w S A news) (h1 : ∀ u ∈ news, u.oneCell' = true)
    (h63 : n + m ≤ maxLen) (hbytes : (n + m) * bytes ≤ 140737488355328) (hbase : base ≤ w.heap.size)
    (h : ∀ v' w', w'.ownsRow base e 1 v' (n + m) (xs ++ news) → w.grownBy w' v.ownBlock → (v'.ownBlock = v.ownBlock ∨ v'.ownBlock = some w.heap.size) → K (a.put o.dst v') w') :
    if Region.wanted o (yielded ops a.tmps) = true then Oper.wp P o a w K Q else E := by
  have hw : Region.wanted o (yielded ops a.tmps) = true := by simp [Region.wanted, hgd]
  rw [if_pos hw]
  obtain ⟨v', w', hrun, h2, h3, h4⟩ := run_app (P := P) w base t o.type e i z bytes ht hi hz hsize hby hzs v n xs hown S A m c news hm hr h1 h63 hbytes hbase
  unfold Oper.wp execOp
  simp only [ho, resolve, invoke, builtin, Sem.run_bind, Sem.run_pure, Result.andThen_ok, List.map_toArray, List.map_cons, List.map_nil, hs, hx, hrun]
  exact h v' w' h2 h3 h4

theorem Try.sizeU8' : (Try.prog.info? 5).map (·.size) = some 1 := by kernel_rfl

/-- s[p:q] of whatever slice, its address by a name. -/
theorem run_cut {P : Program} (t e : TypeId) (ht : P.underlying t = some (.slice e)) (hs : (P.info? e).map (·.size) = some 1) (A : Option Addr) (n c p q : Nat) (h1 : p ≤ q) (h2 : q ≤ c) (W : World) :
    (Instr.slice t (.slice A n c) (some (.int .i64 (p : Int))) (some (.int .i64 (q : Int))) none).run P W = .ok (.slice (if c = p then A else A.map (·.add p)) (q - p) (c - p)) W := by
  have hel : P.elem t = e := by simp [Program.elem, ht]
  have hz : (sizeOf e).run P W = .ok 1 W := by
    cases hi : P.info? e with
    | none => rw [hi] at hs; cases hs
    | some i => rw [hi] at hs; simp at hs; simp [sizeOf, typeInfo, hi, hs]
  rw [run_slice_lh W t A n c (by rw [hel]; exact ht) .i64 .i64 _ _ (by omega) (by omega) (by omega), hel, hz]
  simp [sliced]
/-- s[p:] of whatever slice. -/
theorem run_from {P : Program} (t e : TypeId) (ht : P.underlying t = some (.slice e)) (hs : (P.info? e).map (·.size) = some 1) (A : Option Addr) (n c p : Nat) (h1 : p ≤ n) (W : World) :
    (Instr.slice t (.slice A n c) (some (.int .i64 (p : Int))) none none).run P W = .ok (.slice (if c = p then A else A.map (·.add p)) (n - p) (c - p)) W := by
  have hel : P.elem t = e := by simp [Program.elem, ht]
  have hz : (sizeOf e).run P W = .ok 1 W := by
    cases hi : P.info? e with
    | none => rw [hi] at hs; cases hs
    | some i => rw [hi] at hs; simp at hs; simp [sizeOf, typeInfo, hi, hs]
  rw [run_slice_l W t A n c (by rw [hel]; exact ht) .i64 _ (by omega) (by omega), hel, hz]
  simp [sliced]
/-- append onto an empty literal: what comes reads as what was appended; nothing that was there has turned. -/
theorem run_app0 {P : Program} (w : World) (t ty e : TypeId) (i : TypeInfo) (z : Value) (bytes : Nat) (ht : P.underlying t = some (.slice e)) (hi : P.info? e = some i) (hz : i.zero = some z)
    (hsize : i.size = 1) (hby : i.bytes = bytes) (hzs : z.cells.size = 1) (p : Addr) (S : Nat → Prop) (A : Option Addr) (m c : Nat) (news : List Value) (hm : news.length = m) (hr : Rds w S A news) (h1 : ∀ u ∈ news, u.oneCell' = true)
    (h63 : m ≤ maxLen) (hbytes : m * bytes ≤ 140737488355328) :
    ∃ A' c' w', (Builtin.append_ #[t, t] ty #[.slice (some p) 0 0, .slice A m c]).run P w = .ok (.slice A' m c') w' ∧ m ≤ c' ∧ (news = [] ∨ w'.ownsRow 0 e 1 (.slice A' m c') m news) ∧ Below w.heap.size w w' := by
  rcases Nat.eq_zero_or_pos m with rfl | hpos
  · have : news = [] := List.eq_nil_of_length_eq_zero hm
    subst this
    refine ⟨some p, 0, w, ?_, Nat.le_refl _, .inl rfl, Below.refl _ _⟩
    cases A <;> simp [Builtin.append_, run_underlying ht, sizeOf, typeInfo, hi, Builtin.lenOf, Builtin.firstCells, storeCells, loadCells, loadCellsFrom]
  · obtain ⟨v', w', hrun, h2, h3, h4⟩ := run_app (P := P) w w.heap.size t ty e i z bytes ht hi hz hsize hby hzs (.slice none 0 0) 0 [] (World.ownsRow_nil _ _ _ _) S A m c news hm hr h1 (by omega) (by simpa using hbytes) (Nat.le_refl _)
    obtain ⟨A', c', rfl, hc, _⟩ := own_form h2
    simp only [Nat.zero_add, List.nil_append] at h2 hrun hc
    refine ⟨A', c', w', ?_, hc, .inr (own_mono h2 (Nat.zero_le _)), below_gb h3⟩
    rw [← hrun]
    have hn : Builtin.nextslicecap m 0 = m := by unfold Builtin.nextslicecap; simp; omega
    have f1 : ¬ 281474976710656 < m * i.bytes := by rw [hby]; omega
    have f2 : ¬ (9223372036854775807 : Int) < (m : Int) := by unfold maxLen at h63; omega
    have f3 : ¬ m = 0 := by omega
    cases A <;> simp [Builtin.append_, run_underlying ht, sizeOf, typeInfo, hi, Builtin.lenOf, Builtin.firstCells, storeCells, loadCells, loadCellsFrom, hn, f1, f2, f3]
/-- The same in a region that draws its order. -/
theorem step_app0 {P : Program} {w : World} {ops : Array Oper} {o : Oper} {a : Act} {K : Act → World → Prop} {Q : Exit → Act → World → Prop} {E : Prop} (hgd : o.guard = none) (s x : Operand) (t : TypeId)
    (ho : o.op = .call { callee := .builtin .append, args := #[s, x], argTypes := #[t, t] })
    (e : TypeId) (i : TypeInfo) (z : Value) (bytes : Nat) (ht : P.underlying t = some (.slice e)) (hi : P.info? e = some i) (hz : i.zero = some z)
    (hsize : i.size = 1) (hby : i.bytes = bytes) (hzs : z.cells.size = 1) (p : Addr) (hs : a.eval s = .slice (some p) 0 0)
    (S : Nat → Prop) (A : Option Addr) (m c : Nat) (news : List Value) (hx : a.eval x = .slice A m c) (hm : news.length = m) (hr : Rds w S A news) (h1 : ∀ u ∈ news, u.oneCell' = true)
    (h63 : m ≤ maxLen) (hbytes : m * bytes ≤ 140737488355328)
    (h : ∀ A' c' w', m ≤ c' → (news = [] ∨ w'.ownsRow 0 e 1 (.slice A' m c') m news) → Below w.heap.size w w' → K (a.put o.dst (.slice A' m c')) w') :
    if Region.wanted o (yielded ops a.tmps) = true then Oper.wp P o a w K Q else E := by
  have hw : Region.wanted o (yielded ops a.tmps) = true := by simp [Region.wanted, hgd]
  rw [if_pos hw]
  obtain ⟨A', c', w', hrun, h2, h3, h4⟩ := run_app0 (P := P) w t o.type e i z bytes ht hi hz hsize hby hzs p S A m c news hm hr h1 h63 hbytes
  unfold Oper.wp execOp
  simp only [ho, resolve, invoke, builtin, Sem.run_bind, Sem.run_pure, Result.andThen_ok, List.map_toArray, List.map_cons, List.map_nil, hs, hx, hrun]
  exact h A' c' w' h2 h3 h4
end Go.Proofs.Ytlckappnpdkihaa
