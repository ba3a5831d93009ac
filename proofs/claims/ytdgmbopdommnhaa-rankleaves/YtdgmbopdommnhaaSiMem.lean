/- Layer 10: rows of places, which are numbers below a bound: rows of the call's own, and rows that are written over. -/
import Derived.Test.YtdgmbopdommnhaaMem
namespace Go.Proofs.Ytdgmbopdommnhaa
set_option linter.unusedVariables false
set_option linter.unusedSimpArgs false
open Go.ChangeShapes Go.WideShapes Go.ChangeAt Go.RowKit

theorem Try.rowPlace : (Try.prog.info? 3).map (fun i => (i.zero, i.size, i.bytes)) = some (some (.int .i64 0), 1, 8) := by kernel_rfl
theorem Try.sizePlace : (Try.prog.info? 3).map (·.size) = some 1 := by kernel_rfl

/-- A place as a value; a row of them. -/
def vI {q : Nat} (x : Fin q) : Value := .int .i64 ((x.val : Nat) : Int)
def ivs {q : Nat} (l : List (Fin q)) : List Value := l.map vI
section
variable {q : Nat} {l m : List (Fin q)}
theorem ivs_len (l : List (Fin q)) : (ivs l).length = l.length := by simp [ivs]
theorem ivs_app (l m : List (Fin q)) : ivs (l ++ m) = ivs l ++ ivs m := by simp [ivs]
theorem ivs_one (l : List (Fin q)) : ∀ u ∈ ivs l, u.oneCell' = true := by
  intro u hu
  obtain ⟨x, _, rfl⟩ := List.mem_map.1 hu
  rfl
theorem ivs_at (l : List (Fin q)) (i : Nat) (hi : i < l.length) : (ivs l)[i]? = some (vI l[i]) := by simp [ivs, hi]
theorem ivs_set (l : List (Fin q)) (i : Nat) (hi : i < l.length) (x : Fin q) : (ivs l).take i ++ [vI x] ++ (ivs l).drop (i + 1) = ivs (l.set i x) := by
  unfold ivs
  rw [List.map_set, List.set_eq_take_append_cons_drop, if_pos (by simpa using hi)]
  simp
end

/-- A row of places of the call's own. -/
def IRow {q : Nat} (w : World) (B : Nat) (v : Value) (l : List (Fin q)) : Prop := w.ownsRow B 3 1 v l.length (ivs l)
section
variable {w w' : World} {B B' q : Nat} {v : Value} {l : List (Fin q)} {A : Option Addr} {n c : Nat}
theorem IRow.nil (w : World) (B q : Nat) : IRow w B (.slice none 0 0) ([] : List (Fin q)) := World.ownsRow_nil _ _ _ _
theorem IRow.form (h : IRow w B v l) : ∃ A c, v = .slice A l.length c ∧ l.length ≤ c ∧ c ≤ maxLen ∧ (A = none → l = [] ∧ c = 0) := by
  rcases h.2 with ⟨rfl, h0⟩ | ⟨g, cap, cur, rfl, _, _, hn, hm, _⟩
  · have : l = [] := List.eq_nil_of_length_eq_zero h0
    subst this
    exact ⟨none, 0, rfl, Nat.le_refl _, by unfold maxLen; omega, fun _ => ⟨rfl, rfl⟩⟩
  · exact ⟨_, cap, rfl, hn, hm, fun h => by cases h⟩
theorem IRow.rds (h : IRow w B (.slice A n c) l) : Rds w (fun b => B ≤ b ∧ (Value.slice A n c).ownBlock = some b) A (ivs l) := by
  intro j u hu
  rcases h.2 with ⟨e, h0⟩ | ⟨g, cap, cur, e, hb, _, _, _⟩
  · have : l = [] := List.eq_nil_of_length_eq_zero h0
    subst this; simp [ivs] at hu
  · injection e with e1 e2 e3
    subst e1; subst e3; subst e2
    exact ⟨_, rfl, ⟨hb, rfl⟩, World.ownsRow.cells h (g := g) rfl j u hu⟩
theorem IRow.mono (h : IRow w B v l) (hb : B' ≤ B) : IRow w B' v l := by
  obtain ⟨h1, h2⟩ := h
  refine ⟨h1, ?_⟩
  rcases h2 with h2 | ⟨g, cap, cur, e, hg, r⟩
  · exact .inl h2
  · exact .inr ⟨g, cap, cur, e, Nat.le_trans hb hg, r⟩
theorem IRow.lt (h : IRow w B v l) : ∀ g, v.ownBlock = some g → B ≤ g ∧ g < w.heap.size := World.ownsRow.lt h
theorem IRow.keep (h : IRow w B v l) (hk : ∀ g, v.ownBlock = some g → g < w.heap.size → w'.heap[g]? = w.heap[g]?) : IRow w' B v l := by
  have hlt := h.lt
  obtain ⟨h1, h2⟩ := h
  refine ⟨h1, ?_⟩
  rcases h2 with h2 | ⟨g, cap, cur, e, hg, hh, r⟩
  · exact .inl h2
  · subst e
    exact .inr ⟨g, cap, cur, rfl, hg, (hk g rfl (hlt g rfl).2).trans hh, r⟩
theorem IRow.new (h : IRow w B v l) (hb : Below w.heap.size w w') : IRow w' B v l := h.keep fun g hg hl => hb.block g hl
end

/-- append onto a row of places of the call's own. -/
theorem run_papp {q : Nat} (w : World) (B : Nat) (ty : TypeId) (v : Value) (l : List (Fin q)) (hown : IRow w B v l)
    (S : Nat → Prop) (ad : Addr) (m c : Nat) (news : List (Fin q)) (hm : news.length = m) (hr : Rds w S (some ad) (ivs news)) (h63 : l.length + m ≤ 1000000) (hB : B ≤ w.heap.size) :
    ∃ v' w', (Builtin.append_ #[22, 22] ty #[v, .slice (some ad) m c]).run Try.prog w = .ok v' w' ∧ IRow w' B v' (l ++ news) ∧ w.grownBy w' v.ownBlock ∧ (v'.ownBlock = v.ownBlock ∨ v'.ownBlock = some w.heap.size) := by
  obtain ⟨i0, hi, hz0, hz1, hz2⟩ := info_parts Try.rowPlace
  subst hm
  obtain ⟨v', w', hrun, h2, h3, _, h5⟩ := run_append_own_at (P := Try.prog) w B 22 ty 3 i0 _ 1 8 Try.underlying22 hi hz0 hz1 hz2 rfl (by decide) v l.length (ivs l) hown ad news.length c (ivs news) (by rw [ivs_len, Nat.mul_one]) hr.addr (ivs_one _) (by unfold maxLen; omega) (by omega) hB
  refine ⟨v', w', hrun, ?_, h3, h5⟩
  unfold IRow
  rw [ivs_app, List.length_append]
  exact h2
theorem wpList_papp {q : Nat} (w : World) {ops : Array Oper} {rest : List Oper} {o : Oper} {a : Act} {Q : Exit → Act → World → Prop} (hgd : o.guard = none) (s x : Operand)
    (ho : o.op = .call { callee := .builtin .append, args := #[s, x], argTypes := #[22, 22] })
    (B : Nat) (v : Value) (l : List (Fin q)) (hs : a.eval s = v) (hown : IRow w B v l)
    (S : Nat → Prop) (ad : Addr) (m c : Nat) (news : List (Fin q)) (hx : a.eval x = .slice (some ad) m c) (hm : news.length = m) (hr : Rds w S (some ad) (ivs news)) (h63 : l.length + m ≤ 1000000) (hB : B ≤ w.heap.size)
    (h : ∀ v' w', IRow w' B v' (l ++ news) → w.grownBy w' v.ownBlock → (v'.ownBlock = v.ownBlock ∨ v'.ownBlock = some w.heap.size) → wpList Try.prog ops Q rest (a.put o.dst v') w') : wpList Try.prog ops Q (o :: rest) a w := by
  refine wpList_plain hgd fun K hK => ?_
  obtain ⟨v', w', hrun, h2, h3, h4⟩ := run_papp w B o.type v l hown S ad m c news hm hr h63 hB
  unfold Oper.wp execOp
  simp only [ho, resolve, invoke, builtin, Sem.run_bind, Sem.run_pure, Result.andThen_ok, List.map_toArray, List.map_cons, List.map_nil, hs, hx, hrun]
  exact hK _ _ (h v' w' h2 h3 h4)

/-! ### rows that are written over -/
/-- Block g begins with these places. -/
def SRow {q : Nat} (w : World) (g : Nat) (l : List (Fin q)) : Prop := ∃ rest, w.heap[g]? = some (.cells (ivs l ++ rest).toArray 3 (0, 0))
section
variable {w w' : World} {g q : Nat} {l : List (Fin q)} {B : Nat}
theorem IRow.srow {c : Nat} {A : Option Addr} {n : Nat} (h : IRow w B (.slice A n c) l) (hn : n ≠ 0) : ∃ g, A = some ⟨g, 0, none⟩ ∧ B ≤ g ∧ SRow w g l := by
  rcases h.2 with ⟨e, h0⟩ | ⟨g, cap, cur, e, hb, hh, hle, hm, hcz, hcells⟩
  · injection e with e1 e2 e3; omega
  · injection e with e1 e2 e3
    refine ⟨g, e1, hb, cur.toList.drop (l.length * 1), ?_⟩
    rw [← hcells, List.take_append_drop, Array.toArray_toList]
    exact hh
theorem SRow.lt (h : SRow w g l) : g < w.heap.size := by
  obtain ⟨rest, h⟩ := h
  rcases Nat.lt_or_ge g w.heap.size with hlt | hge
  · exact hlt
  · rw [Array.getElem?_eq_none hge] at h; cases h
theorem SRow.keep (h : SRow w g l) (hk : w'.heap[g]? = w.heap[g]?) : SRow w' g l := by
  obtain ⟨rest, h⟩ := h
  exact ⟨rest, hk.trans h⟩
theorem SRow.new (h : SRow w g l) (hb : Below w.heap.size w w') : SRow w' g l := h.keep (hb.block g h.lt)
theorem SRow.grown {row : Option Nat} (h : SRow w g l) (hb : w.grownBy w' row) (hg : some g ≠ row) : SRow w' g l := h.keep (hb.block g h.lt hg)
theorem SRow.rds (h : SRow w g l) : Rds w (fun b => b = g) (some ⟨g, 0, none⟩) (ivs l) := by
  obtain ⟨rest, h⟩ := h
  intro j u hu
  refine ⟨_, rfl, rfl, ?_⟩
  have hj : j < (ivs l).length := by
    rcases Nat.lt_or_ge j (ivs l).length with h1 | h1
    · exact h1
    · rw [List.getElem?_eq_none h1] at hu; cases hu
  rw [M.addMk, Nat.zero_add, cell_of_row w g j _ _ _ h]
  rw [List.getElem?_toArray, List.getElem?_append_left hj]
  exact hu
/-- A place at an address. -/
def RvAt (w : World) (p : Addr) (x : Fin q) : Prop := w.cell? p = some (vI x)
theorem RvAt.new {p : Addr} {x : Fin q} (h : RvAt w p x) (hg : Below w.heap.size w w') : RvAt w' p x := by
  unfold RvAt at *
  have hl := M.cellLt h
  exact (World.cell?_of_block (w := w) (hg.block _ hl)).trans h
theorem SRow.at (h : SRow w g l) {i : Nat} (hi : i < l.length) : RvAt w ⟨g, i, none⟩ l[i] := by
  obtain ⟨ad, e, _, hc⟩ := h.rds _ _ (ivs_at l i hi)
  injection e with e
  subst e
  rw [M.addMk] at hc
  simpa [RvAt] using hc
end
theorem run_setr {q : Nat} (w : World) (g : Nat) (l : List (Fin q)) (h : SRow w g l) (i : Nat) (hi : i < l.length) (e : Fin q) :
    ∃ W, (Instr.storeAt 3 (.pointer (some ⟨g, i, none⟩)) (vI e)).run Try.prog w = .ok () W ∧ SRow W g (l.set i e) ∧ w.grownBy W (some g) := by
  obtain ⟨i0, hi0, hz1⟩ : ∃ i, Try.prog.info? 3 = some i ∧ i.size = 1 := by
    have := Try.sizePlace
    cases h : Try.prog.info? 3 with
    | none => rw [h] at this; cases this
    | some i => rw [h] at this; exact ⟨i, rfl, by simpa using this⟩
  obtain ⟨rest, h⟩ := h
  have hel : (ivs l).length = l.length := ivs_len l
  have h1 := run_storeCells_at (P := Try.prog) g i 3 [vI e] 0 _ w h (by simp; omega) (fun v hv => ivs_one [e] v (by simpa [ivs] using hv))
  have e1 : ((ivs l ++ rest).toArray.toList.take (i + 0) ++ [vI e] ++ (ivs l ++ rest).toArray.toList.drop (i + 0 + [vI e].length)) = ivs (l.set i e) ++ rest := by
    rw [← ivs_set l i hi e]
    simp only [List.toList_toArray, Nat.add_zero, List.length_singleton]
    rw [List.take_append_of_le_length (by omega), List.drop_append_of_le_length (by omega)]
    simp [List.append_assoc]
  rw [e1] at h1
  refine ⟨w.setRow g (ivs (l.set i e) ++ rest).toArray, ?_, ⟨rest, setRow_heap w g _ _ 3 _ h⟩, ⟨rfl, rfl, rfl, by simp, fun k _ hk => setRow_other w g k _ (fun e => hk (by rw [e]))⟩⟩
  rw [← h1]
  simp [Instr.storeAt, Instr.sureAddr, storeVar, sizeOf, typeInfo, hi0, hz1, Value.cells, vI]
end Go.Proofs.Ytdgmbopdommnhaa
