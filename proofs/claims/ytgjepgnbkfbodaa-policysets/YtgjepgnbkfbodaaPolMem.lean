/- Layer 9: rows of rivals, which are events by another name: rows of the call's own, and rows that are written over. -/
import Derived.Test.YtgjepgnbkfbodaaEvMem
namespace Go.Proofs.Ytgjepgnbkfbodaa
set_option linter.unusedVariables false
set_option linter.unusedSimpArgs false
open Go.ChangeShapes Go.WideShapes Go.ChangeAt Go.RowKit

theorem Try.rowRival : (Try.prog.info? 54).map (fun i => (i.zero, i.size, i.bytes)) = some (some (.agg (ecs (fun _ => 0) none 0 0)), 14, 128) := by kernel_rfl
theorem Try.sizeRival : (Try.prog.info? 54).map (·.size) = some 14 := by kernel_rfl

/-- A row of rivals of the call's own. -/
def RRow (w : World) (B : Nat) (v : Value) (l : List EvV) : Prop := w.ownsRow B 54 14 v l.length (evs l)
section
variable {w w' : World} {B B' : Nat} {v : Value} {l : List EvV} {A : Option Addr} {n c : Nat}
theorem RRow.nil (w : World) (B : Nat) : RRow w B (.slice none 0 0) [] := World.ownsRow_nil _ _ _ _
theorem RRow.form (h : RRow w B v l) : ∃ A c, v = .slice A l.length c ∧ l.length ≤ c ∧ c ≤ maxLen ∧ (A = none → l = [] ∧ c = 0) := by
  rcases h.2 with ⟨rfl, h0⟩ | ⟨g, cap, cur, rfl, _, _, hn, hm, _⟩
  · have : l = [] := List.eq_nil_of_length_eq_zero h0
    subst this
    exact ⟨none, 0, rfl, Nat.le_refl _, by unfold maxLen; omega, fun _ => ⟨rfl, rfl⟩⟩
  · exact ⟨_, cap, rfl, hn, hm, fun h => by cases h⟩
theorem RRow.rds (h : RRow w B (.slice A n c) l) : Rds w (fun b => B ≤ b ∧ (Value.slice A n c).ownBlock = some b) A (evs l) := by
  intro j u hu
  rcases h.2 with ⟨e, h0⟩ | ⟨g, cap, cur, e, hb, _, _, _⟩
  · have : l = [] := List.eq_nil_of_length_eq_zero h0
    subst this; simp [evs] at hu
  · injection e with e1 e2 e3
    subst e1; subst e3; subst e2
    exact ⟨_, rfl, ⟨hb, rfl⟩, World.ownsRow.cells h (g := g) rfl j u hu⟩
theorem RRow.mono (h : RRow w B v l) (hb : B' ≤ B) : RRow w B' v l := by
  obtain ⟨h1, h2⟩ := h
  refine ⟨h1, ?_⟩
  rcases h2 with h2 | ⟨g, cap, cur, e, hg, r⟩
  · exact .inl h2
  · exact .inr ⟨g, cap, cur, e, Nat.le_trans hb hg, r⟩
theorem RRow.lt (h : RRow w B v l) : ∀ g, v.ownBlock = some g → B ≤ g ∧ g < w.heap.size := World.ownsRow.lt h
theorem RRow.keep (h : RRow w B v l) (hk : ∀ g, v.ownBlock = some g → g < w.heap.size → w'.heap[g]? = w.heap[g]?) : RRow w' B v l := by
  have hlt := h.lt
  obtain ⟨h1, h2⟩ := h
  refine ⟨h1, ?_⟩
  rcases h2 with h2 | ⟨g, cap, cur, e, hg, hh, r⟩
  · exact .inl h2
  · subst e
    exact .inr ⟨g, cap, cur, rfl, hg, (hk g rfl (hlt g rfl).2).trans hh, r⟩
theorem RRow.new (h : RRow w B v l) (hb : Below w.heap.size w w') : RRow w' B v l := h.keep fun g hg hl => hb.block g hl
end

/-- append onto a row of rivals of the call's own, from whatever slice that reads as news. -/
theorem run_rapp (w : World) (B : Nat) (ty : TypeId) (v : Value) (l : List EvV) (hown : RRow w B v l)
    (S : Nat → Prop) (ad : Addr) (m c : Nat) (news : List EvV) (hm : news.length = m) (hr : Rds w S (some ad) (evs news)) (h63 : l.length + m ≤ 1000000) (hB : B ≤ w.heap.size) :
    ∃ v' w', (Builtin.append_ #[51, 51] ty #[v, .slice (some ad) m c]).run Try.prog w = .ok v' w' ∧ RRow w' B v' (l ++ news) ∧ w.grownBy w' v.ownBlock ∧ (v'.ownBlock = v.ownBlock ∨ v'.ownBlock = some w.heap.size) := by
  obtain ⟨i0, hi, hz0, hz1, hz2⟩ := info_parts Try.rowRival
  subst hm
  obtain ⟨v', w', hrun, h2, h3, _, h5⟩ := run_append_own_at (P := Try.prog) w B 51 ty 54 i0 _ 14 128 Try.underlying51 hi hz0 hz1 hz2 rfl (by decide) v l.length (evs l) hown ad news.length c (evs news) (evs_len _) hr.addr (evs_one _) (by unfold maxLen; omega) (by omega) hB
  refine ⟨v', w', hrun, ?_, h3, h5⟩
  unfold RRow
  rw [evs_app, List.length_append]
  exact h2
theorem wpList_rapp (w : World) {ops : Array Oper} {rest : List Oper} {o : Oper} {a : Act} {Q : Exit → Act → World → Prop} (hgd : o.guard = none) (s x : Operand)
    (ho : o.op = .call { callee := .builtin .append, args := #[s, x], argTypes := #[51, 51] })
    (B : Nat) (v : Value) (l : List EvV) (hs : a.eval s = v) (hown : RRow w B v l)
    (S : Nat → Prop) (ad : Addr) (m c : Nat) (news : List EvV) (hx : a.eval x = .slice (some ad) m c) (hm : news.length = m) (hr : Rds w S (some ad) (evs news)) (h63 : l.length + m ≤ 1000000) (hB : B ≤ w.heap.size)
    (h : ∀ v' w', RRow w' B v' (l ++ news) → w.grownBy w' v.ownBlock → (v'.ownBlock = v.ownBlock ∨ v'.ownBlock = some w.heap.size) → wpList Try.prog ops Q rest (a.put o.dst v') w') : wpList Try.prog ops Q (o :: rest) a w := by
  refine wpList_plain hgd fun K hK => ?_
  obtain ⟨v', w', hrun, h2, h3, h4⟩ := run_rapp w B o.type v l hown S ad m c news hm hr h63 hB
  unfold Oper.wp execOp
  simp only [ho, resolve, invoke, builtin, Sem.run_bind, Sem.run_pure, Result.andThen_ok, List.map_toArray, List.map_cons, List.map_nil, hs, hx, hrun]
  exact hK _ _ (h v' w' h2 h3 h4)

/-! ### rows that are written over -/
/-- Block g begins with these rivals. -/
def SRow (w : World) (g : Nat) (l : List EvV) : Prop := ∃ rest, w.heap[g]? = some (.cells (evs l ++ rest).toArray 54 (0, 0))
section
variable {w w' : World} {g : Nat} {l : List EvV} {B : Nat}
theorem RRow.srow {c : Nat} {A : Option Addr} {n : Nat} (h : RRow w B (.slice A n c) l) (hn : n ≠ 0) : ∃ g, A = some ⟨g, 0, none⟩ ∧ B ≤ g ∧ SRow w g l := by
  rcases h.2 with ⟨e, h0⟩ | ⟨g, cap, cur, e, hb, hh, hle, hm, hcz, hcells⟩
  · injection e with e1 e2 e3; omega
  · injection e with e1 e2 e3
    refine ⟨g, e1, hb, cur.toList.drop (l.length * 14), ?_⟩
    rw [← hcells, List.take_append_drop, Array.toArray_toList]
    exact hh
theorem SRow.lt (h : SRow w g l) : g < w.heap.size := by
  obtain ⟨rest, h⟩ := h
  rcases Nat.lt_or_ge g w.heap.size with hlt | hge
  · exact hlt
  · rw [Array.getElem?_eq_none hge] at h; cases h
theorem SRow.keep (h : SRow w g l) (hk : w'.heap[g]? = w.heap[g]?) : SRow w' g l := by
  obtain ⟨rest, h⟩ := h
  exact ⟨rest, hk.trans h⟩
theorem SRow.new (h : SRow w g l) (hb : Below w.heap.size w w') : SRow w' g l := h.keep (hb.block g h.lt)
theorem SRow.grown {row : Option Nat} (h : SRow w g l) (hb : w.grownBy w' row) (hg : some g ≠ row) : SRow w' g l := h.keep (hb.block g h.lt hg)
theorem SRow.rds (h : SRow w g l) : Rds w (fun b => b = g) (some ⟨g, 0, none⟩) (evs l) := by
  obtain ⟨rest, h⟩ := h
  intro j u hu
  refine ⟨_, rfl, rfl, ?_⟩
  have hj : j < (evs l).length := by
    rcases Nat.lt_or_ge j (evs l).length with h1 | h1
    · exact h1
    · rw [List.getElem?_eq_none h1] at hu; cases hu
  rw [M.addMk, Nat.zero_add, cell_of_row w g j _ _ _ h]
  rw [List.getElem?_toArray, List.getElem?_append_left hj]
  exact hu
/-- The cells of an event at an address. -/
def RvAt (w : World) (p : Addr) (e : EvV) : Prop := ∀ k v, e.cells[k]? = some v → w.cell? (p.add k) = some v
theorem RvAt.new {p : Addr} {e : EvV} (h : RvAt w p e) (hg : Below w.heap.size w w') : RvAt w' p e := fun k v hv => by
  have := h k v hv
  have hl := M.cellLt this
  exact (World.cell?_of_block (w := w) (hg.block _ hl)).trans this
theorem SRow.at (h : SRow w g l) {i : Nat} (hi : i < l.length) : RvAt w ⟨g, i * 14, none⟩ l[i] := fun k v hv => by
  have hk : k < 14 := by
    rcases Nat.lt_or_ge k 14 with h1 | h1
    · exact h1
    · rw [Array.getElem?_eq_none (by simpa using h1)] at hv; cases hv
  obtain ⟨ad, e, _, hc⟩ := h.rds _ _ ((evs_at l i hi k hk).trans hv)
  injection e with e
  subst e
  rw [M.addMk] at hc ⊢
  simpa using hc
end
theorem evs_set : ∀ (l : List EvV) (i : Nat) (hi : i < l.length) (e : EvV), (evs l).take (i * 14) ++ e.cells.toList ++ (evs l).drop (i * 14 + 14) = evs (l.set i e) := by
  intro l
  induction l with
  | nil => intro i hi; simp at hi
  | cons x l ih =>
    intro i hi e
    have hx : x.cells.toList.length = 14 := by simp
    cases i with
    | zero =>
      simp only [Nat.zero_mul, List.take_zero, List.nil_append, Nat.zero_add, List.set_cons_zero, evs]
      rw [List.drop_left' hx]
    | succ i =>
      have hi' : i < l.length := by simpa using hi
      have e1 : (i + 1) * 14 = 14 + i * 14 := by omega
      have e2 : (i + 1) * 14 + 14 = 14 + (i * 14 + 14) := by omega
      simp only [List.set_cons_succ, evs]
      rw [← ih i hi' e, e2, e1, List.take_append, List.drop_append, hx, List.take_of_length_le (by rw [hx]; omega), List.drop_of_length_le (by rw [hx]; omega), Nat.add_sub_cancel_left, Nat.add_sub_cancel_left]
      simp [List.append_assoc]
theorem run_setr (w : World) (g : Nat) (l : List EvV) (h : SRow w g l) (i : Nat) (hi : i < l.length) (e : EvV) :
    ∃ W, (Instr.storeAt 54 (.pointer (some ⟨g, i * 14, none⟩)) e.val).run Try.prog w = .ok () W ∧ SRow W g (l.set i e) ∧ w.grownBy W (some g) := by
  obtain ⟨i0, hi0, hz1⟩ : ∃ i, Try.prog.info? 54 = some i ∧ i.size = 14 := by
    have := Try.sizeRival
    cases h : Try.prog.info? 54 with
    | none => rw [h] at this; cases this
    | some i => rw [h] at this; exact ⟨i, rfl, by simpa using this⟩
  obtain ⟨rest, h⟩ := h
  have hel : (evs l).length = l.length * 14 := evs_len l
  have h1 := run_storeCells_at (P := Try.prog) g (i * 14) 54 e.cells.toList 0 _ w h (by simp; omega) (fun v hv => evs_one [e] v (by simpa [evs] using hv))
  have e1 : ((evs l ++ rest).toArray.toList.take (i * 14 + 0) ++ e.cells.toList ++ (evs l ++ rest).toArray.toList.drop (i * 14 + 0 + e.cells.toList.length)) = evs (l.set i e) ++ rest := by
    rw [← evs_set l i hi e]
    have f1 : i * 14 + 0 = i * 14 := by omega
    have f2 : e.cells.toList.length = 14 := by simp
    rw [f1, f2]
    simp only [List.toList_toArray]
    rw [List.take_append_of_le_length (by omega), List.drop_append_of_le_length (by omega)]
    simp [List.append_assoc]
  rw [e1] at h1
  refine ⟨w.setRow g (evs (l.set i e) ++ rest).toArray, ?_, ⟨rest, setRow_heap w g _ _ 54 _ h⟩, ⟨rfl, rfl, rfl, by simp, fun k _ hk => setRow_other w g k _ (fun e => hk (by rw [e]))⟩⟩
  rw [← h1]
  simp [Instr.storeAt, Instr.sureAddr, storeVar, sizeOf, typeInfo, hi0, hz1, Value.cells]
end Go.Proofs.Ytgjepgnbkfbodaa
