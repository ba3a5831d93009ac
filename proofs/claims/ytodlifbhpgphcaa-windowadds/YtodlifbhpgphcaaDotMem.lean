/- Rows of dots in memory (two cells each), sets as values; append onto such rows. | Dots held against each other. | Layer 6, the document's own: what is asked of one dot or two, and of two rows of dots. | Layer 6: sets as values. | Rows of dots: an append leaves what other rows, no longer ones, read. | Dots as a law's arguments. -/
import Derived.Test.YtodlifbhpgphcaaMem
import Derived.Test.YtodlifbhpgphcaaDotMath
import Derived.Laws.StructEq
import Derived.ChangeKeysEq
import Derived.BigQuiet
import Derived.Deep.SlicePairs
import Derived.ChangeArms

section
namespace Go.Proofs.Ytodlifbhpgphcaa
set_option linter.unusedVariables false
set_option linter.unusedSimpArgs false
open Go.ChangeShapes Go.WideShapes Go.ChangeAt Go.RowKit

abbrev dv (d : D.Dot) : Value := .agg #[.int .i64 d.1, .int .i64 d.2]
/-- The cells of dots, one behind the other. -/
def dvs : List D.Dot → List Value
  | [] => []
  | d :: l => .int .i64 d.1 :: .int .i64 d.2 :: dvs l
theorem dvs_len (l : List D.Dot) : (dvs l).length = l.length * 2 := by
  induction l with
  | nil => rfl
  | cons d l ih => simp [dvs, ih]; omega
theorem dvs_app (l m : List D.Dot) : dvs (l ++ m) = dvs l ++ dvs m := by
  induction l with
  | nil => rfl
  | cons d l ih => simp [dvs, ih]
theorem dvs_one : ∀ (l : List D.Dot), ∀ u ∈ dvs l, u.oneCell' = true := by
  intro l
  induction l with
  | nil => intro u hu; simp [dvs] at hu
  | cons d l ih =>
    intro u hu
    simp only [dvs, List.mem_cons] at hu
    rcases hu with rfl | rfl | hu
    · rfl
    · rfl
    · exact ih u hu
theorem dvs_at : ∀ (l : List D.Dot) (i : Nat) (hi : i < l.length), (dvs l)[i * 2]? = some (.int .i64 l[i].1) ∧ (dvs l)[i * 2 + 1]? = some (.int .i64 l[i].2) := by
  intro l
  induction l with
  | nil => intro i hi; simp at hi
  | cons d l ih =>
    intro i hi
    cases i with
    | zero => simp [dvs]
    | succ i =>
      have := ih i (by simpa using hi)
      have e : (i + 1) * 2 = i * 2 + 1 + 1 := by omega
      simp only [dvs, e, List.getElem?_cons_succ, List.getElem_cons_succ]
      exact this
theorem dvs_take (l : List D.Dot) (k : Nat) : dvs (l.take k) = (dvs l).take (k * 2) := by
  induction l generalizing k with
  | nil => simp [dvs]
  | cons d l ih =>
    cases k with
    | zero => simp [dvs]
    | succ k =>
      have e : (k + 1) * 2 = k * 2 + 1 + 1 := by omega
      simp [dvs, ih, e]
theorem dvs_inj : ∀ {l m : List D.Dot}, dvs l = dvs m → l = m := by
  intro l
  induction l with
  | nil => intro m h; cases m with
    | nil => rfl
    | cons d m => simp [dvs] at h
  | cons d l ih => intro m h; cases m with
    | nil => simp [dvs] at h
    | cons b m =>
      simp only [dvs, List.cons.injEq, Value.int.injEq, true_and] at h
      rw [ih h.2.2, Prod.ext h.1 h.2.1]

/-- The dot at i of a slice that reads as these dots. -/
theorem Rds.dot {w : World} {S : Nat → Prop} {A : Option Addr} {l : List D.Dot} (h : Rds w S A (dvs l)) {i : Nat} (hi : i < l.length) :
    ∃ ad, A = some ad ∧ S ad.block ∧ w.cell? (ad.add (i * 2)) = some (.int .i64 l[i].1) ∧ w.cell? ⟨(ad.add (i * 2)).block, (ad.add (i * 2)).off + 1, none⟩ = some (.int .i64 l[i].2) := by
  obtain ⟨h1, h2⟩ := dvs_at l i hi
  obtain ⟨ad, rfl, hs, hc⟩ := h _ _ h1
  obtain ⟨ad', e, _, hc'⟩ := h _ _ h2
  injection e with e
  subst e
  exact ⟨_, rfl, hs, hc, by rw [← M.addOff _ _ _ (by omega)]; exact hc'⟩
theorem Rds.dtake {w : World} {S : Nat → Prop} {A : Option Addr} {l : List D.Dot} (h : Rds w S A (dvs l)) (k : Nat) : Rds w S A (dvs (l.take k)) := by
  rw [dvs_take]; exact h.take _
/-- A dot that was just made a row of. -/
theorem dot_rds (w : World) (a b : Int) (t : TypeId) : Rds (w.alloc (.cells #[.int .i64 a, .int .i64 b] t)) (fun _ => True) (some ⟨w.heap.size, 0, none⟩) (dvs [(a, b)]) := by
  intro j u hu
  match j, hu with
  | 0, hu => simp [dvs] at hu; subst hu; exact ⟨_, rfl, trivial, by simp [M.addMk]⟩
  | 1, hu => simp [dvs] at hu; subst hu; exact ⟨_, rfl, trivial, by simp [M.addMk]⟩

theorem Try.rowDot : (Try.prog.info? 41).map (fun i => (i.zero, i.size, i.bytes)) = some (some (.agg #[.int .i64 0, .int .i64 0]), 2, 16) := by kernel_rfl

/-- A row of dots of the call's own. -/
def DRow (w : World) (B : Nat) (v : Value) (l : List D.Dot) : Prop := w.ownsRow B 41 2 v l.length (dvs l)
section
variable {w w' : World} {B B' : Nat} {v : Value} {l : List D.Dot} {A : Option Addr} {n c : Nat}
theorem DRow.nil (w : World) (B : Nat) : DRow w B (.slice none 0 0) [] := World.ownsRow_nil _ _ _ _
theorem DRow.form (h : DRow w B v l) : ∃ A c, v = .slice A l.length c ∧ l.length ≤ c ∧ c ≤ maxLen ∧ (A = none → l = [] ∧ c = 0) := by
  rcases h.2 with ⟨rfl, h0⟩ | ⟨g, cap, cur, rfl, _, _, hn, hm, _⟩
  · have : l = [] := List.eq_nil_of_length_eq_zero h0
    subst this
    exact ⟨none, 0, rfl, Nat.le_refl _, by unfold maxLen; omega, fun _ => ⟨rfl, rfl⟩⟩
  · exact ⟨_, cap, rfl, hn, hm, fun h => by cases h⟩
theorem DRow.rds (h : DRow w B (.slice A n c) l) : Rds w (fun b => B ≤ b ∧ (Value.slice A n c).ownBlock = some b) A (dvs l) := by
  intro j u hu
  rcases h.2 with ⟨e, h0⟩ | ⟨g, cap, cur, e, hb, _, _, _⟩
  · have : l = [] := List.eq_nil_of_length_eq_zero h0
    subst this; simp [dvs] at hu
  · injection e with e1 e2 e3
    subst e1; subst e3; subst e2
    exact ⟨_, rfl, ⟨hb, rfl⟩, World.ownsRow.cells h (g := g) rfl j u hu⟩
theorem DRow.rdsT (h : DRow w B (.slice A n c) l) : Rds w (fun _ => True) A (dvs l) := h.rds.mono fun _ _ => trivial
theorem DRow.mono (h : DRow w B v l) (hb : B' ≤ B) : DRow w B' v l := by
  obtain ⟨h1, h2⟩ := h
  refine ⟨h1, ?_⟩
  rcases h2 with h2 | ⟨g, cap, cur, e, hg, r⟩
  · exact .inl h2
  · exact .inr ⟨g, cap, cur, e, Nat.le_trans hb hg, r⟩
theorem DRow.lt (h : DRow w B v l) : ∀ g, v.ownBlock = some g → B ≤ g ∧ g < w.heap.size := World.ownsRow.lt h
theorem DRow.keep (h : DRow w B v l) (hk : ∀ g, v.ownBlock = some g → g < w.heap.size → w'.heap[g]? = w.heap[g]?) : DRow w' B v l := by
  have hlt := h.lt
  obtain ⟨h1, h2⟩ := h
  refine ⟨h1, ?_⟩
  rcases h2 with h2 | ⟨g, cap, cur, e, hg, hh, r⟩
  · exact .inl h2
  · subst e
    exact .inr ⟨g, cap, cur, rfl, hg, (hk g rfl (hlt g rfl).2).trans hh, r⟩
theorem DRow.new (h : DRow w B v l) (hb : Below w.heap.size w w') : DRow w' B v l := h.keep fun g _ hl => hb.block g hl
theorem DRow.grown {row : Option Nat} (h : DRow w B v l) (hg : w.grownBy w' row) (hr : ∀ b, v.ownBlock = some b → some b ≠ row) : DRow w' B v l := h.keep fun g hb hl => hg.block g hl (hr g hb)
theorem DRow.alloc (h : DRow w B v l) (o : Obj) : DRow (w.alloc o) B v l := h.keep fun g _ hl => Below.heap_alloc w o g hl
theorem DRow.blo {g : Nat} {t : TypeId} {cs : Array Value} (h : DRow w B v l) (h' : Blo w g t cs) (hne : 41 ≠ t) : v.ownBlock ≠ some g := by
  rcases h.2 with ⟨rfl, _⟩ | ⟨k, cap, cur, rfl, _, hh, _⟩
  · simp [Value.ownBlock]
  · intro e
    injection e with e
    exact Blo.typeNe (t := 41) (t' := t) hh h' hne e
theorem DRow.drew (h : DRow w B v l) : DRow w.drew B v l := h
end

/-- append onto a row of dots of the call's own, from whatever slice that reads as news. -/
theorem run_dapp (w : World) (B : Nat) (ty : TypeId) (v : Value) (l : List D.Dot) (hown : DRow w B v l)
    (S : Nat → Prop) (A : Option Addr) (m c : Nat) (news : List D.Dot) (hm : news.length = m) (hr : Rds w S A (dvs news)) (h63 : l.length + m ≤ 1000000) (hB : B ≤ w.heap.size) :
    ∃ v' w', (Builtin.append_ #[44, 44] ty #[v, .slice A m c]).run Try.prog w = .ok v' w' ∧ DRow w' B v' (l ++ news) ∧ w.grownBy w' v.ownBlock ∧ (v'.ownBlock = v.ownBlock ∨ v'.ownBlock = some w.heap.size) := by
  obtain ⟨i0, hi, hz0, hz1, hz2⟩ := info_parts Try.rowDot
  subst hm
  rcases A with _ | ad
  · have hn : news = [] := by
      cases news with
      | nil => rfl
      | cons u us => obtain ⟨ad, e, _⟩ := hr 0 _ rfl; cases e
    subst hn
    refine ⟨v, w, ?_, by simpa using hown, World.grownBy.refl w _, .inl rfl⟩
    rcases hown.2 with ⟨rfl, _⟩ | ⟨g, cap, cur, rfl, _, _, hnc, _⟩
    · simp [Builtin.append_, run_underlying Try.underlying44, sizeOf, typeInfo, hi, Builtin.lenOf, Builtin.firstCells]
    · simp [Builtin.append_, run_underlying Try.underlying44, sizeOf, typeInfo, hi, Builtin.lenOf, Builtin.firstCells, hnc, storeCells]
  · obtain ⟨v', w', hrun, h2, h3, _, h5⟩ := run_append_own_at (P := Try.prog) w B 44 ty 41 i0 _ 2 16 Try.underlying44 hi hz0 hz1 hz2 rfl (by decide) v l.length (dvs l) hown ad news.length c (dvs news) (dvs_len _) hr.addr (dvs_one _) (by unfold maxLen; omega) (by omega) hB
    refine ⟨v', w', hrun, ?_, h3, h5⟩
    unfold DRow
    rw [dvs_app, List.length_append]
    exact h2

theorem wpList_dapp (w : World) {ops : Array Oper} {rest : List Oper} {o : Oper} {a : Act} {Q : Exit → Act → World → Prop} (hgd : o.guard = none) (s x : Operand)
    (ho : o.op = .call { callee := .builtin .append, args := #[s, x], argTypes := #[44, 44] })
    (B : Nat) (v : Value) (l : List D.Dot) (hs : a.eval s = v) (hown : DRow w B v l)
    (S : Nat → Prop) (A : Option Addr) (m c : Nat) (news : List D.Dot) (hx : a.eval x = .slice A m c) (hm : news.length = m) (hr : Rds w S A (dvs news)) (h63 : l.length + m ≤ 1000000) (hB : B ≤ w.heap.size)
    (h : ∀ v' w', DRow w' B v' (l ++ news) → w.grownBy w' v.ownBlock → (v'.ownBlock = v.ownBlock ∨ v'.ownBlock = some w.heap.size) → wpList Try.prog ops Q rest (a.put o.dst v') w') : wpList Try.prog ops Q (o :: rest) a w := by
  refine wpList_plain hgd fun K hK => ?_
  obtain ⟨v', w', hrun, h2, h3, h4⟩ := run_dapp w B o.type v l hown S A m c news hm hr h63 hB
  unfold Oper.wp execOp
  simp only [ho, resolve, invoke, builtin, Sem.run_bind, Sem.run_pure, Result.andThen_ok, List.map_toArray, List.map_cons, List.map_nil, hs, hx, hrun]
  exact hK _ _ (h v' w' h2 h3 h4)

theorem step_dapp {w : World} {ops : Array Oper} {o : Oper} {a : Act} {K : Act → World → Prop} {Q : Exit → Act → World → Prop} {E : Prop} (hgd : o.guard = none) (s x : Operand)
    (ho : o.op = .call { callee := .builtin .append, args := #[s, x], argTypes := #[44, 44] })
    (B : Nat) (v : Value) (l : List D.Dot) (hs : a.eval s = v) (hown : DRow w B v l)
    (S : Nat → Prop) (A : Option Addr) (m c : Nat) (news : List D.Dot) (hx : a.eval x = .slice A m c) (hm : news.length = m) (hr : Rds w S A (dvs news)) (h63 : l.length + m ≤ 1000000) (hB : B ≤ w.heap.size)
    (h : ∀ v' w', DRow w' B v' (l ++ news) → w.grownBy w' v.ownBlock → (v'.ownBlock = v.ownBlock ∨ v'.ownBlock = some w.heap.size) → K (a.put o.dst v') w') :
    if Region.wanted o (yielded ops a.tmps) = true then Oper.wp Try.prog o a w K Q else E := by
  have hw : Region.wanted o (yielded ops a.tmps) = true := by simp [Region.wanted, hgd]
  rw [if_pos hw]
  obtain ⟨v', w', hrun, h2, h3, h4⟩ := run_dapp w B o.type v l hown S A m c news hm hr h63 hB
  unfold Oper.wp execOp
  simp only [ho, resolve, invoke, builtin, Sem.run_bind, Sem.run_pure, Result.andThen_ok, List.map_toArray, List.map_cons, List.map_nil, hs, hx, hrun]
  exact h v' w' h2 h3 h4

/-- A slice that reads as these dots, in a row of its own unless it is empty. -/
def Copy (w : World) (B : Nat) (A : Option Addr) (c : Nat) (l : List D.Dot) : Prop := l.length ≤ c ∧ (l = [] ∨ DRow w B (.slice A l.length c) l)
theorem Copy.rds {w : World} {B : Nat} {A : Option Addr} {c : Nat} {l : List D.Dot} (h : Copy w B A c l) : Rds w (fun b => B ≤ b) A (dvs l) := by
  rcases h.2 with h | h
  · subst h; exact Rds.nil
  · exact h.rds.mono fun _ h => h.1
theorem Copy.new {w w' : World} {B : Nat} {A : Option Addr} {c : Nat} {l : List D.Dot} (h : Copy w B A c l) (hb : Below w.heap.size w w') : Copy w' B A c l := ⟨h.1, h.2.imp id fun h => h.new hb⟩
theorem Copy.mono {w : World} {B B' : Nat} {A : Option Addr} {c : Nat} {l : List D.Dot} (h : Copy w B A c l) (hb : B' ≤ B) : Copy w B' A c l := ⟨h.1, h.2.imp id fun h => h.mono hb⟩

/-- append onto an empty literal. -/
theorem run_dapp0 (w : World) (ty : TypeId) (p : Addr) (S : Nat → Prop) (A : Option Addr) (m c : Nat) (news : List D.Dot) (hm : news.length = m) (hr : Rds w S A (dvs news)) (h63 : m ≤ 1000000) :
    ∃ A' c' w', (Builtin.append_ #[44, 44] ty #[.slice (some p) 0 0, .slice A m c]).run Try.prog w = .ok (.slice A' m c') w' ∧ Copy w' w.heap.size A' c' news ∧ Below w.heap.size w w' := by
  obtain ⟨i0, hi, hz0, hz1, hz2⟩ := info_parts Try.rowDot
  rcases Nat.eq_zero_or_pos m with rfl | hpos
  · have : news = [] := List.eq_nil_of_length_eq_zero hm
    subst this
    refine ⟨some p, 0, w, ?_, ⟨Nat.le_refl _, .inl rfl⟩, Below.refl _ _⟩
    cases A <;> simp [Builtin.append_, run_underlying Try.underlying44, sizeOf, typeInfo, hi, Builtin.lenOf, Builtin.firstCells, storeCells, loadCells, loadCellsFrom]
  · obtain ⟨v', w', hrun, h2, h3, h4⟩ := run_dapp w w.heap.size ty (.slice none 0 0) [] (DRow.nil _ _) S A m c news hm hr (by simp; omega) (Nat.le_refl _)
    simp only [List.nil_append] at h2
    obtain ⟨A', c', e, hc, _⟩ := h2.form
    rw [hm] at e hc
    subst e
    refine ⟨A', c', w', ?_, ⟨by omega, .inr (by rw [hm]; exact h2)⟩, below_gb h3⟩
    rw [← hrun]
    have hn : Builtin.nextslicecap m 0 = m := by unfold Builtin.nextslicecap; simp; omega
    have f1 : ¬ 281474976710656 < m * i0.bytes := by rw [hz2]; omega
    have f2 : ¬ (9223372036854775807 : Int) < (m : Int) := by omega
    have f3 : ¬ m = 0 := by omega
    cases A <;> simp [Builtin.append_, run_underlying Try.underlying44, sizeOf, typeInfo, hi, Builtin.lenOf, Builtin.firstCells, storeCells, loadCells, loadCellsFrom, hn, f1, f2, f3]
theorem step_dapp0 {w : World} {ops : Array Oper} {o : Oper} {a : Act} {K : Act → World → Prop} {Q : Exit → Act → World → Prop} {E : Prop} (hgd : o.guard = none) (s x : Operand)
    (ho : o.op = .call { callee := .builtin .append, args := #[s, x], argTypes := #[44, 44] })
    (p : Addr) (hs : a.eval s = .slice (some p) 0 0)
    (S : Nat → Prop) (A : Option Addr) (m c : Nat) (news : List D.Dot) (hx : a.eval x = .slice A m c) (hm : news.length = m) (hr : Rds w S A (dvs news)) (h63 : m ≤ 1000000)
    (h : ∀ A' c' w', Copy w' w.heap.size A' c' news → Below w.heap.size w w' → K (a.put o.dst (.slice A' m c')) w') :
    if Region.wanted o (yielded ops a.tmps) = true then Oper.wp Try.prog o a w K Q else E := by
  have hw : Region.wanted o (yielded ops a.tmps) = true := by simp [Region.wanted, hgd]
  rw [if_pos hw]
  obtain ⟨A', c', w', hrun, h2, h3⟩ := run_dapp0 w o.type p S A m c news hm hr h63
  unfold Oper.wp execOp
  simp only [ho, resolve, invoke, builtin, Sem.run_bind, Sem.run_pure, Result.andThen_ok, List.map_toArray, List.map_cons, List.map_nil, hs, hx, hrun]
  exact h A' c' w' h2 h3

/-- A call answers dots in a row of its own. -/
def DotsPost (M : List D.Dot) (w : World) (e : Ending) (w' : World) : Prop :=
  ∃ A c, e = .returned (.slice A M.length c) ∧ DRow w' w.heap.size (.slice A M.length c) M ∧ Below w.heap.size w w'
theorem blo_rds {w : World} {g : Nat} {t : TypeId} {a b : Int} (h : Blo w g t #[.int .i64 a, .int .i64 b]) : Rds w (fun _ => True) (some ⟨g, 0, none⟩) (dvs [(a, b)]) := by
  intro j u hu
  match j, hu with
  | 0, hu => simp [dvs] at hu; subst hu; exact ⟨_, rfl, trivial, by simpa [M.addMk] using h.cell 0⟩
  | 1, hu => simp [dvs] at hu; subst hu; exact ⟨_, rfl, trivial, by simpa [M.addMk] using h.cell 1⟩
end Go.Proofs.Ytodlifbhpgphcaa
end

section
namespace Go.Proofs.Ytodlifbhpgphcaa
set_option linter.unusedVariables false
set_option linter.unusedSimpArgs false
open Go.ChangeShapes Go.WideShapes Go.ChangeAt Go.RowKit

theorem Try.fieldsDot : (Try.prog.fieldsOf 41).toList.map (fun f => (f.name, f.type, f.offset)) = [("Node", 3, 0), ("Seq", 3, 1)] := by kernel_rfl
theorem Try.stoodDot : Try.prog.stoodInHeld 41 = false := by kernel_rfl
theorem Try.guardDot : Try.prog.eqGuardType Try.prog.depth 41 = false := by kernel_rfl
theorem Try.structDot : Try.prog.underlying 41 = some (.struct (Try.prog.fieldsOf 41)) := by kernel_rfl
theorem two_fields {fs : List Field} {p q : String × TypeId × Nat} (h : fs.map (fun f => (f.name, f.type, f.offset)) = [p, q]) : ∃ f g, fs = [f, g] ∧ (f.name, f.type, f.offset) = p ∧ (g.name, g.type, g.offset) = q := by
  cases fs with
  | nil => cases h
  | cons f fs =>
    cases fs with
    | nil => simp at h
    | cons g fs =>
      cases fs with
      | nil => simp at h; exact ⟨f, g, rfl, h.1, h.2⟩
      | cons _ _ => simp at h
theorem eqIn_dot (a b x y : Int) (W : World) : (Op.equalIn 10000 41 (.agg #[.int .i64 a, .int .i64 b]) (.agg #[.int .i64 x, .int .i64 y])).run Try.prog W = .ok (a == x && b == y) W := by
  rw [run_equalIn_agg W 9999 41 _ _ Try.structDot Try.stoodDot]
  obtain ⟨f, g, e, hf, hg⟩ := two_fields Try.fieldsDot
  rw [e]
  simp only [Prod.mk.injEq] at hf hg
  obtain ⟨h1, h2, h3⟩ := hf
  obtain ⟨h4, h5, h6⟩ := hg
  simp [Op.eqFields, h1, h2, h3, h4, h5, h6, go_sem, part]
  by_cases e1 : a = x <;> by_cases e2 : b = y <;> simp [e1, e2]
theorem eql_dot (a b x y : Int) (W : World) : (binOp .eql 41 (.agg #[.int .i64 a, .int .i64 b]) (.agg #[.int .i64 x, .int .i64 y])).run Try.prog W = .ok (.bool (a == x && b == y)) W := by
  rw [run_eql_struct, eqIn_dot]; rfl
theorem neq_dot (a b x y : Int) (W : World) : (binOp .neq 41 (.agg #[.int .i64 a, .int .i64 b]) (.agg #[.int .i64 x, .int .i64 y])).run Try.prog W = .ok (.bool (!(a == x && b == y))) W := by
  rw [run_neq_struct, eqIn_dot]; rfl
end Go.Proofs.Ytodlifbhpgphcaa
end

section
namespace Go.Proofs.Ytodlifbhpgphcaa
set_option linter.unusedVariables false
set_option linter.unusedSimpArgs false
open Go.ChangeShapes Go.WideShapes Go.ChangeAt Go.RowKit

theorem ret_bool {a b : Bool} (h : a = b) : Ending.returned (.bool a) = .returned (.bool b) := by rw [h]
theorem b_alloc (w : World) (o : Obj) : Below w.heap.size w (w.alloc o) := (Below.refl _ _).alloc (Nat.le_refl _) o
theorem b_alloc2 (w : World) (o o' : Obj) : Below w.heap.size w ((w.alloc o).alloc o') := (b_alloc w o).alloc (b_alloc w o).size o'


set_option maxHeartbeats 1000000 in
theorem dots_yes (S T : Nat → Prop) (A B : Option Addr) (n c d : Nat) (M : List D.Dot) (w : World) (hn : M.length = n) (hA : Rds w S A (dvs M)) (hB : Rds w T B (dvs M)) (hl : n ≤ 1000000) :
    Calls Try.prog 28 #[.slice A n c, .slice B n d] w fun e w' => e = .returned (.bool true) ∧ Drew w w' := by
  have HN := Lib.hid hn
  clear hn
  go_enter Try.func28, Try.ntmps28
  go_wp2
  go_loopw [13] (fun iv wr => ∃ i : Nat, iv = .int .i64 i ∧ i ≤ n ∧ Drew w wr) (fun iv _ => n - (intOf iv).toNat)
  case atStart => exact ⟨0, rfl, Nat.zero_le _, Drew.refl w⟩
  case round =>
    obtain ⟨i, rfl, hi, hd⟩ := hrel
    by_cases hlt : i < n
    · have hlt' : i < M.length := by rw [HN.out]; exact hlt
      obtain ⟨ad, rfl, _, c1, c2⟩ := (hd.rds hA).dot hlt'
      obtain ⟨bd, rfl, _, c3, c4⟩ := (hd.rds hB).dot hlt'
      have q1 : ∀ W, (binOp .neq 41 (.agg #[.int .i64 M[i].1, .int .i64 M[i].2]) (.agg #[.int .i64 M[i].1, .int .i64 M[i].2])).run Try.prog W = .ok (.bool false) W := fun W => by rw [neq_dot]; simp
      generalize M[i].1 = x1 at *
      generalize M[i].2 = x2 at *
      have q2 := Try.guardDot
      go_wp2
      go_quiet (fail)
      go_wp2
      go_roundw
      case rel => exact ⟨i + 1, by go_num, by omega, hd.more _⟩
      case measure => simp [intOf]; omega
    · go_wp2
      go_ret
      exact ⟨rfl, hd⟩
end Go.Proofs.Ytodlifbhpgphcaa
end

section
namespace Go.Proofs.Ytodlifbhpgphcaa
set_option linter.unusedVariables false
set_option linter.unusedSimpArgs false
open Go.ChangeShapes Go.WideShapes Go.ChangeAt Go.RowKit

/-! ### sets as values -/
abbrev sv (U : Nat → Int) (A : Option Addr) (n c : Nat) : Value := .agg #[.int .i64 (U 0), .int .i64 (U 1), .int .i64 (U 2), .int .i64 (U 3), .int .i64 (U 4), .int .i64 (U 5), .int .i64 (U 6), .int .i64 (U 7), .slice A n c]
abbrev scs (U : Nat → Int) (A : Option Addr) (n c : Nat) : Array Value := #[.int .i64 (U 0), .int .i64 (U 1), .int .i64 (U 2), .int .i64 (U 3), .int .i64 (U 4), .int .i64 (U 5), .int .i64 (U 6), .int .i64 (U 7), .slice A n c]
abbrev av (U : Nat → Int) : Value := .agg #[.int .i64 (U 0), .int .i64 (U 1), .int .i64 (U 2), .int .i64 (U 3), .int .i64 (U 4), .int .i64 (U 5), .int .i64 (U 6), .int .i64 (U 7)]
theorem scs_at (U : Nat → Int) (A : Option Addr) (n c : Nat) {k : Nat} (hk : k < 8) : (scs U A n c)[k]? = some (.int .i64 (U k)) := by
  rcases k with _ | _ | _ | _ | _ | _ | _ | _ | k
  all_goals first | rfl | omega
/-- One number turned. -/
def upd (U : Nat → Int) (k : Nat) (x : Int) : Nat → Int := fun j => if j = k then x else U j
theorem upd_same (U : Nat → Int) (k : Nat) (x : Int) : upd U k x k = x := by simp [upd]
theorem upd_other (U : Nat → Int) {k j : Nat} (x : Int) (h : j ≠ k) : upd U k x j = U j := by simp [upd, h]
theorem scs_set (U : Nat → Int) (A : Option Addr) (n c : Nat) {k : Nat} (hk : k < 8) (x : Int) : (scs U A n c).setIfInBounds k (.int .i64 x) = scs (upd U k x) A n c := by
  rcases k with _ | _ | _ | _ | _ | _ | _ | _ | k
  all_goals first | omega | simp [upd]
theorem scs_more (U : Nat → Int) (A A' : Option Addr) (n n' c c' : Nat) : (scs U A n c).setIfInBounds 8 (.slice A' n' c') = scs U A' n' c' := by simp

/-- A call answers a set: these numbers, these dots in a row of its own. -/
def SetPost (U : Nat → Int) (M : List D.Dot) (w : World) (e : Ending) (w' : World) : Prop :=
  ∃ A c, e = .returned (sv U A M.length c) ∧ DRow w' w.heap.size (.slice A M.length c) M ∧ Below w.heap.size w w'
end Go.Proofs.Ytodlifbhpgphcaa
end

section
namespace Go.Proofs.Ytodlifbhpgphcaa
set_option linter.unusedVariables false
set_option linter.unusedSimpArgs false
open Go.ChangeShapes Go.WideShapes Go.ChangeAt Go.RowKit

def KeepsRows (w w' : World) (n : Nat) : Prop := ∀ B A c M, DRow w B (.slice A M.length c) M → M.length ≤ n → DRow w' B (.slice A M.length c) M
theorem run_dapp_keep (w : World) (B : Nat) (ty : TypeId) (v : Value) (l : List D.Dot) (hown : DRow w B v l)
    (S : Nat → Prop) (ad : Addr) (m c : Nat) (news : List D.Dot) (hm : news.length = m) (hr : Rds w S (some ad) (dvs news)) (h63 : l.length + m ≤ 1000000) (hB : B ≤ w.heap.size) (hpos : 0 < m) :
    ∃ v' w', (Builtin.append_ #[44, 44] ty #[v, .slice (some ad) m c]).run Try.prog w = .ok v' w' ∧ DRow w' B v' (l ++ news) ∧ w.grownBy w' v.ownBlock ∧ KeepsRows w w' l.length := by
  obtain ⟨i0, hi, hz0, hz1, hz2⟩ := info_parts Try.rowDot
  obtain ⟨v', w', hrun, h2, h3, h4⟩ := run_dapp w B ty v l hown S (some ad) m c news hm hr h63 hB
  refine ⟨v', w', hrun, h2, h3, fun B2 A2 c2 M2 hD hle => ?_⟩
  have hl2 : (dvs news).length = m * i0.size := by rw [dvs_len, hm, hz1]
  have grow : (∃ o, w' = w.drew.alloc o) → DRow w' B2 (.slice A2 M2.length c2) M2 := fun ⟨o, e⟩ => by rw [e]; exact (DRow.drew hD).alloc o
  rcases hown.2 with ⟨rfl, h0⟩ | ⟨g, cap, cur, rfl, hbg, hg, hnc, hcm, hcs, htake⟩
  · have hr' := run_append_nil (P := Try.prog) w 44 ty 41 i0 _ Try.underlying44 hi hz0 ad m c (dvs news) hl2 hr.addr hpos (by omega) (by rw [hz2]; omega)
    rw [hrun] at hr'
    injection hr' with _ hw
    exact grow ⟨_, hw⟩
  · by_cases hroom : l.length + m ≤ cap
    · have hfit : l.length * i0.size + (dvs news).length ≤ cur.size := by rw [hl2, hcs, hz1]; omega
      have hr' := run_append_room (P := Try.prog) w 44 ty 41 i0 Try.underlying44 hi g l.length cap cur hg ad m c (dvs news) hl2 hr.addr (dvs_one _) hroom hfit
      rw [hrun] at hr'
      injection hr' with _ hw
      rw [hz1] at hw hfit
      rcases hD.2 with ⟨e, h0⟩ | ⟨g2, cap2, cur2, e, hb2, hh2, hn2, hc2, hs2, ht2⟩
      · exact ⟨hD.1, .inl ⟨e, h0⟩⟩
      · by_cases hgg : g2 = g
        · subst hgg
          have ec : cur2 = cur := by
            have h5 := hg.symm.trans hh2
            exact (Obj.cells.inj (Option.some.inj h5)).1.symm
          subst ec
          refine ⟨hD.1, .inr ⟨g2, cap2, _, e, hb2, by rw [hw]; exact setRow_heap w g2 cur2 _ 41 _ hg, hn2, hc2, ?_, ?_⟩⟩
          · rw [← hs2]
            simp only [List.size_toArray, List.length_append, List.length_take, List.length_drop, Array.length_toList]
            omega
          · have hle2 : M2.length * 2 ≤ (cur2.toList.take (l.length * 2)).length := by
              have h7 : cur2.toList.length = cur2.size := Array.length_toList
              rw [List.length_take]
              omega
            rw [← ht2]
            simp only [List.append_assoc]
            rw [List.take_append_of_le_length hle2, List.take_take, Nat.min_eq_left (by omega)]
        · exact ⟨hD.1, .inr ⟨g2, cap2, cur2, e, hb2, by rw [hw, setRow_other w g g2 _ (fun e => hgg e)]; exact hh2, hn2, hc2, hs2, ht2⟩⟩
    · have holds : ∀ j u, (dvs l)[j]? = some u → w.cell? ((⟨g, 0, none⟩ : Addr).add j) = some u := World.ownsRow.cells (g := g) hown rfl
      have hr' := run_append_grow (P := Try.prog) w 44 ty 41 i0 _ Try.underlying44 hi hz0 ⟨g, 0, none⟩ l.length cap (dvs l) (by rw [dvs_len, hz1]) holds ad m c (dvs news) hl2 hr.addr (by omega) (by omega) (growslice_fits (by omega) (by rw [hz2]; omega))
      rw [hrun] at hr'
      injection hr' with _ hw
      exact grow ⟨_, hw⟩

theorem wpList_dapp_keep (w : World) {ops : Array Oper} {rest : List Oper} {o : Oper} {a : Act} {Q : Exit → Act → World → Prop} (hgd : o.guard = none) (s x : Operand)
    (ho : o.op = .call { callee := .builtin .append, args := #[s, x], argTypes := #[44, 44] })
    (B : Nat) (v : Value) (l : List D.Dot) (hs : a.eval s = v) (hown : DRow w B v l)
    (S : Nat → Prop) (ad : Addr) (m c : Nat) (news : List D.Dot) (hx : a.eval x = .slice (some ad) m c) (hm : news.length = m) (hr : Rds w S (some ad) (dvs news)) (h63 : l.length + m ≤ 1000000) (hB : B ≤ w.heap.size) (hpos : 0 < m)
    (h : ∀ v' w', DRow w' B v' (l ++ news) → w.grownBy w' v.ownBlock → KeepsRows w w' l.length → wpList Try.prog ops Q rest (a.put o.dst v') w') : wpList Try.prog ops Q (o :: rest) a w := by
  refine wpList_plain hgd fun K hK => ?_
  obtain ⟨v', w', hrun, h2, h3, h4⟩ := run_dapp_keep w B o.type v l hown S ad m c news hm hr h63 hB hpos
  unfold Oper.wp execOp
  simp only [ho, resolve, invoke, builtin, Sem.run_bind, Sem.run_pure, Result.andThen_ok, List.map_toArray, List.map_cons, List.map_nil, hs, hx, hrun]
  exact hK _ _ (h v' w' h2 h3 h4)
end Go.Proofs.Ytodlifbhpgphcaa
end

section
namespace Go.Proofs.Ytodlifbhpgphcaa
set_option linter.unusedVariables false
set_option linter.unusedSimpArgs false
open Go.ChangeShapes Go.WideShapes Go.ChangeAt Go.RowKit Go.Deep

theorem Try.cellsInt : Try.prog.cellsOf 3 = 1 := by kernel_rfl
theorem Try.cellsDot : Try.prog.cellsOf 41 = 2 := by kernel_rfl
theorem Try.cellsDots : Try.prog.cellsOf 44 = 1 := by kernel_rfl
section
variable {H : Type} {enc : TypeId × Value → H} {w : World} {base : Nat}
theorem open_dots {fuel : Nat} {cs : List Value} {y : DataW H × List MemPlace} (hf : DataW.trod enc Try.prog w 0 (fun _ => true) true fuel 44 cs = some y) :
    ∃ A n c, ∃ M : List D.Dot, cs = [.slice A n c] ∧ M.length = n ∧ n ≤ c ∧ c ≤ maxLen ∧ Rds w (· < w.heap.size) A (dvs M) := by
  rcases open_slice_pairs Try.underlying44 Try.underlying41 Try.cellsDot rfl rfl Try.cellsInt Try.cellsInt hf with ⟨hcs, _⟩ | ⟨x, ln, cp, m, n, V0, V1, D0, D1, P0, P1, hcs, _, hl, hm, hmm, _, hcell⟩
  · exact ⟨none, 0, 0, [], hcs, rfl, Nat.le_refl _, by unfold maxLen; omega, Rds.nil⟩
  · have hm' : ln ≤ m := by rw [hmm]; split <;> omega
    refine ⟨some x, ln, cp, (List.range ln).map fun i => (intOf (V0 i), intOf (V1 i)), hcs, by simp, hl, hm, ?_⟩
    have key : ∀ i, i < ln → w.cell? (x.add (i * 2)) = some (.int .i64 (intOf (V0 i))) ∧ w.cell? (x.add (i * 2 + 1)) = some (.int .i64 (intOf (V1 i))) := fun i hi => by
      obtain ⟨e0, e1, t0, t1⟩ := hcell i (by omega)
      obtain ⟨n0, q0, _, _⟩ := DataW.trod_int Try.underlying3 t0
      obtain ⟨n1, q1, _, _⟩ := DataW.trod_int Try.underlying3 t1
      simp at q0 q1
      rw [e0, e1, q0, q1]
      exact ⟨rfl, rfl⟩
    intro j u hu
    have hj : j < ln * 2 := by
      rcases Nat.lt_or_ge j (ln * 2) with h | h
      · exact h
      · rw [List.getElem?_eq_none (by rw [dvs_len]; simpa using h)] at hu; cases hu
    have hi : j / 2 < ln := by omega
    have hat := dvs_at ((List.range ln).map fun i => (intOf (V0 i), intOf (V1 i))) (j / 2) (by simpa using hi)
    obtain ⟨k0, k1⟩ := key (j / 2) hi
    rcases Nat.mod_two_eq_zero_or_one j with e | e
    · have ej : j / 2 * 2 = j := by omega
      rw [ej] at hat k0
      rw [hat.1] at hu
      injection hu with hu
      subst hu
      have := M.cellLt k0
      rw [M.addBlock] at this
      exact ⟨x, rfl, this, by simpa using k0⟩
    · have ej : j / 2 * 2 + 1 = j := by omega
      rw [ej] at hat k1
      rw [hat.2] at hu
      injection hu with hu
      subst hu
      have := M.cellLt k1
      rw [M.addBlock] at this
      exact ⟨x, rfl, this, by simpa using k1⟩

set_option maxRecDepth 1000000 in
theorem open_dot {fuel : Nat} {cs : List Value} {y : DataW H × List MemPlace} (hf : DataW.trod enc Try.prog w 0 (fun _ => true) true fuel 41 cs = some y) : ∃ a b, cs = [.int .i64 a, .int .i64 b] := by
  obtain ⟨xs, m, _, _, hlen, hx, hg⟩ := DataW.trod_struct Try.underlying41 hf
  rw [Try.cellsDot] at hlen
  match cs, hlen with
  | [c0, c1], _ =>
    have h0 : DataW.trod enc Try.prog w 0 (fun _ => true) true m 3 (([c0, c1] : List Value).take (Try.prog.cellsOf 3)) = xs[0]? := hg 0 _ rfl
    have h1 : DataW.trod enc Try.prog w 0 (fun _ => true) true m 3 (([c1] : List Value).take (Try.prog.cellsOf 3)) = xs[1]? := hg 1 _ rfl
    rw [List.getElem?_eq_getElem (by rw [hx]; decide)] at h0 h1
    rw [Try.cellsInt] at h0 h1
    obtain ⟨n0, q0, _, _⟩ := DataW.trod_int Try.underlying3 h0
    obtain ⟨n1, q1, _, _⟩ := DataW.trod_int Try.underlying3 h1
    simp at q0 q1
    exact ⟨n0, n1, by rw [q0, q1]⟩
set_option maxRecDepth 1000000 in
theorem arg_dot {v : Value} {d : DataW H} {p : List MemPlace} (ho : Value.okWide Try.prog w .any base 41 v) (hk : DataW.Trod enc Try.prog w 0 (fun _ => true) true 41 v d p) : ∃ a b, v = .agg #[.int .i64 a, .int .i64 b] := by
  obtain ⟨cs, rfl, _⟩ := okWide_struct Try.underlying41 ho
  obtain ⟨fuel, hf⟩ := hk
  obtain ⟨a, b, e⟩ := open_dot hf
  refine ⟨a, b, ?_⟩
  have e' : cs.toList = (#[.int .i64 a, .int .i64 b] : Array Value).toList := by simpa [Value.cells] using e
  rw [show cs = #[.int .i64 a, .int .i64 b] from Array.toList_inj.1 e']
end
end Go.Proofs.Ytodlifbhpgphcaa
end

