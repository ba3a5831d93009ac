/- Rows of dots in memory (two cells each), sets as values; append onto such rows. -/
import Derived.Test.YtlckappnpdkihaaMem
import Derived.Test.YtlckappnpdkihaaArgs
import Derived.Test.YtlckappnpdkihaaCuts
import Derived.Test.YtlckappnpdkihaaDotMath
namespace Go.Proofs.Ytlckappnpdkihaa
set_option linter.unusedVariables false
set_option linter.unusedSimpArgs false
open Go.ChangeShapes Go.WideShapes Go.ChangeAt Go.RowKit

abbrev dv (d : D.Dot) : Value := .agg #[.int .i64 d.1, .int .i64 d.2]
/-- The cells of dots, one behind the other. -/
def dvs : List D.Dot → List Value
  | [] => []
  | d :: l => .int .i64 d.1 :: .int .i64 d.2 :: dvs l
theorem dvs_len (l : List D.Dot) : (dvs l).length = l.length * 2 := by
  induction l with
  | nil => rfl
  | cons d l ih => simp [dvs, ih]; omega
theorem dvs_app (l m : List D.Dot) : dvs (l ++ m) = dvs l ++ dvs m := by
  induction l with
  | nil => rfl
  | cons d l ih => simp [dvs, ih]
theorem dvs_one : ∀ (l : List D.Dot), ∀ u ∈ dvs l, u.oneCell' = true := by
  intro l
  induction l with
  | nil => intro u hu; simp [dvs] at hu
  | cons d l ih =>
    intro u hu
    simp only [dvs, List.mem_cons] at hu
    rcases hu with rfl | rfl | hu
    · rfl
    · rfl
    · exact ih u hu
theorem dvs_at : ∀ (l : List D.Dot) (i : Nat) (hi : i < l.length), (dvs l)[i * 2]? = some (.int .i64 l[i].1) ∧ (dvs l)[i * 2 + 1]? = some (.int .i64 l[i].2) := by
  intro l
  induction l with
  | nil => intro i hi; simp at hi
  | cons d l ih =>
    intro i hi
    cases i with
    | zero => simp [dvs]
    | succ i =>
      have := ih i (by simpa using hi)
      have e : (i + 1) * 2 = i * 2 + 1 + 1 := by omega
      simp only [dvs, e, List.getElem?_cons_succ, List.getElem_cons_succ]
      exact this
theorem dvs_take (l : List D.Dot) (k : Nat) : dvs (l.take k) = (dvs l).take (k * 2) := by
  induction l generalizing k with
  | nil => simp [dvs]
  | cons d l ih =>
    cases k with
    | zero => simp [dvs]
    | succ k =>
      have e : (k + 1) * 2 = k * 2 + 1 + 1 := by omega
      simp [dvs, ih, e]
theorem dvs_inj : ∀ {l m : List D.Dot}, dvs l = dvs m → l = m := by
  intro l
  induction l with
  | nil => intro m h; cases m with
    | nil => rfl
    | cons d m => simp [dvs] at h
  | cons d l ih => intro m h; cases m with
    | nil => simp [dvs] at h
    | cons b m =>
      simp only [dvs, List.cons.injEq, Value.int.injEq, true_and] at h
      rw [ih h.2.2, Prod.ext h.1 h.2.1]

/-- The dot at i of a slice that reads as these dots. -/
theorem Rds.dot {w : World} {S : Nat → Prop} {A : Option Addr} {l : List D.Dot} (h : Rds w S A (dvs l)) {i : Nat} (hi : i < l.length) :
    ∃ ad, A = some ad ∧ S ad.block ∧ w.cell? (ad.add (i * 2)) = some (.int .i64 l[i].1) ∧ w.cell? ⟨(ad.add (i * 2)).block, (ad.add (i * 2)).off + 1, none⟩ = some (.int .i64 l[i].2) := by
  obtain ⟨h1, h2⟩ := dvs_at l i hi
  obtain ⟨ad, rfl, hs, hc⟩ := h _ _ h1
  obtain ⟨ad', e, _, hc'⟩ := h _ _ h2
  injection e with e
  subst e
  exact ⟨_, rfl, hs, hc, by rw [← M.addOff _ _ _ (by omega)]; exact hc'⟩
theorem Rds.dtake {w : World} {S : Nat → Prop} {A : Option Addr} {l : List D.Dot} (h : Rds w S A (dvs l)) (k : Nat) : Rds w S A (dvs (l.take k)) := by
  rw [dvs_take]; exact h.take _
/-- A dot that was just made a row of. -/
theorem dot_rds (w : World) (a b : Int) (t : TypeId) : Rds (w.alloc (.cells #[.int .i64 a, .int .i64 b] t)) (fun _ => True) (some ⟨w.heap.size, 0, none⟩) (dvs [(a, b)]) := by
  intro j u hu
  match j, hu with
  | 0, hu => simp [dvs] at hu; subst hu; exact ⟨_, rfl, trivial, by simp [M.addMk]⟩
  | 1, hu => simp [dvs] at hu; subst hu; exact ⟨_, rfl, trivial, by simp [M.addMk]⟩

theorem Try.rowDot : (Try.prog.info? 23).map (fun i => (i.zero, i.size, i.bytes)) = some (some (.agg #[.int .i64 0, .int .i64 0]), 2, 16) := by kernel_rfl

/-- A row of dots of the call's own. -/
def DRow (w : World) (B : Nat) (v : Value) (l : List D.Dot) : Prop := w.ownsRow B 23 2 v l.length (dvs l)
section
variable {w w' : World} {B B' : Nat} {v : Value} {l : List D.Dot} {A : Option Addr} {n c : Nat}
theorem DRow.nil (w : World) (B : Nat) : DRow w B (.slice none 0 0) [] := World.ownsRow_nil _ _ _ _
theorem DRow.form (h : DRow w B v l) : ∃ A c, v = .slice A l.length c ∧ l.length ≤ c ∧ c ≤ maxLen ∧ (A = none → l = [] ∧ c = 0) := by
  rcases h.2 with ⟨rfl, h0⟩ | ⟨g, cap, cur, rfl, _, _, hn, hm, _⟩
  · have : l = [] := List.eq_nil_of_length_eq_zero h0
    subst this
    exact ⟨none, 0, rfl, Nat.le_refl _, by unfold maxLen; omega, fun _ => ⟨rfl, rfl⟩⟩
  · exact ⟨_, cap, rfl, hn, hm, fun h => by cases h⟩
theorem DRow.rds (h : DRow w B (.slice A n c) l) : Rds w (fun b => B ≤ b ∧ (Value.slice A n c).ownBlock = some b) A (dvs l) := by
  intro j u hu
  rcases h.2 with ⟨e, h0⟩ | ⟨g, cap, cur, e, hb, _, _, _⟩
  · have : l = [] := List.eq_nil_of_length_eq_zero h0
    subst this; simp [dvs] at hu
  · injection e with e1 e2 e3
    subst e1; subst e3; subst e2
    exact ⟨_, rfl, ⟨hb, rfl⟩, World.ownsRow.cells h (g := g) rfl j u hu⟩
theorem DRow.rdsT (h : DRow w B (.slice A n c) l) : Rds w (fun _ => True) A (dvs l) := h.rds.mono fun _ _ => trivial
theorem DRow.mono (h : DRow w B v l) (hb : B' ≤ B) : DRow w B' v l := by
  obtain ⟨h1, h2⟩ := h
  refine ⟨h1, ?_⟩
  rcases h2 with h2 | ⟨g, cap, cur, e, hg, r⟩
  · exact .inl h2
  · exact .inr ⟨g, cap, cur, e, Nat.le_trans hb hg, r⟩
theorem DRow.lt (h : DRow w B v l) : ∀ g, v.ownBlock = some g → B ≤ g ∧ g < w.heap.size := World.ownsRow.lt h
theorem DRow.keep (h : DRow w B v l) (hk : ∀ g, v.ownBlock = some g → g < w.heap.size → w'.heap[g]? = w.heap[g]?) : DRow w' B v l := by
  have hlt := h.lt
  obtain ⟨h1, h2⟩ := h
  refine ⟨h1, ?_⟩
  rcases h2 with h2 | ⟨g, cap, cur, e, hg, hh, r⟩
  · exact .inl h2
  · subst e
    exact .inr ⟨g, cap, cur, rfl, hg, (hk g rfl (hlt g rfl).2).trans hh, r⟩
theorem DRow.new (h : DRow w B v l) (hb : Below w.heap.size w w') : DRow w' B v l := h.keep fun g _ hl => hb.block g hl
theorem DRow.grown {row : Option Nat} (h : DRow w B v l) (hg : w.grownBy w' row) (hr : ∀ b, v.ownBlock = some b → some b ≠ row) : DRow w' B v l := h.keep fun g hb hl => hg.block g hl (hr g hb)
theorem DRow.alloc (h : DRow w B v l) (o : Obj) : DRow (w.alloc o) B v l := h.keep fun g _ hl => Below.heap_alloc w o g hl
theorem DRow.blo {g : Nat} {t : TypeId} {cs : Array Value} (h : DRow w B v l) (h' : Blo w g t cs) (hne : 23 ≠ t) : v.ownBlock ≠ some g := by
  rcases h.2 with ⟨rfl, _⟩ | ⟨k, cap, cur, rfl, _, hh, _⟩
  · simp [Value.ownBlock]
  · intro e
    injection e with e
    exact Blo.typeNe (t := 23) (t' := t) hh h' hne e
theorem DRow.drew (h : DRow w B v l) : DRow w.drew B v l := h
end

/-- append onto a row of dots of the call's own, from whatever slice that reads as news. -/
theorem run_dapp (w : World) (B : Nat) (ty : TypeId) (v : Value) (l : List D.Dot) (hown : DRow w B v l)
    (S : Nat → Prop) (A : Option Addr) (m c : Nat) (news : List D.Dot) (hm : news.length = m) (hr : Rds w S A (dvs news)) (h63 : l.length + m ≤ 1000000) (hB : B ≤ w.heap.size) :
    ∃ v' w', (Builtin.append_ #[26, 26] ty #[v, .slice A m c]).run Try.prog w = .ok v' w' ∧ DRow w' B v' (l ++ news) ∧ w.grownBy w' v.ownBlock ∧ (v'.ownBlock = v.ownBlock ∨ v'.ownBlock = some w.heap.size) := by
  obtain ⟨i0, hi, hz0, hz1, hz2⟩ := info_parts Try.rowDot
  subst hm
  rcases A with _ | ad
  · have hn : news = [] := by
      cases news with
      | nil => rfl
      | cons u us => obtain ⟨ad, e, _⟩ := hr 0 _ rfl; cases e
    subst hn
    refine ⟨v, w, ?_, by simpa using hown, World.grownBy.refl w _, .inl rfl⟩
    rcases hown.2 with ⟨rfl, _⟩ | ⟨g, cap, cur, rfl, _, _, hnc, _⟩
    · simp [Builtin.append_, run_underlying Try.underlying26, sizeOf, typeInfo, hi, Builtin.lenOf, Builtin.firstCells]
    · simp [Builtin.append_, run_underlying Try.underlying26, sizeOf, typeInfo, hi, Builtin.lenOf, Builtin.firstCells, hnc, storeCells]
  · obtain ⟨v', w', hrun, h2, h3, _, h5⟩ := run_append_own_at (P := Try.prog) w B 26 ty 23 i0 _ 2 16 Try.underlying26 hi hz0 hz1 hz2 rfl (by decide) v l.length (dvs l) hown ad news.length c (dvs news) (dvs_len _) hr.addr (dvs_one _) (by unfold maxLen; omega) (by omega) hB
    refine ⟨v', w', hrun, ?_, h3, h5⟩
    unfold DRow
    rw [dvs_app, List.length_append]
    exact h2

theorem wpList_dapp (w : World) {ops : Array Oper} {rest : List Oper} {o : Oper} {a : Act} {Q : Exit → Act → World → Prop} (hgd : o.guard = none) (s x : Operand)
    (ho : o.op = .call { callee := .builtin .append, args := #[s, x], argTypes := #[26, 26] })
    (B : Nat) (v : Value) (l : List D.Dot) (hs : a.eval s = v) (hown : DRow w B v l)
    (S : Nat → Prop) (A : Option Addr) (m c : Nat) (news : List D.Dot) (hx : a.eval x = .slice A m c) (hm : news.length = m) (hr : Rds w S A (dvs news)) (h63 : l.length + m ≤ 1000000) (hB : B ≤ w.heap.size)
    (h : ∀ v' w', DRow w' B v' (l ++ news) → w.grownBy w' v.ownBlock → (v'.ownBlock = v.ownBlock ∨ v'.ownBlock = some w.heap.size) → wpList Try.prog ops Q rest (a.put o.dst v') w') : wpList Try.prog ops Q (o :: rest) a w := by
  refine wpList_plain hgd fun K hK => ?_
  obtain ⟨v', w', hrun, h2, h3, h4⟩ := run_dapp w B o.type v l hown S A m c news hm hr h63 hB
  unfold Oper.wp execOp
  simp only [ho, resolve, invoke, builtin, Sem.run_bind, Sem.run_pure, Result.andThen_ok, List.map_toArray, List.map_cons, List.map_nil, hs, hx, hrun]
  exact hK _ _ (h v' w' h2 h3 h4)

theorem step_dapp {w : World} {ops : Array Oper} {o : Oper} {a : Act} {K : Act → World → Prop} {Q : Exit → Act → World → Prop} {E : Prop} (hgd : o.guard = none) (s x : Operand)
    (ho : o.op = .call { callee := .builtin .append, args := #[s, x], argTypes := #[26, 26] })
    (B : Nat) (v : Value) (l : List D.Dot) (hs : a.eval s = v) (hown : DRow w B v l)
    (S : Nat → Prop) (A : Option Addr) (m c : Nat) (news : List D.Dot) (hx : a.eval x = .slice A m c) (hm : news.length = m) (hr : Rds w S A (dvs news)) (h63 : l.length + m ≤ 1000000) (hB : B ≤ w.heap.size)
    (h : ∀ v' w', DRow w' B v' (l ++ news) → w.grownBy w' v.ownBlock → (v'.ownBlock = v.ownBlock ∨ v'.ownBlock = some w.heap.size) → K (a.put o.dst v') w') :
    if Region.wanted o (yielded ops a.tmps) = true then Oper.wp Try.prog o a w K Q else E := by
  have hw : Region.wanted o (yielded ops a.tmps) = true := by simp [Region.wanted, hgd]
  rw [if_pos hw]
  obtain ⟨v', w', hrun, h2, h3, h4⟩ := run_dapp w B o.type v l hown S A m c news hm hr h63 hB
  unfold Oper.wp execOp
  simp only [ho, resolve, invoke, builtin, Sem.run_bind, Sem.run_pure, Result.andThen_ok, List.map_toArray, List.map_cons, List.map_nil, hs, hx, hrun]
  exact h v' w' h2 h3 h4

/-- A slice that reads as these dots, in a row of its own unless it is empty. -/
def Copy (w : World) (B : Nat) (A : Option Addr) (c : Nat) (l : List D.Dot) : Prop := l.length ≤ c ∧ (l = [] ∨ DRow w B (.slice A l.length c) l)
theorem Copy.rds {w : World} {B : Nat} {A : Option Addr} {c : Nat} {l : List D.Dot} (h : Copy w B A c l) : Rds w (fun b => B ≤ b) A (dvs l) := by
  rcases h.2 with h | h
  · subst h; exact Rds.nil
  · exact h.rds.mono fun _ h => h.1
theorem Copy.new {w w' : World} {B : Nat} {A : Option Addr} {c : Nat} {l : List D.Dot} (h : Copy w B A c l) (hb : Below w.heap.size w w') : Copy w' B A c l := ⟨h.1, h.2.imp id fun h => h.new hb⟩
theorem Copy.mono {w : World} {B B' : Nat} {A : Option Addr} {c : Nat} {l : List D.Dot} (h : Copy w B A c l) (hb : B' ≤ B) : Copy w B' A c l := ⟨h.1, h.2.imp id fun h => h.mono hb⟩

/-- append onto an empty literal. -/
theorem run_dapp0 (w : World) (ty : TypeId) (p : Addr) (S : Nat → Prop) (A : Option Addr) (m c : Nat) (news : List D.Dot) (hm : news.length = m) (hr : Rds w S A (dvs news)) (h63 : m ≤ 1000000) :
    ∃ A' c' w', (Builtin.append_ #[26, 26] ty #[.slice (some p) 0 0, .slice A m c]).run Try.prog w = .ok (.slice A' m c') w' ∧ Copy w' w.heap.size A' c' news ∧ Below w.heap.size w w' := by
  obtain ⟨i0, hi, hz0, hz1, hz2⟩ := info_parts Try.rowDot
  rcases Nat.eq_zero_or_pos m with rfl | hpos
  · have : news = [] := List.eq_nil_of_length_eq_zero hm
    subst this
    refine ⟨some p, 0, w, ?_, ⟨Nat.le_refl _, .inl rfl⟩, Below.refl _ _⟩
    cases A <;> simp [Builtin.append_, run_underlying Try.underlying26, sizeOf, typeInfo, hi, Builtin.lenOf, Builtin.firstCells, storeCells, loadCells, loadCellsFrom]
  · obtain ⟨v', w', hrun, h2, h3, h4⟩ := run_dapp w w.heap.size ty (.slice none 0 0) [] (DRow.nil _ _) S A m c news hm hr (by simp; omega) (Nat.le_refl _)
    simp only [List.nil_append] at h2
    obtain ⟨A', c', e, hc, _⟩ := h2.form
    rw [hm] at e hc
    subst e
    refine ⟨A', c', w', ?_, ⟨by omega, .inr (by rw [hm]; exact h2)⟩, below_gb h3⟩
    rw [← hrun]
    have hn : Builtin.nextslicecap m 0 = m := by unfold Builtin.nextslicecap; simp; omega
    have f1 : ¬ 281474976710656 < m * i0.bytes := by rw [hz2]; omega
    have f2 : ¬ (9223372036854775807 : Int) < (m : Int) := by omega
    have f3 : ¬ m = 0 := by omega
    cases A <;> simp [Builtin.append_, run_underlying Try.underlying26, sizeOf, typeInfo, hi, Builtin.lenOf, Builtin.firstCells, storeCells, loadCells, loadCellsFrom, hn, f1, f2, f3]
theorem step_dapp0 {w : World} {ops : Array Oper} {o : Oper} {a : Act} {K : Act → World → Prop} {Q : Exit → Act → World → Prop} {E : Prop} (hgd : o.guard = none) (s x : Operand)
    (ho : o.op = .call { callee := .builtin .append, args := #[s, x], argTypes := #[26, 26] })
    (p : Addr) (hs : a.eval s = .slice (some p) 0 0)
    (S : Nat → Prop) (A : Option Addr) (m c : Nat) (news : List D.Dot) (hx : a.eval x = .slice A m c) (hm : news.length = m) (hr : Rds w S A (dvs news)) (h63 : m ≤ 1000000)
    (h : ∀ A' c' w', Copy w' w.heap.size A' c' news → Below w.heap.size w w' → K (a.put o.dst (.slice A' m c')) w') :
    if Region.wanted o (yielded ops a.tmps) = true then Oper.wp Try.prog o a w K Q else E := by
  have hw : Region.wanted o (yielded ops a.tmps) = true := by simp [Region.wanted, hgd]
  rw [if_pos hw]
  obtain ⟨A', c', w', hrun, h2, h3⟩ := run_dapp0 w o.type p S A m c news hm hr h63
  unfold Oper.wp execOp
  simp only [ho, resolve, invoke, builtin, Sem.run_bind, Sem.run_pure, Result.andThen_ok, List.map_toArray, List.map_cons, List.map_nil, hs, hx, hrun]
  exact h A' c' w' h2 h3

/-- A call answers dots in a row of its own. -/
def DotsPost (M : List D.Dot) (w : World) (e : Ending) (w' : World) : Prop :=
  ∃ A c, e = .returned (.slice A M.length c) ∧ DRow w' w.heap.size (.slice A M.length c) M ∧ Below w.heap.size w w'
theorem blo_rds {w : World} {g : Nat} {t : TypeId} {a b : Int} (h : Blo w g t #[.int .i64 a, .int .i64 b]) : Rds w (fun _ => True) (some ⟨g, 0, none⟩) (dvs [(a, b)]) := by
  intro j u hu
  match j, hu with
  | 0, hu => simp [dvs] at hu; subst hu; exact ⟨_, rfl, trivial, by simpa [M.addMk] using h.cell 0⟩
  | 1, hu => simp [dvs] at hu; subst hu; exact ⟨_, rfl, trivial, by simpa [M.addMk] using h.cell 1⟩
end Go.Proofs.Ytlckappnpdkihaa
