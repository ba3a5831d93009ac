/- Rows of events: parts of them; append onto an empty literal. -/
import Derived.Test.YtodlifbhpgphcaaEvMem
namespace Go.Proofs.Ytodlifbhpgphcaa
set_option linter.unusedVariables false
set_option linter.unusedSimpArgs false
open Go.ChangeShapes Go.WideShapes Go.ChangeAt Go.RowKit

theorem evs_take (l : List EvV) (k : Nat) : evs (l.take k) = (evs l).take (k * 14) := by
  induction l generalizing k with
  | nil => simp [evs]
  | cons e l ih =>
    cases k with
    | zero => simp [evs]
    | succ k =>
      have e1 : (k + 1) * 14 = 14 + k * 14 := by omega
      rw [List.take_succ_cons, e1]
      show e.cells.toList ++ evs (l.take k) = (e.cells.toList ++ evs l).take (14 + k * 14)
      have hlen : e.cells.toList.length = 14 := by simp
      rw [List.take_append, hlen, show 14 + k * 14 - 14 = k * 14 by omega, List.take_of_length_le (l := e.cells.toList) (by omega), ih]
theorem evs_drop (l : List EvV) (k : Nat) : evs (l.drop k) = (evs l).drop (k * 14) := by
  induction l generalizing k with
  | nil => simp [evs]
  | cons e l ih =>
    cases k with
    | zero => simp [evs]
    | succ k =>
      have e1 : (k + 1) * 14 = 14 + k * 14 := by omega
      rw [List.drop_succ_cons, e1]
      show evs (l.drop k) = (e.cells.toList ++ evs l).drop (14 + k * 14)
      have hlen : e.cells.toList.length = 14 := by simp
      have hnil : e.cells.toList.drop (14 + k * 14) = [] := List.drop_eq_nil_of_le (by omega)
      rw [List.drop_append, hlen, show 14 + k * 14 - 14 = k * 14 by omega, hnil, ih]
      rfl
theorem run_size14 (W : World) : (sizeOf 46).run Try.prog W = .ok 14 W := by
  have hs := Try.sizeEvent
  cases hi : Try.prog.info? 46 with
  | none => rw [hi] at hs; cases hs
  | some i => rw [hi] at hs; simp at hs; simp [sizeOf, typeInfo, hi, hs]
/-- s[p:] of whatever slice of events. -/
theorem run_efrom (A : Option Addr) (n c p : Nat) (h1 : p ≤ n) (W : World) :
    (Instr.slice 22 (.slice A n c) (some (.int .i64 (p : Int))) none none).run Try.prog W = .ok (.slice (if c = p then A else A.map (·.add (p * 14))) (n - p) (c - p)) W := by
  have hel : Try.prog.elem 22 = 46 := by simp [Program.elem, Try.underlying22]
  rw [run_slice_l W 22 A n c (by rw [hel]; exact Try.underlying22) .i64 _ (by omega) (by omega), hel, run_size14]
  simp [sliced]
/-- s[:p] -/
theorem run_eto (A : Option Addr) (n c p : Nat) (h1 : p ≤ c) (W : World) :
    (Instr.slice 22 (.slice A n c) none (some (.int .i64 (p : Int))) none).run Try.prog W = .ok (.slice A p c) W := by
  have hel : Try.prog.elem 22 = 46 := by simp [Program.elem, Try.underlying22]
  rw [run_slice_h W 22 A n c (by rw [hel]; exact Try.underlying22) .i64 _ (by omega) (by omega), hel, run_size14]
  simp [sliced]
  intro _
  cases A <;> simp [Addr.add]
theorem ERds.take {w : World} {S : Nat → Prop} {A : Option Addr} {l : List EvV} (h : ERds w S A l) (k : Nat) : ERds w S A (l.take k) :=
  ⟨by rw [evs_take]; exact h.1.take _, fun e he => h.2 e (List.mem_of_mem_take he)⟩
theorem ERds.from {w : World} {S : Nat → Prop} {A : Option Addr} {l : List EvV} {k c : Nat} (h : ERds w S A l) (hc : l.length ≤ c) : ERds w S (if c = k then A else A.map (·.add (k * 14))) (l.drop k) := by
  refine ⟨fun j u hu => ?_, fun e he => h.2 e (List.mem_of_mem_drop he)⟩
  rw [evs_drop] at hu
  have hl : k * 14 + j < (evs l).length := by
    rcases Nat.lt_or_ge (k * 14 + j) (evs l).length with h1 | h1
    · exact h1
    · rw [List.getElem?_drop, List.getElem?_eq_none h1] at hu; cases hu
  rw [evs_len] at hl
  rw [List.getElem?_drop] at hu
  obtain ⟨ad, rfl, hs, hce⟩ := h.1 _ u hu
  rw [if_neg (by omega)]
  exact ⟨ad.add (k * 14), rfl, by rw [Go.Proofs.Ytodlifbhpgphcaa.M.addBlock]; exact hs, by rw [Go.Proofs.Ytodlifbhpgphcaa.M.addAdd]; exact hce⟩
/-- append onto a row of the call's own, whatever comes behind it, none too. -/
theorem run_eapp' (w : World) (B : Nat) (ty : TypeId) (v : Value) (l : List EvV) (hown : ERow w B v l)
    (S : Nat → Prop) (A : Option Addr) (m c : Nat) (news : List EvV) (hm : news.length = m) (hr : Rds w S A (evs news)) (h63 : l.length + m ≤ 1000000) (hB : B ≤ w.heap.size) :
    ∃ v' w', (Builtin.append_ #[22, 22] ty #[v, .slice A m c]).run Try.prog w = .ok v' w' ∧ ERow w' B v' (l ++ news) ∧ w.grownBy w' v.ownBlock ∧ (v'.ownBlock = v.ownBlock ∨ v'.ownBlock = some w.heap.size) := by
  rcases A with _ | ad
  · obtain ⟨i0, hi, hz0, hz1, hz2⟩ := info_parts Try.rowEvent
    have hn : news = [] := by
      cases news with
      | nil => rfl
      | cons u us => obtain ⟨ad, e, _⟩ := hr 0 _ rfl; cases e
    subst hn
    simp only [List.length_nil] at hm
    subst hm
    refine ⟨v, w, ?_, by simpa using hown, World.grownBy.refl w _, .inl rfl⟩
    rcases hown.2 with ⟨rfl, _⟩ | ⟨g, cap, cur, rfl, _, _, hnc, _⟩
    · simp [Builtin.append_, run_underlying Try.underlying22, sizeOf, typeInfo, hi, Builtin.lenOf, Builtin.firstCells]
    · simp [Builtin.append_, run_underlying Try.underlying22, sizeOf, typeInfo, hi, Builtin.lenOf, Builtin.firstCells, hnc, storeCells]
  · exact run_eapp w B ty v l hown S ad m c news hm hr h63 hB
theorem wpList_eapp' (w : World) {ops : Array Oper} {rest : List Oper} {o : Oper} {a : Act} {Q : Exit → Act → World → Prop} (hgd : o.guard = none) (s x : Operand)
    (ho : o.op = .call { callee := .builtin .append, args := #[s, x], argTypes := #[22, 22] })
    (B : Nat) (v : Value) (l : List EvV) (hs : a.eval s = v) (hown : ERow w B v l)
    (S : Nat → Prop) (A : Option Addr) (m c : Nat) (news : List EvV) (hx : a.eval x = .slice A m c) (hm : news.length = m) (hr : Rds w S A (evs news)) (h63 : l.length + m ≤ 1000000) (hB : B ≤ w.heap.size)
    (h : ∀ v' w', ERow w' B v' (l ++ news) → w.grownBy w' v.ownBlock → (v'.ownBlock = v.ownBlock ∨ v'.ownBlock = some w.heap.size) → wpList Try.prog ops Q rest (a.put o.dst v') w') : wpList Try.prog ops Q (o :: rest) a w := by
  refine wpList_plain hgd fun K hK => ?_
  obtain ⟨v', w', hrun, h2, h3, h4⟩ := run_eapp' w B o.type v l hown S A m c news hm hr h63 hB
  unfold Oper.wp execOp
  simp only [ho, resolve, invoke, builtin, Sem.run_bind, Sem.run_pure, Result.andThen_ok, List.map_toArray, List.map_cons, List.map_nil, hs, hx, hrun]
  exact hK _ _ (h v' w' h2 h3 h4)
/-- An empty literal is a row of the call's own. -/
theorem ERow.lit0 (w : World) : ERow (w.alloc (.cells #[] 46)) w.heap.size (.slice (some ⟨w.heap.size, 0, none⟩) 0 0) [] :=
  World.ownsRow_lit (base := w.heap.size) (e := 46) (size := 14) w #[] 0 (Nat.le_refl _) (by unfold maxLen; omega) (by simp)
/-- More of them. -/
theorem EOwn.app {w w' : World} {S : Nat → Prop} {B : Nat} {v v' : Value} {l m : List EvV} (h : EOwn w S B v l) (h' : ERow w' B v' (l ++ m)) (hg : w.grownBy w' v.ownBlock) (hv : v'.ownBlock = v.ownBlock ∨ v'.ownBlock = some w.heap.size) (he : ∀ e ∈ m, Rds w (fun b => S b ∧ some b ≠ v.ownBlock) e.A (dvs e.M)) : EOwn w' S B v' (l ++ m) := by
  have key : ∀ x : EvV, Rds w (fun b => S b ∧ some b ≠ v.ownBlock) x.A (dvs x.M) → Rds w' (fun b => S b ∧ some b ≠ v'.ownBlock) x.A (dvs x.M) := fun x hx => by
    have h1 := (hx.old.grown hg (fun b hb _ => hb.1.2))
    refine h1.mono fun b hb => ⟨hb.1.1, fun e => ?_⟩
    rcases hv with hv | hv
    · exact hb.1.2 (e.trans hv)
    · rw [hv] at e; injection e with e; have := hb.2; omega
  refine ⟨h', fun x hx => ?_⟩
  rcases List.mem_append.1 hx with h1 | h1
  · exact key x (h.dots x h1)
  · exact key x (he x h1)
/-- s[p:q] as an operation, of a slice of events. -/
theorem run_at {x v : Value} {lo hi mx : Option Value} {W : World} (h : (Instr.slice 22 x lo hi mx).run Try.prog W = .ok v W) : (Instr.sliceAt 22 x lo hi mx).run Try.prog W = .ok v W := by
  unfold Instr.sliceAt
  rw [Sem.run_bind, run_underlying Try.underlying22]
  simpa using h
end Go.Proofs.Ytodlifbhpgphcaa
