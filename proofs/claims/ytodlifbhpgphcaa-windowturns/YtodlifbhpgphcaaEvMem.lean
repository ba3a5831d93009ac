/- Layer 7: events as values: thirteen numbers and a row of dots. | The plain mathematics of layer 7: a right event's numbers may be put. | Layer 7: rows of events: fourteen cells an event, each with a row of dots of its own. | Layer 7: rows of events of the call's own, each event with its dots. | The plain mathematics of layer 7: reading, step by step. | Events as a law's arguments. -/
import Derived.Test.YtodlifbhpgphcaaDotMem
import Derived.Test.YtodlifbhpgphcaaEvMath

section
namespace Go.Proofs.Ytodlifbhpgphcaa
set_option linter.unusedVariables false
set_option linter.unusedSimpArgs false
open Go.ChangeShapes Go.WideShapes Go.ChangeAt Go.RowKit

abbrev ecs (F : Nat → Int) (A : Option Addr) (n c : Nat) : Array Value := #[.int .i64 (F 0), .int .i64 (F 1), .int .i64 (F 2), .int .i64 (F 3), .int .i64 (F 4), .int .i64 (F 5), .int .i64 (F 6), .int .i64 (F 7), .int .i64 (F 8), .int .i64 (F 9), .int .i64 (F 10), .int .i64 (F 11), .int .i64 (F 12), .slice A n c]
abbrev ev (F : Nat → Int) (A : Option Addr) (n c : Nat) : Value := .agg #[.int .i64 (F 0), .int .i64 (F 1), .int .i64 (F 2), .int .i64 (F 3), .int .i64 (F 4), .int .i64 (F 5), .int .i64 (F 6), .int .i64 (F 7), .int .i64 (F 8), .int .i64 (F 9), .int .i64 (F 10), .int .i64 (F 11), .int .i64 (F 12), .slice A n c]
/-- Its policy. -/
abbrev pv (F : Nat → Int) : Value := .agg #[.int .i64 (F 6), .int .i64 (F 7), .int .i64 (F 8), .int .i64 (F 9), .int .i64 (F 10), .int .i64 (F 11), .int .i64 (F 12)]
theorem ecs_at (F : Nat → Int) (A : Option Addr) (n c : Nat) {k : Nat} (hk : k < 13) : (ecs F A n c)[k]? = some (.int .i64 (F k)) := by
  rcases k with _ | _ | _ | _ | _ | _ | _ | _ | _ | _ | _ | _ | _ | k
  all_goals first | rfl | omega
theorem ecs_more (F : Nat → Int) (A A' : Option Addr) (n n' c c' : Nat) : (ecs F A n c).setIfInBounds 13 (.slice A' n' c') = ecs F A' n' c' := by simp
def updE (F : Nat → Int) (k : Nat) (x : Int) : Nat → Int := fun j => if j = k then x else F j
theorem ecs_set (F : Nat → Int) (A : Option Addr) (n c : Nat) {k : Nat} (hk : k < 13) (x : Int) : (ecs F A n c).setIfInBounds k (.int .i64 x) = ecs (updE F k x) A n c := by
  rcases k with _ | _ | _ | _ | _ | _ | _ | _ | _ | _ | _ | _ | _ | k
  all_goals first | omega | simp [updE]
theorem ecs_congr {F G : Nat → Int} (h : ∀ j, j < 13 → F j = G j) (A : Option Addr) (n c : Nat) : ecs F A n c = ecs G A n c := by
  simp [h 0 (by omega), h 1 (by omega), h 2 (by omega), h 3 (by omega), h 4 (by omega), h 5 (by omega), h 6 (by omega), h 7 (by omega), h 8 (by omega), h 9 (by omega), h 10 (by omega), h 11 (by omega), h 12 (by omega)]
theorem ev_congr {F G : Nat → Int} (h : ∀ j, j < 13 → F j = G j) (A : Option Addr) (n c : Nat) : ev F A n c = ev G A n c := congrArg Value.agg (ecs_congr h A n c)
theorem set14 {w : World} {r : Nat} {t : TypeId} {F : Nat → Int} {A : Option Addr} {n c : Nat} (h : Blo w r t (ecs F A n c)) :
    w.cell? ⟨r, 0, none⟩ = some (.int .i64 (F 0)) ∧ w.cell? ⟨r, 1, none⟩ = some (.int .i64 (F 1)) ∧ w.cell? ⟨r, 2, none⟩ = some (.int .i64 (F 2)) ∧ w.cell? ⟨r, 3, none⟩ = some (.int .i64 (F 3)) ∧ w.cell? ⟨r, 4, none⟩ = some (.int .i64 (F 4)) ∧ w.cell? ⟨r, 5, none⟩ = some (.int .i64 (F 5)) ∧ w.cell? ⟨r, 6, none⟩ = some (.int .i64 (F 6)) ∧
      w.cell? ⟨r, 7, none⟩ = some (.int .i64 (F 7)) ∧ w.cell? ⟨r, 8, none⟩ = some (.int .i64 (F 8)) ∧ w.cell? ⟨r, 9, none⟩ = some (.int .i64 (F 9)) ∧ w.cell? ⟨r, 10, none⟩ = some (.int .i64 (F 10)) ∧ w.cell? ⟨r, 11, none⟩ = some (.int .i64 (F 11)) ∧ w.cell? ⟨r, 12, none⟩ = some (.int .i64 (F 12)) ∧ w.cell? ⟨r, 13, none⟩ = some (.slice A n c) :=
  ⟨by simpa using h.cell 0, by simpa using h.cell 1, by simpa using h.cell 2, by simpa using h.cell 3, by simpa using h.cell 4, by simpa using h.cell 5, by simpa using h.cell 6, by simpa using h.cell 7, by simpa using h.cell 8, by simpa using h.cell 9, by simpa using h.cell 10, by simpa using h.cell 11, by simpa using h.cell 12, by simpa using h.cell 13⟩
theorem Try.sizeEvent : (Try.prog.info? 46).map (·.size) = some 14 := by kernel_rfl
theorem run_sete (w : World) (r : Nat) (cs : Array Value) (hB : Blo w r 46 cs) (hs : cs.size = 14) (F : Nat → Int) (A : Option Addr) (n c : Nat) :
    ∃ W, (Instr.storeAt 46 (.pointer (some ⟨r, 0, none⟩)) (ev F A n c)).run Try.prog w = .ok () W ∧ Blo W r 46 (ecs F A n c) ∧ w.grownBy W (some r) := by
  obtain ⟨i0, hi, hz1⟩ : ∃ i, Try.prog.info? 46 = some i ∧ i.size = 14 := by
    have := Try.sizeEvent
    cases h : Try.prog.info? 46 with
    | none => rw [h] at this; cases this
    | some i => rw [h] at this; exact ⟨i, rfl, by simpa using this⟩
  have h1 := run_storeCells_at (P := Try.prog) r 0 46 (ecs F A n c).toList 0 cs w hB (by simp; omega) (by
    intro v hv
    simp at hv
    rcases hv with rfl | rfl | rfl | rfl | rfl | rfl | rfl | rfl | rfl | rfl | rfl | rfl | rfl | rfl <;> rfl)
  have hd : cs.toList.drop 14 = [] := List.drop_eq_nil_of_le (by simp; omega)
  have e : (cs.toList.take (0 + 0) ++ (ecs F A n c).toList ++ cs.toList.drop (0 + 0 + (ecs F A n c).toList.length)).toArray = ecs F A n c := by simp [hd]
  rw [e] at h1
  refine ⟨_, ?_, setRow_heap w r cs _ 46 _ hB, ⟨rfl, rfl, rfl, by simp, fun k _ hk => setRow_other w r k _ (fun e => hk (by rw [e]))⟩⟩
  rw [← h1]
  simp [Instr.storeAt, Instr.sureAddr, storeVar, sizeOf, typeInfo, hi, hz1, Value.cells]
theorem wpList_sete (w : World) {ops : Array Oper} {rest : List Oper} {o : Oper} {a : Act} {Q : Exit → Act → World → Prop} (hgd : o.guard = none) (x y : Operand) (ho : o.op = .store 46 x y)
    (r : Nat) (cs : Array Value) (hx : a.eval x = .pointer (some ⟨r, 0, none⟩)) (F : Nat → Int) (A : Option Addr) (n c : Nat) (hy : a.eval y = ev F A n c) (hB : Blo w r 46 cs) (hs : cs.size = 14)
    (h : ∀ W, Blo W r 46 (ecs F A n c) → w.grownBy W (some r) → wpList Try.prog ops Q rest (a.put o.dst undef) W) : wpList Try.prog ops Q (o :: rest) a w := by
  refine wpList_plain hgd fun K hK => ?_
  obtain ⟨W, hrun, h2, h3⟩ := run_sete w r cs hB hs F A n c
  unfold Oper.wp execOp
  simp only [ho, hx, hy, Sem.run_bind, Sem.run_pure, Result.andThen_ok, hrun]
  exact hK _ _ (h W h2 h3)
end Go.Proofs.Ytodlifbhpgphcaa
end

section
namespace Go.Proofs.Ytodlifbhpgphcaa
set_option linter.unusedVariables false
set_option linter.unusedSimpArgs false
open Go.ChangeShapes Go.WideShapes Go.ChangeAt Go.RowKit

theorem nums_in {F : Nat → Int} {M : List D.Dot} (h : E.right F M = true) : ∀ n ∈ E.nums F M, 0 ≤ n ∧ n ≤ 1099511627776 := by
  obtain ⟨hm, ⟨h2, h2', h4, h4'⟩, hl, hr, hk⟩ := E.right_parts h
  have hm' := D.may_iff.1 hm
  have hM := E.rems_may hr
  simp only at hm'
  have hMn : ∀ n ∈ E.numM M, 0 ≤ n ∧ n ≤ 1099511627776 := fun n hn => by
    unfold E.numM at hn
    obtain ⟨d, hd, hn⟩ := List.mem_flatMap.1 hn
    have := D.may_iff.1 (hM d hd)
    simp at hn
    rcases hn with rfl | rfl <;> omega
  unfold E.kindOk at hk
  intro n hn
  unfold E.nums E.numP at hn
  split at hk
  · next k1 =>
    rw [if_pos k1] at hn
    simp only [Bool.and_eq_true, decide_eq_true_eq] at hk
    simp at hn
    rcases hn with rfl | rfl | rfl | rfl | rfl | rfl <;> omega
  · next k1 =>
    rw [if_neg k1] at hn
    split at hk
    · next k2 =>
      rw [if_pos k2] at hn
      simp only [Bool.and_eq_true, decide_eq_true_eq, E.rp] at hk
      simp at hn
      rcases hn with rfl | rfl | rfl | rfl | rfl | rfl | rfl | rfl | rfl | rfl | rfl | rfl | rfl | hn
      all_goals first | omega | exact hMn n hn
    · next k2 =>
      rw [if_neg k2] at hn
      split at hk
      · simp at hn
        rcases hn with rfl | rfl | rfl | rfl | rfl | rfl | hn
        all_goals first | omega | exact hMn n hn
      · cases hk
theorem nums_len {F : Nat → Int} {M : List D.Dot} (h : M.length ≤ 96) : (E.nums F M).length ≤ 300 := by
  have : (E.numM M).length = 2 * M.length := by
    clear h
    induction M with
    | nil => rfl
    | cons d M ih => simp [E.numM] at ih ⊢; omega
  unfold E.nums E.numP
  split
  · simp
  · split <;> simp [this] <;> omega
/-- A call answers bytes of its own, and an error's number. -/
def BytesPost7 (l : List Int) (x : Int) (w : World) (e : Ending) (w' : World) : Prop :=
  ∃ A N c, e = .returned (.tuple #[.slice A N c, .int .i64 x]) ∧ N = l.length ∧ w'.ownsRow w.heap.size 5 1 (.slice A N c) N (u8s l) ∧ Below w.heap.size w w'
end Go.Proofs.Ytodlifbhpgphcaa
end

section
namespace Go.Proofs.Ytodlifbhpgphcaa
set_option linter.unusedVariables false
set_option linter.unusedSimpArgs false
open Go.ChangeShapes Go.WideShapes Go.ChangeAt Go.RowKit

/-- An event in memory: its numbers, its dots, where these lie. -/
structure EvV where
  F : Nat → Int
  M : List D.Dot
  A : Option Addr
  c : Nat
abbrev EvV.cells (e : EvV) : Array Value := ecs e.F e.A e.M.length e.c
abbrev EvV.val (e : EvV) : Value := ev e.F e.A e.M.length e.c
def evs : List EvV → List Value
  | [] => []
  | e :: l => e.cells.toList ++ evs l
theorem evs_len (l : List EvV) : (evs l).length = l.length * 14 := by
  induction l with
  | nil => rfl
  | cons e l ih => simp [evs, ih]; omega
theorem evs_app (l m : List EvV) : evs (l ++ m) = evs l ++ evs m := by
  induction l with
  | nil => rfl
  | cons e l ih => simp [evs, ih]
theorem evs_at : ∀ (l : List EvV) (i : Nat) (hi : i < l.length) (k : Nat), k < 14 → (evs l)[i * 14 + k]? = l[i].cells[k]? := by
  intro l
  induction l with
  | nil => intro i hi; simp at hi
  | cons e l ih =>
    intro i hi k hk
    cases i with
    | zero =>
      have : (evs (e :: l))[0 * 14 + k]? = (e.cells.toList ++ evs l)[k]? := by rw [show 0 * 14 + k = k by omega]; rfl
      rw [this, List.getElem?_append_left (by simp; omega)]
      simp
    | succ i =>
      have := ih i (by simpa using hi) k hk
      have e1 : (evs (e :: l))[(i + 1) * 14 + k]? = (e.cells.toList ++ evs l)[14 + (i * 14 + k)]? := by rw [show (i + 1) * 14 + k = 14 + (i * 14 + k) by omega]; rfl
      rw [e1, List.getElem?_append_right (by simp)]
      simpa using this
/-- A slice that reads as these events, each with its dots. -/
def ERds (w : World) (S : Nat → Prop) (A : Option Addr) (l : List EvV) : Prop := Rds w S A (evs l) ∧ ∀ e ∈ l, Rds w S e.A (dvs e.M)
theorem ERds.new {w w' : World} {S : Nat → Prop} {A : Option Addr} {l : List EvV} (h : ERds w S A l) (hb : Below w.heap.size w w') : ERds w' S A l := ⟨h.1.new hb, fun e he => (h.2 e he).new hb⟩
/-- The event at i. -/
theorem ERds.ev {w : World} {S : Nat → Prop} {A : Option Addr} {l : List EvV} (h : ERds w S A l) {i : Nat} (hi : i < l.length) :
    ∃ ad, A = some ad ∧ S ad.block ∧ w.cell? (ad.add (i * 14)) = some (.int .i64 (l[i].F 0)) ∧ (∀ k v, 0 < k → l[i].cells[k]? = some v → w.cell? ⟨(ad.add (i * 14)).block, (ad.add (i * 14)).off + k, none⟩ = some v) ∧ Rds w S l[i].A (dvs l[i].M) := by
  have h0 := evs_at l i hi 0 (by omega)
  rw [Nat.add_zero] at h0
  obtain ⟨ad, rfl, hs, hc⟩ := h.1 _ _ (h0.trans (by simp : l[i].cells[0]? = some (.int .i64 (l[i].F 0))))
  refine ⟨ad, rfl, hs, hc, fun k v hk hv => ?_, h.2 _ (List.getElem_mem hi)⟩
  have hk14 : k < 14 := by
    rcases Nat.lt_or_ge k 14 with h | h
    · exact h
    · rw [Array.getElem?_eq_none (by simpa using h)] at hv; cases hv
  obtain ⟨ad', e, _, hc'⟩ := h.1 _ _ ((evs_at l i hi k hk14).trans hv)
  injection e with e
  subst e
  rw [← M.addOff _ _ _ hk]
  exact hc'
/-- The same, cell by cell. -/
theorem ERds.cells {w : World} {S : Nat → Prop} {A : Option Addr} {l : List EvV} (h : ERds w S A l) {i : Nat} (hi : i < l.length) :
    ∃ ad, A = some ad ∧ S ad.block ∧ Rds w S l[i].A (dvs l[i].M) ∧ w.cell? (ad.add (i * 14)) = some (.int .i64 (l[i].F 0)) ∧ w.cell? ⟨(ad.add (i * 14)).block, (ad.add (i * 14)).off + 1, none⟩ = some (.int .i64 (l[i].F 1)) ∧ w.cell? ⟨(ad.add (i * 14)).block, (ad.add (i * 14)).off + 2, none⟩ = some (.int .i64 (l[i].F 2)) ∧ w.cell? ⟨(ad.add (i * 14)).block, (ad.add (i * 14)).off + 3, none⟩ = some (.int .i64 (l[i].F 3)) ∧ w.cell? ⟨(ad.add (i * 14)).block, (ad.add (i * 14)).off + 4, none⟩ = some (.int .i64 (l[i].F 4)) ∧ w.cell? ⟨(ad.add (i * 14)).block, (ad.add (i * 14)).off + 5, none⟩ = some (.int .i64 (l[i].F 5)) ∧ w.cell? ⟨(ad.add (i * 14)).block, (ad.add (i * 14)).off + 6, none⟩ = some (.int .i64 (l[i].F 6)) ∧ w.cell? ⟨(ad.add (i * 14)).block, (ad.add (i * 14)).off + 7, none⟩ = some (.int .i64 (l[i].F 7)) ∧ w.cell? ⟨(ad.add (i * 14)).block, (ad.add (i * 14)).off + 8, none⟩ = some (.int .i64 (l[i].F 8)) ∧ w.cell? ⟨(ad.add (i * 14)).block, (ad.add (i * 14)).off + 9, none⟩ = some (.int .i64 (l[i].F 9)) ∧ w.cell? ⟨(ad.add (i * 14)).block, (ad.add (i * 14)).off + 10, none⟩ = some (.int .i64 (l[i].F 10)) ∧ w.cell? ⟨(ad.add (i * 14)).block, (ad.add (i * 14)).off + 11, none⟩ = some (.int .i64 (l[i].F 11)) ∧ w.cell? ⟨(ad.add (i * 14)).block, (ad.add (i * 14)).off + 12, none⟩ = some (.int .i64 (l[i].F 12)) ∧ w.cell? ⟨(ad.add (i * 14)).block, (ad.add (i * 14)).off + 13, none⟩ = some (.slice l[i].A l[i].M.length l[i].c) := by
  obtain ⟨ad, e, hs, h0, hk, hr⟩ := h.ev hi
  exact ⟨ad, e, hs, hr, h0, hk 1 _ (by omega) rfl, hk 2 _ (by omega) rfl, hk 3 _ (by omega) rfl, hk 4 _ (by omega) rfl, hk 5 _ (by omega) rfl, hk 6 _ (by omega) rfl, hk 7 _ (by omega) rfl, hk 8 _ (by omega) rfl, hk 9 _ (by omega) rfl, hk 10 _ (by omega) rfl, hk 11 _ (by omega) rfl, hk 12 _ (by omega) rfl, hk 13 _ (by omega) rfl⟩
theorem ERds.below {w w' : World} {S : Nat → Prop} {A : Option Addr} {l : List EvV} {B : Nat} (h : ERds w S A l) (hb : Below B w w') (hS : ∀ b, S b → b < w.heap.size → b < B) : ERds w' S A l := ⟨h.1.below hb hS, fun e he => (h.2 e he).below hb hS⟩
theorem ERds.mono {w : World} {S S' : Nat → Prop} {A : Option Addr} {l : List EvV} (h : ERds w S A l) (hS : ∀ b, S b → S' b) : ERds w S' A l := ⟨h.1.mono hS, fun e he => (h.2 e he).mono hS⟩
theorem ERds.old {w : World} {S : Nat → Prop} {A : Option Addr} {l : List EvV} (h : ERds w S A l) : ERds w (fun b => S b ∧ b < w.heap.size) A l := ⟨h.1.old, fun e he => (h.2 e he).old⟩
end Go.Proofs.Ytodlifbhpgphcaa
end

section
namespace Go.Proofs.Ytodlifbhpgphcaa
set_option linter.unusedVariables false
set_option linter.unusedSimpArgs false
open Go.ChangeShapes Go.WideShapes Go.ChangeAt Go.RowKit

theorem evs_one : ∀ (l : List EvV), ∀ u ∈ evs l, u.oneCell' = true := by
  intro l
  induction l with
  | nil => intro u hu; simp [evs] at hu
  | cons e l ih =>
    intro u hu
    simp only [evs, List.mem_append] at hu
    rcases hu with hu | hu
    · simp at hu
      rcases hu with rfl | rfl | rfl | rfl | rfl | rfl | rfl | rfl | rfl | rfl | rfl | rfl | rfl | rfl <;> rfl
    · exact ih u hu
theorem Try.rowEvent : (Try.prog.info? 46).map (fun i => (i.zero, i.size, i.bytes)) = some (some (.agg (ecs (fun _ => 0) none 0 0)), 14, 128) := by kernel_rfl

/-- A row of events of the call's own. -/
def ERow (w : World) (B : Nat) (v : Value) (l : List EvV) : Prop := w.ownsRow B 46 14 v l.length (evs l)
section
variable {w w' : World} {B B' : Nat} {v : Value} {l : List EvV} {A : Option Addr} {n c : Nat}
theorem ERow.nil (w : World) (B : Nat) : ERow w B (.slice none 0 0) [] := World.ownsRow_nil _ _ _ _
theorem ERow.form (h : ERow w B v l) : ∃ A c, v = .slice A l.length c ∧ l.length ≤ c ∧ c ≤ maxLen ∧ (A = none → l = [] ∧ c = 0) := by
  rcases h.2 with ⟨rfl, h0⟩ | ⟨g, cap, cur, rfl, _, _, hn, hm, _⟩
  · have : l = [] := List.eq_nil_of_length_eq_zero h0
    subst this
    exact ⟨none, 0, rfl, Nat.le_refl _, by unfold maxLen; omega, fun _ => ⟨rfl, rfl⟩⟩
  · exact ⟨_, cap, rfl, hn, hm, fun h => by cases h⟩
theorem ERow.rds (h : ERow w B (.slice A n c) l) : Rds w (fun b => B ≤ b ∧ (Value.slice A n c).ownBlock = some b) A (evs l) := by
  intro j u hu
  rcases h.2 with ⟨e, h0⟩ | ⟨g, cap, cur, e, hb, _, _, _⟩
  · have : l = [] := List.eq_nil_of_length_eq_zero h0
    subst this; simp [evs] at hu
  · injection e with e1 e2 e3
    subst e1; subst e3; subst e2
    exact ⟨_, rfl, ⟨hb, rfl⟩, World.ownsRow.cells h (g := g) rfl j u hu⟩
theorem ERow.mono (h : ERow w B v l) (hb : B' ≤ B) : ERow w B' v l := by
  obtain ⟨h1, h2⟩ := h
  refine ⟨h1, ?_⟩
  rcases h2 with h2 | ⟨g, cap, cur, e, hg, r⟩
  · exact .inl h2
  · exact .inr ⟨g, cap, cur, e, Nat.le_trans hb hg, r⟩
theorem ERow.lt (h : ERow w B v l) : ∀ g, v.ownBlock = some g → B ≤ g ∧ g < w.heap.size := World.ownsRow.lt h
theorem ERow.keep (h : ERow w B v l) (hk : ∀ g, v.ownBlock = some g → g < w.heap.size → w'.heap[g]? = w.heap[g]?) : ERow w' B v l := by
  have hlt := h.lt
  obtain ⟨h1, h2⟩ := h
  refine ⟨h1, ?_⟩
  rcases h2 with h2 | ⟨g, cap, cur, e, hg, hh, r⟩
  · exact .inl h2
  · subst e
    exact .inr ⟨g, cap, cur, rfl, hg, (hk g rfl (hlt g rfl).2).trans hh, r⟩
theorem ERow.blo {g : Nat} {t : TypeId} {cs : Array Value} (h : ERow w B v l) (h' : Blo w g t cs) (hne : 46 ≠ t) : v.ownBlock ≠ some g := by
  rcases h.2 with ⟨rfl, _⟩ | ⟨k, cap, cur, rfl, _, hh, _⟩
  · simp [Value.ownBlock]
  · intro e
    injection e with e
    exact Blo.typeNe (t := 46) (t' := t) hh h' hne e
/-- Dots lie apart from events. -/
theorem ERow.dots {B2 : Nat} {v2 : Value} {M : List D.Dot} (h : ERow w B v l) (h' : DRow w B2 v2 M) : ∀ b, v2.ownBlock = some b → some b ≠ v.ownBlock := by
  intro b hb e
  rcases h.2 with ⟨rfl, _⟩ | ⟨k, cap, cur, rfl, _, hh, _⟩
  · simp [Value.ownBlock] at e
  · simp only [Value.ownBlock, Option.some.injEq] at e
    subst e
    exact h'.blo hh (by decide) hb
end

/-- append onto a row of events of the call's own, from whatever slice that reads as news. -/
theorem run_eapp (w : World) (B : Nat) (ty : TypeId) (v : Value) (l : List EvV) (hown : ERow w B v l)
    (S : Nat → Prop) (ad : Addr) (m c : Nat) (news : List EvV) (hm : news.length = m) (hr : Rds w S (some ad) (evs news)) (h63 : l.length + m ≤ 1000000) (hB : B ≤ w.heap.size) :
    ∃ v' w', (Builtin.append_ #[22, 22] ty #[v, .slice (some ad) m c]).run Try.prog w = .ok v' w' ∧ ERow w' B v' (l ++ news) ∧ w.grownBy w' v.ownBlock ∧ (v'.ownBlock = v.ownBlock ∨ v'.ownBlock = some w.heap.size) := by
  obtain ⟨i0, hi, hz0, hz1, hz2⟩ := info_parts Try.rowEvent
  subst hm
  obtain ⟨v', w', hrun, h2, h3, _, h5⟩ := run_append_own_at (P := Try.prog) w B 22 ty 46 i0 _ 14 128 Try.underlying22 hi hz0 hz1 hz2 rfl (by decide) v l.length (evs l) hown ad news.length c (evs news) (evs_len _) hr.addr (evs_one _) (by unfold maxLen; omega) (by omega) hB
  refine ⟨v', w', hrun, ?_, h3, h5⟩
  unfold ERow
  rw [evs_app, List.length_append]
  exact h2
theorem wpList_eapp (w : World) {ops : Array Oper} {rest : List Oper} {o : Oper} {a : Act} {Q : Exit → Act → World → Prop} (hgd : o.guard = none) (s x : Operand)
    (ho : o.op = .call { callee := .builtin .append, args := #[s, x], argTypes := #[22, 22] })
    (B : Nat) (v : Value) (l : List EvV) (hs : a.eval s = v) (hown : ERow w B v l)
    (S : Nat → Prop) (ad : Addr) (m c : Nat) (news : List EvV) (hx : a.eval x = .slice (some ad) m c) (hm : news.length = m) (hr : Rds w S (some ad) (evs news)) (h63 : l.length + m ≤ 1000000) (hB : B ≤ w.heap.size)
    (h : ∀ v' w', ERow w' B v' (l ++ news) → w.grownBy w' v.ownBlock → (v'.ownBlock = v.ownBlock ∨ v'.ownBlock = some w.heap.size) → wpList Try.prog ops Q rest (a.put o.dst v') w') : wpList Try.prog ops Q (o :: rest) a w := by
  refine wpList_plain hgd fun K hK => ?_
  obtain ⟨v', w', hrun, h2, h3, h4⟩ := run_eapp w B o.type v l hown S ad m c news hm hr h63 hB
  unfold Oper.wp execOp
  simp only [ho, resolve, invoke, builtin, Sem.run_bind, Sem.run_pure, Result.andThen_ok, List.map_toArray, List.map_cons, List.map_nil, hs, hx, hrun]
  exact hK _ _ (h v' w' h2 h3 h4)
/-- A row of one event, just made. -/
theorem blo_ers {w : World} {g : Nat} {t : TypeId} (e : EvV) (h : Blo w g t e.cells) : Rds w (fun _ => True) (some ⟨g, 0, none⟩) (evs [e]) := by
  intro j u hu
  have hj : j < 14 := by
    rcases Nat.lt_or_ge j 14 with h1 | h1
    · exact h1
    · rw [List.getElem?_eq_none (by rw [evs_len]; simpa using h1)] at hu; cases hu
  have h1 := evs_at [e] 0 (by simp) j hj
  rw [show 0 * 14 + j = j by omega] at h1
  rw [hu] at h1
  exact ⟨_, rfl, trivial, by rw [M.addMk, Nat.zero_add, h.cell j]; exact h1.symm⟩

/-- A row of events of the call's own, with dots in blocks of S, none in the row itself. -/
structure EOwn (w : World) (S : Nat → Prop) (B : Nat) (v : Value) (l : List EvV) : Prop where
  row : ERow w B v l
  dots : ∀ e ∈ l, Rds w (fun b => S b ∧ some b ≠ v.ownBlock) e.A (dvs e.M)
section
variable {w w' : World} {S S' : Nat → Prop} {B B' : Nat} {v : Value} {l : List EvV} {A : Option Addr} {n c : Nat}
theorem EOwn.nil (w : World) (S : Nat → Prop) (B : Nat) : EOwn w S B (.slice none 0 0) [] := ⟨ERow.nil _ _, fun e he => by cases he⟩
theorem EOwn.keep (h : EOwn w S B v l) (hk : ∀ b, B ≤ b ∨ S b → b < w.heap.size → w'.heap[b]? = w.heap[b]?) : EOwn w' S B v l :=
  ⟨h.row.keep fun g hg hl => hk g (.inl (h.row.lt g hg).1) hl, fun e he => (h.dots e he).keep fun b hb hl => hk b (.inr hb.1) hl⟩
theorem EOwn.new (h : EOwn w S B v l) (hb : Below w.heap.size w w') : EOwn w' S B v l := h.keep fun b _ hl => hb.block b hl
theorem EOwn.mono (h : EOwn w S B v l) (hb : B' ≤ B) (hS : ∀ b, S b → S' b) : EOwn w S' B' v l := ⟨h.row.mono hb, fun e he => (h.dots e he).mono fun b hb => ⟨hS b hb.1, hb.2⟩⟩
theorem EOwn.erds (h : EOwn w S B (.slice A n c) l) : ERds w (fun _ => True) A l := ⟨h.row.rds.mono fun _ _ => trivial, fun e he => (h.dots e he).mono fun _ _ => trivial⟩
theorem EOwn.erdsS (h : EOwn w S B (.slice A n c) l) : ERds w (fun b => B ≤ b ∨ S b) A l := ⟨h.row.rds.mono fun _ hb => .inl hb.1, fun e he => (h.dots e he).mono fun _ hb => .inr hb.1⟩
/-- One more. -/
theorem EOwn.snoc {v' : Value} {e : EvV} (h : EOwn w S B v l) (h' : ERow w' B v' (l ++ [e])) (hg : w.grownBy w' v.ownBlock) (hv : v'.ownBlock = v.ownBlock ∨ v'.ownBlock = some w.heap.size) (he : Rds w (fun b => S b ∧ some b ≠ v.ownBlock) e.A (dvs e.M)) : EOwn w' S B v' (l ++ [e]) := by
  have key : ∀ x : EvV, Rds w (fun b => S b ∧ some b ≠ v.ownBlock) x.A (dvs x.M) → Rds w' (fun b => S b ∧ some b ≠ v'.ownBlock) x.A (dvs x.M) := fun x hx => by
    have h1 := (hx.old.grown hg (fun b hb _ => hb.1.2))
    refine h1.mono fun b hb => ⟨hb.1.1, fun e => ?_⟩
    rcases hv with hv | hv
    · exact hb.1.2 (e.trans hv)
    · rw [hv] at e; injection e with e; have := hb.2; omega
  refine ⟨h', fun x hx => ?_⟩
  rcases List.mem_append.1 hx with h1 | h1
  · exact key x (h.dots x h1)
  · simp at h1; subst h1; exact key _ he
end
/-- The dots of a row's own are apart from the events. -/
theorem EOwn.apart {w : World} {S : Nat → Prop} {B B2 : Nat} {v : Value} {l : List EvV} {A : Option Addr} {n c : Nat} {M : List D.Dot} (h : EOwn w S B v l) (hD : DRow w B2 (.slice A n c) M) (hS : ∀ b, B2 ≤ b → S b) : Rds w (fun b => S b ∧ some b ≠ v.ownBlock) A (dvs M) :=
  hD.rds.mono fun b hb => ⟨hS b hb.1, h.row.dots hD b hb.2⟩
/-- The events of a list, as plain numbers. -/
def plain (l : List EvV) : List E.Ev := l.map fun e => (e.F, e.M)
theorem plain_len (l : List EvV) : (plain l).length = l.length := by simp [plain]
theorem plain_app (l m : List EvV) : plain (l ++ m) = plain l ++ plain m := by simp [plain]
end Go.Proofs.Ytodlifbhpgphcaa
end

section
namespace Go.Proofs.Ytodlifbhpgphcaa
set_option linter.unusedVariables false
set_option linter.unusedSimpArgs false
open Go.ChangeShapes Go.WideShapes Go.ChangeAt Go.RowKit

/-- The loop over what is removed: what was read so far, and what the rest comes to. -/
def Sof (R : List D.Dot × D.St) (n : Nat) (M : List D.Dot) (st : D.St) : Prop := R = (M ++ (D.rdM (n - M.length) st).1, (D.rdM (n - M.length) st).2)
theorem Sof.start {R : List D.Dot × D.St} {n : Nat} {st : D.St} (h : R = D.rdM n st) : Sof R n [] st := by unfold Sof; rw [h]; simp
theorem Sof.more {R : List D.Dot × D.St} {n : Nat} {M : List D.Dot} {st : D.St} (h : Sof R n M st) (hs : st.2 = 0) (hl : M.length < n) : Sof R n (M ++ [((D.nxt st).1, (D.nxt (D.nxt st).2).1)]) (D.nxt (D.nxt st).2).2 := by
  unfold Sof at *
  rw [show n - M.length = (n - (M ++ [((D.nxt st).1, (D.nxt (D.nxt st).2).1)]).length) + 1 by simp; omega, D.rdM_more hs] at h
  rw [h]
  simp
theorem Sof.done {R : List D.Dot × D.St} {n : Nat} {M : List D.Dot} {st : D.St} (h : Sof R n M st) (hl : ¬ M.length < n) : R = (M, st) := by
  unfold Sof at h
  rw [show n - M.length = 0 by omega] at h
  simpa [D.rdM] using h
theorem Sof.bad {R : List D.Dot × D.St} {n : Nat} {M : List D.Dot} {st : D.St} (h : Sof R n M st) (hs : st.2 ≠ 0) : R = (M, st) := by
  unfold Sof at h
  rw [D.rdM_bad hs] at h
  simpa using h
theorem cutS_ok {n : Int} {s : D.St} (h : (E.cutS n s).2 = 0) : n ≤ 96 := by
  unfold E.cutS at h
  split at h
  · exact absurd h (D.failS_ne (by omega) _)
  · omega

/-! how reading goes on behind a fault -/
theorem nxt_err {s : D.St} (h : s.2 ≠ 0) : (D.nxt s).2 = s := by rw [D.nxt_bad h]
theorem itS_err {s : D.St} {k : Nat} (h : (E.itS s k).2 ≠ 0) : ∀ j, E.itS s (k + j) = E.itS s k
  | 0 => rfl
  | j + 1 => by
    have := itS_err h j
    show (D.nxt (E.itS s (k + j))).2 = _
    rw [this, nxt_err h]
theorem itS_err' {s : D.St} {k m : Nat} (h : (E.itS s k).2 ≠ 0) (hm : k ≤ m) : E.itS s m = E.itS s k := by
  have := itS_err h (m - k)
  rwa [show k + (m - k) = m by omega] at this
theorem cutS_err {n : Int} {s : D.St} (h : s.2 ≠ 0) : E.cutS n s = s := by
  unfold E.cutS D.failS
  simp [h]
theorem rem_err {n : Nat} {N : Int} {s : D.St} (h : s.2 ≠ 0) : D.rdM n (E.cutS N s) = ([], s) := by rw [cutS_err h, D.rdM_bad h]
theorem rem_long {n : Nat} {N : Int} {s : D.St} (h : s.2 = 0) (hN : 96 < N) : D.rdM n (E.cutS N s) = ([], (s.1, 6)) := by
  have e : E.cutS N s = (s.1, 6) := by unfold E.cutS D.failS; rw [if_pos hN, if_pos h]
  rw [e, D.rdM_bad (by simp)]
theorem rem_ok {N : Int} {s : D.St} (hN : ¬ 96 < N) : E.cutS N s = s := by unfold E.cutS; rw [if_neg hN]
theorem rdL_errS {st : D.St} {k : Nat} (h : (E.itS (E.s4 st) k).2 ≠ 0) (hk : k ≤ if E.itV st 3 = 1 then 2 else 2 + E.nP (E.itV st 3)) : E.rdL st = ([], E.itS (E.s4 st) k) := by
  unfold E.rdL
  by_cases h1 : E.itV st 3 = 1
  · rw [if_pos h1] at hk ⊢
    rw [itS_err' h hk]
  · rw [if_neg h1] at hk ⊢
    rw [itS_err' h hk, rem_err h]
theorem rdL_err4 {st : D.St} {k : Nat} (h : (E.itS st k).2 ≠ 0) (hk : k ≤ 4) : E.rdL st = ([], E.itS st k) := by
  have e4 : E.itS st 4 = E.itS st k := itS_err' h hk
  have es : E.s4 st = E.itS st k := by
    unfold E.s4 E.kindS
    rw [e4, if_neg (fun hh => h hh.1)]
  have := rdL_errS (st := st) (k := 0) (by show (E.s4 st).2 ≠ 0; rw [es]; exact h) (Nat.zero_le _)
  rw [this]
  show ([], E.s4 st) = _
  rw [es]
theorem s4_good {st : D.St} (h : (E.itS st 4).2 = 0) (hk : E.itV st 3 = 1 ∨ E.itV st 3 = 2 ∨ E.itV st 3 = 3) : E.s4 st = E.itS st 4 := by
  unfold E.s4 E.kindS
  rw [if_neg (by rintro ⟨_, h | h⟩ <;> omega)]
theorem s4_bad {st : D.St} (h : (E.itS st 4).2 = 0) (hk : ¬ (E.itV st 3 = 1 ∨ E.itV st 3 = 2 ∨ E.itV st 3 = 3)) : (E.rdL st).2.2 = 4 := by
  have es : E.s4 st = ((E.itS st 4).1, 4) := by
    unfold E.s4 E.kindS
    rw [if_pos ⟨h, by omega⟩]
  rw [rdL_errS (st := st) (k := 0) (by show (E.s4 st).2 ≠ 0; rw [es]; simp) (Nat.zero_le _)]
  show (E.s4 st).2 = 4
  rw [es]
theorem rdL_len (s : D.St) : (E.rdL s).1.length ≤ 96 := by
  unfold E.rdL
  split
  · simp
  · by_cases h : (E.cutS (E.rdN s) (E.itS (E.s4 s) (2 + E.nP (E.itV s 3)))).2 = 0
    · have h1 := cutS_ok h
      have h2 := D.rdM_len (E.rdN s).toNat (E.cutS (E.rdN s) (E.itS (E.s4 s) (2 + E.nP (E.itV s 3))))
      omega
    · rw [D.rdM_bad h]; simp
/-- A number that was read is none below 0. -/
theorem nxt_pos {s : D.St} (hB : ∀ b ∈ s.1, 0 ≤ b ∧ b < 256) : 0 ≤ (D.nxt s).1 := by
  by_cases h : (D.nxt s).2.2 = 0
  · exact (D.nxt_back hB h).2.1
  · by_cases hs : s.2 = 0
    · have e : D.nxt s = ((V.int s.1).1, s.1.drop (V.int s.1).2.1, (V.int s.1).2.2) := by unfold D.nxt V.intS; rw [if_pos hs]
      rw [e] at h ⊢
      simp only at h ⊢
      rw [(V.int_bad _ h).1]
      exact Int.le_refl _
    · rw [D.nxt_bad hs]; exact Int.le_refl _
/-- What Get answers. -/
def GetPost7 (L : List Int) (w : World) (e : Ending) (w' : World) : Prop :=
  ∃ A c, e = .returned (.tuple #[ev (E.getF L) A (E.getM L).length c, .int .i64 (E.gE L)]) ∧ DRow w' w.heap.size (.slice A (E.getM L).length c) (E.getM L) ∧ Below w.heap.size w w'
/-- How an event's bytes end. -/
theorem gE_of_bad {L : List Int} (h : (E.stp (L, 0)).2 ≠ 0) : E.gE L = (E.stp (L, 0)).2 := by
  unfold E.stp at h ⊢
  unfold E.gE
  by_cases h1 : (E.rdL (L, 0)).2.2 = 0
  · by_cases h2 : E.right (E.rdF (L, 0)) (E.rdL (L, 0)).1 = false
    · rw [if_pos h1, if_pos (.inr h2), if_pos ⟨h1, h2⟩]
    · rw [if_neg (fun hh => h2 hh.2)] at h
      exact absurd h1 h
  · rw [if_neg h1, if_neg (fun hh => h1 hh.1)]
theorem gE_of_good {L : List Int} (h : E.stp (L, 0) = (E.rdL (L, 0)).2) (h0 : (E.stp (L, 0)).2 = 0) (hr : E.right (E.rdF (L, 0)) (E.rdL (L, 0)).1 = true) : E.gE L = if (E.stp (L, 0)).1 = [] then 0 else 4 := by
  rw [h] at h0 ⊢
  unfold E.gE
  rw [if_pos h0]
  by_cases hl : (E.rdL (L, 0)).2.1 = []
  · rw [if_pos hl, if_neg (by rintro (h1 | h1); · exact h1 hl
                              · rw [hr] at h1; cases h1)]
  · rw [if_neg hl, if_pos (.inl hl)]
end Go.Proofs.Ytodlifbhpgphcaa
end

section
namespace Go.Proofs.Ytodlifbhpgphcaa
set_option linter.unusedVariables false
set_option linter.unusedSimpArgs false
open Go.ChangeShapes Go.WideShapes Go.ChangeAt Go.RowKit Go.Deep

theorem Try.cellsEvent : Try.prog.cellsOf 46 = 14 := by kernel_rfl
theorem Try.cellsPol : Try.prog.cellsOf 43 = 7 := by kernel_rfl
section
variable {H : Type} {enc : TypeId × Value → H} {w : World} {base : Nat}
theorem one_int {m : Nat} {v : Value} {y : DataW H × List MemPlace} (h : DataW.trod enc Try.prog w 0 (fun _ => true) true m 3 [v] = some y) : ∃ n, v = .int .i64 n := by
  obtain ⟨n, q, _, _⟩ := DataW.trod_int Try.underlying3 h
  simp at q
  exact ⟨n, q⟩
set_option maxRecDepth 1000000 in
theorem open_pol {fuel : Nat} {cs : List Value} {y : DataW H × List MemPlace} (hf : DataW.trod enc Try.prog w 0 (fun _ => true) true fuel 43 cs = some y) :
    ∃ a b c d e f g, cs = [.int .i64 a, .int .i64 b, .int .i64 c, .int .i64 d, .int .i64 e, .int .i64 f, .int .i64 g] := by
  obtain ⟨xs, m, _, _, hlen, hx, hg⟩ := DataW.trod_struct Try.underlying43 hf
  rw [Try.cellsPol] at hlen
  match cs, hlen with
  | [c0, c1, c2, c3, c4, c5, c6], _ =>
    have h0 : DataW.trod enc Try.prog w 0 (fun _ => true) true m 3 (([c0, c1, c2, c3, c4, c5, c6] : List Value).take (Try.prog.cellsOf 3)) = xs[0]? := hg 0 _ rfl
    have h1 : DataW.trod enc Try.prog w 0 (fun _ => true) true m 3 (([c1, c2, c3, c4, c5, c6] : List Value).take (Try.prog.cellsOf 3)) = xs[1]? := hg 1 _ rfl
    have h2 : DataW.trod enc Try.prog w 0 (fun _ => true) true m 3 (([c2, c3, c4, c5, c6] : List Value).take (Try.prog.cellsOf 3)) = xs[2]? := hg 2 _ rfl
    have h3 : DataW.trod enc Try.prog w 0 (fun _ => true) true m 3 (([c3, c4, c5, c6] : List Value).take (Try.prog.cellsOf 3)) = xs[3]? := hg 3 _ rfl
    have h4 : DataW.trod enc Try.prog w 0 (fun _ => true) true m 3 (([c4, c5, c6] : List Value).take (Try.prog.cellsOf 3)) = xs[4]? := hg 4 _ rfl
    have h5 : DataW.trod enc Try.prog w 0 (fun _ => true) true m 3 (([c5, c6] : List Value).take (Try.prog.cellsOf 3)) = xs[5]? := hg 5 _ rfl
    have h6 : DataW.trod enc Try.prog w 0 (fun _ => true) true m 3 (([c6] : List Value).take (Try.prog.cellsOf 3)) = xs[6]? := hg 6 _ rfl
    rw [List.getElem?_eq_getElem (by rw [hx]; decide)] at h0 h1 h2 h3 h4 h5 h6
    rw [Try.cellsInt] at h0 h1 h2 h3 h4 h5 h6
    obtain ⟨a, rfl⟩ := one_int h0
    obtain ⟨b, rfl⟩ := one_int h1
    obtain ⟨c, rfl⟩ := one_int h2
    obtain ⟨d, rfl⟩ := one_int h3
    obtain ⟨e, rfl⟩ := one_int h4
    obtain ⟨f, rfl⟩ := one_int h5
    obtain ⟨g, rfl⟩ := one_int h6
    exact ⟨a, b, c, d, e, f, g, rfl⟩

/-- An event that came in: its dots. -/
def EvIn (w : World) (A : Option Addr) (n c : Nat) (M : List D.Dot) : Prop := M.length = n ∧ n ≤ c ∧ c ≤ maxLen ∧ Rds w (· < w.heap.size) A (dvs M)
set_option maxRecDepth 1000000 in
theorem open_ev {fuel : Nat} {cs : List Value} {y : DataW H × List MemPlace} (hf : DataW.trod enc Try.prog w 0 (fun _ => true) true fuel 46 cs = some y) :
    ∃ F A n c M, cs = (ecs F A n c).toList ∧ EvIn w A n c M := by
  obtain ⟨xs, m, _, _, hlen, hx, hg⟩ := DataW.trod_struct Try.underlying46 hf
  rw [Try.cellsEvent] at hlen
  match cs, hlen with
  | [c0, c1, c2, c3, c4, c5, c6, c7, c8, c9, c10, c11, c12, c13], _ =>
    have h0 : DataW.trod enc Try.prog w 0 (fun _ => true) true m 41 (([c0, c1, c2, c3, c4, c5, c6, c7, c8, c9, c10, c11, c12, c13] : List Value).take (Try.prog.cellsOf 41)) = xs[0]? := hg 0 _ rfl
    have h1 : DataW.trod enc Try.prog w 0 (fun _ => true) true m 3 (([c2, c3, c4, c5, c6, c7, c8, c9, c10, c11, c12, c13] : List Value).take (Try.prog.cellsOf 3)) = xs[1]? := hg 1 _ rfl
    have h2 : DataW.trod enc Try.prog w 0 (fun _ => true) true m 3 (([c3, c4, c5, c6, c7, c8, c9, c10, c11, c12, c13] : List Value).take (Try.prog.cellsOf 3)) = xs[2]? := hg 2 _ rfl
    have h3 : DataW.trod enc Try.prog w 0 (fun _ => true) true m 3 (([c4, c5, c6, c7, c8, c9, c10, c11, c12, c13] : List Value).take (Try.prog.cellsOf 3)) = xs[3]? := hg 3 _ rfl
    have h4 : DataW.trod enc Try.prog w 0 (fun _ => true) true m 3 (([c5, c6, c7, c8, c9, c10, c11, c12, c13] : List Value).take (Try.prog.cellsOf 3)) = xs[4]? := hg 4 _ rfl
    have h5 : DataW.trod enc Try.prog w 0 (fun _ => true) true m 43 (([c6, c7, c8, c9, c10, c11, c12, c13] : List Value).take (Try.prog.cellsOf 43)) = xs[5]? := hg 5 _ rfl
    have h6 : DataW.trod enc Try.prog w 0 (fun _ => true) true m 44 (([c13] : List Value).take (Try.prog.cellsOf 44)) = xs[6]? := hg 6 _ rfl
    rw [List.getElem?_eq_getElem (by rw [hx]; decide)] at h0 h1 h2 h3 h4 h5 h6
    rw [Try.cellsDot] at h0
    rw [Try.cellsInt] at h1 h2 h3 h4
    rw [Try.cellsPol] at h5
    rw [Try.cellsDots] at h6
    obtain ⟨n0, n1, e0⟩ := open_dot h0
    obtain ⟨n2, rfl⟩ := one_int h1
    obtain ⟨n3, rfl⟩ := one_int h2
    obtain ⟨n4, rfl⟩ := one_int h3
    obtain ⟨n5, rfl⟩ := one_int h4
    obtain ⟨n6, n7, n8, n9, n10, n11, n12, e5⟩ := open_pol h5
    obtain ⟨A, n, c, M, e6, hM⟩ := open_dots h6
    simp at e0 e5 e6
    obtain ⟨rfl, rfl⟩ := e0
    obtain ⟨rfl, rfl, rfl, rfl, rfl, rfl, rfl⟩ := e5
    subst e6
    exact ⟨fun j => [n0, n1, n2, n3, n4, n5, n6, n7, n8, n9, n10, n11, n12].getD j 0, A, n, c, M, rfl, hM⟩
set_option maxRecDepth 1000000 in
theorem arg_ev {v : Value} {d : DataW H} {p : List MemPlace} (ho : Value.okWide Try.prog w .any base 46 v) (hk : DataW.Trod enc Try.prog w 0 (fun _ => true) true 46 v d p) : ∃ F A n c M, v = ev F A n c ∧ EvIn w A n c M := by
  obtain ⟨cs, rfl, _⟩ := okWide_struct Try.underlying46 ho
  obtain ⟨fuel, hf⟩ := hk
  obtain ⟨F, A, n, c, M, e, h⟩ := open_ev hf
  refine ⟨F, A, n, c, M, ?_, h⟩
  have e' : cs.toList = (ecs F A n c).toList := by simpa [Value.cells] using e
  rw [show cs = ecs F A n c from Array.toList_inj.1 e']
end
end Go.Proofs.Ytodlifbhpgphcaa
end

