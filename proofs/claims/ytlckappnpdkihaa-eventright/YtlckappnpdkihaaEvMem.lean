/- Layer 7: events as values: thirteen numbers and a row of dots. -/
import Derived.Test.YtlckappnpdkihaaRefDot
import Derived.Test.YtlckappnpdkihaaEvMath2
namespace Go.Proofs.Ytlckappnpdkihaa
set_option linter.unusedVariables false
set_option linter.unusedSimpArgs false
open Go.ChangeShapes Go.WideShapes Go.ChangeAt Go.RowKit

abbrev ecs (F : Nat → Int) (A : Option Addr) (n c : Nat) : Array Value := #[.int .i64 (F 0), .int .i64 (F 1), .int .i64 (F 2), .int .i64 (F 3), .int .i64 (F 4), .int .i64 (F 5), .int .i64 (F 6), .int .i64 (F 7), .int .i64 (F 8), .int .i64 (F 9), .int .i64 (F 10), .int .i64 (F 11), .int .i64 (F 12), .slice A n c]
abbrev ev (F : Nat → Int) (A : Option Addr) (n c : Nat) : Value := .agg #[.int .i64 (F 0), .int .i64 (F 1), .int .i64 (F 2), .int .i64 (F 3), .int .i64 (F 4), .int .i64 (F 5), .int .i64 (F 6), .int .i64 (F 7), .int .i64 (F 8), .int .i64 (F 9), .int .i64 (F 10), .int .i64 (F 11), .int .i64 (F 12), .slice A n c]
/-- Its policy. -/
abbrev pv (F : Nat → Int) : Value := .agg #[.int .i64 (F 6), .int .i64 (F 7), .int .i64 (F 8), .int .i64 (F 9), .int .i64 (F 10), .int .i64 (F 11), .int .i64 (F 12)]
theorem ecs_at (F : Nat → Int) (A : Option Addr) (n c : Nat) {k : Nat} (hk : k < 13) : (ecs F A n c)[k]? = some (.int .i64 (F k)) := by
  rcases k with _ | _ | _ | _ | _ | _ | _ | _ | _ | _ | _ | _ | _ | k
  all_goals first | rfl | omega
theorem ecs_more (F : Nat → Int) (A A' : Option Addr) (n n' c c' : Nat) : (ecs F A n c).setIfInBounds 13 (.slice A' n' c') = ecs F A' n' c' := by simp
def updE (F : Nat → Int) (k : Nat) (x : Int) : Nat → Int := fun j => if j = k then x else F j
theorem ecs_set (F : Nat → Int) (A : Option Addr) (n c : Nat) {k : Nat} (hk : k < 13) (x : Int) : (ecs F A n c).setIfInBounds k (.int .i64 x) = ecs (updE F k x) A n c := by
  rcases k with _ | _ | _ | _ | _ | _ | _ | _ | _ | _ | _ | _ | _ | k
  all_goals first | omega | simp [updE]
theorem ecs_congr {F G : Nat → Int} (h : ∀ j, j < 13 → F j = G j) (A : Option Addr) (n c : Nat) : ecs F A n c = ecs G A n c := by
  simp [h 0 (by omega), h 1 (by omega), h 2 (by omega), h 3 (by omega), h 4 (by omega), h 5 (by omega), h 6 (by omega), h 7 (by omega), h 8 (by omega), h 9 (by omega), h 10 (by omega), h 11 (by omega), h 12 (by omega)]
theorem ev_congr {F G : Nat → Int} (h : ∀ j, j < 13 → F j = G j) (A : Option Addr) (n c : Nat) : ev F A n c = ev G A n c := congrArg Value.agg (ecs_congr h A n c)
theorem set14 {w : World} {r : Nat} {t : TypeId} {F : Nat → Int} {A : Option Addr} {n c : Nat} (h : Blo w r t (ecs F A n c)) :
    w.cell? ⟨r, 0, none⟩ = some (.int .i64 (F 0)) ∧ w.cell? ⟨r, 1, none⟩ = some (.int .i64 (F 1)) ∧ w.cell? ⟨r, 2, none⟩ = some (.int .i64 (F 2)) ∧ w.cell? ⟨r, 3, none⟩ = some (.int .i64 (F 3)) ∧ w.cell? ⟨r, 4, none⟩ = some (.int .i64 (F 4)) ∧ w.cell? ⟨r, 5, none⟩ = some (.int .i64 (F 5)) ∧ w.cell? ⟨r, 6, none⟩ = some (.int .i64 (F 6)) ∧
      w.cell? ⟨r, 7, none⟩ = some (.int .i64 (F 7)) ∧ w.cell? ⟨r, 8, none⟩ = some (.int .i64 (F 8)) ∧ w.cell? ⟨r, 9, none⟩ = some (.int .i64 (F 9)) ∧ w.cell? ⟨r, 10, none⟩ = some (.int .i64 (F 10)) ∧ w.cell? ⟨r, 11, none⟩ = some (.int .i64 (F 11)) ∧ w.cell? ⟨r, 12, none⟩ = some (.int .i64 (F 12)) ∧ w.cell? ⟨r, 13, none⟩ = some (.slice A n c) :=
  ⟨by simpa using h.cell 0, by simpa using h.cell 1, by simpa using h.cell 2, by simpa using h.cell 3, by simpa using h.cell 4, by simpa using h.cell 5, by simpa using h.cell 6, by simpa using h.cell 7, by simpa using h.cell 8, by simpa using h.cell 9, by simpa using h.cell 10, by simpa using h.cell 11, by simpa using h.cell 12, by simpa using h.cell 13⟩
theorem Try.sizeEvent : (Try.prog.info? 28).map (·.size) = some 14 := by kernel_rfl
theorem run_sete (w : World) (r : Nat) (cs : Array Value) (hB : Blo w r 28 cs) (hs : cs.size = 14) (F : Nat → Int) (A : Option Addr) (n c : Nat) :
    ∃ W, (Instr.storeAt 28 (.pointer (some ⟨r, 0, none⟩)) (ev F A n c)).run Try.prog w = .ok () W ∧ Blo W r 28 (ecs F A n c) ∧ w.grownBy W (some r) := by
  obtain ⟨i0, hi, hz1⟩ : ∃ i, Try.prog.info? 28 = some i ∧ i.size = 14 := by
    have := Try.sizeEvent
    cases h : Try.prog.info? 28 with
    | none => rw [h] at this; cases this
    | some i => rw [h] at this; exact ⟨i, rfl, by simpa using this⟩
  have h1 := run_storeCells_at (P := Try.prog) r 0 28 (ecs F A n c).toList 0 cs w hB (by simp; omega) (by
    intro v hv
    simp at hv
    rcases hv with rfl | rfl | rfl | rfl | rfl | rfl | rfl | rfl | rfl | rfl | rfl | rfl | rfl | rfl <;> rfl)
  have hd : cs.toList.drop 14 = [] := List.drop_eq_nil_of_le (by simp; omega)
  have e : (cs.toList.take (0 + 0) ++ (ecs F A n c).toList ++ cs.toList.drop (0 + 0 + (ecs F A n c).toList.length)).toArray = ecs F A n c := by simp [hd]
  rw [e] at h1
  refine ⟨_, ?_, setRow_heap w r cs _ 28 _ hB, ⟨rfl, rfl, rfl, by simp, fun k _ hk => setRow_other w r k _ (fun e => hk (by rw [e]))⟩⟩
  rw [← h1]
  simp [Instr.storeAt, Instr.sureAddr, storeVar, sizeOf, typeInfo, hi, hz1, Value.cells]
theorem wpList_sete (w : World) {ops : Array Oper} {rest : List Oper} {o : Oper} {a : Act} {Q : Exit → Act → World → Prop} (hgd : o.guard = none) (x y : Operand) (ho : o.op = .store 28 x y)
    (r : Nat) (cs : Array Value) (hx : a.eval x = .pointer (some ⟨r, 0, none⟩)) (F : Nat → Int) (A : Option Addr) (n c : Nat) (hy : a.eval y = ev F A n c) (hB : Blo w r 28 cs) (hs : cs.size = 14)
    (h : ∀ W, Blo W r 28 (ecs F A n c) → w.grownBy W (some r) → wpList Try.prog ops Q rest (a.put o.dst undef) W) : wpList Try.prog ops Q (o :: rest) a w := by
  refine wpList_plain hgd fun K hK => ?_
  obtain ⟨W, hrun, h2, h3⟩ := run_sete w r cs hB hs F A n c
  unfold Oper.wp execOp
  simp only [ho, hx, hy, Sem.run_bind, Sem.run_pure, Result.andThen_ok, hrun]
  exact hK _ _ (h W h2 h3)
end Go.Proofs.Ytlckappnpdkihaa
