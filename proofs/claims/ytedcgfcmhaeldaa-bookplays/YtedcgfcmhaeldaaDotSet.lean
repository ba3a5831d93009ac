/- Sets as values, stored whole into a block. -/
import Derived.Test.YtedcgfcmhaeldaaDotMem
import Derived.Laws.CopyRow
import Derived.Deep.MidRow
namespace Go.Proofs.Ytedcgfcmhaeldaa
set_option linter.unusedVariables false
set_option linter.unusedSimpArgs false
open Go.ChangeShapes Go.WideShapes Go.ChangeAt Go.RowKit

theorem sv_congr {U V : Nat → Int} (h : ∀ j, j < 8 → U j = V j) (A : Option Addr) (n c : Nat) : sv U A n c = sv V A n c := by
  unfold sv
  rw [h 0 (by omega), h 1 (by omega), h 2 (by omega), h 3 (by omega), h 4 (by omega), h 5 (by omega), h 6 (by omega), h 7 (by omega)]
theorem scs_one (U : Nat → Int) (A : Option Addr) (n c : Nat) : ∀ v ∈ (scs U A n c).toList, v.oneCell' = true := by
  intro v hv
  simp at hv
  rcases hv with rfl | rfl | rfl | rfl | rfl | rfl | rfl | rfl | rfl <;> rfl
/-- A set stored whole into a block of nine cells. -/
theorem run_setv {t : TypeId} (ht : (Try.prog.info? t).map (·.size) = some 9) (w : World) (r : Nat) (cs : Array Value) (hB : Blo w r t cs) (hs : cs.size = 9) (U : Nat → Int) (A : Option Addr) (n c : Nat) :
    ∃ W, (Instr.storeAt t (.pointer (some ⟨r, 0, none⟩)) (sv U A n c)).run Try.prog w = .ok () W ∧ Blo W r t (scs U A n c) ∧ w.grownBy W (some r) := by
  obtain ⟨i0, hi, h9⟩ : ∃ i, Try.prog.info? t = some i ∧ i.size = 9 := by
    cases e : Try.prog.info? t with
    | none => rw [e] at ht; cases ht
    | some i => rw [e] at ht; simp at ht; exact ⟨i, rfl, ht⟩
  have h1 := run_storeCells_at (P := Try.prog) r 0 t (scs U A n c).toList 0 cs w hB (by simp; omega) (scs_one U A n c)
  have hd : cs.toList.drop 9 = [] := List.drop_eq_nil_of_le (by simp; omega)
  have e : (cs.toList.take (0 + 0) ++ (scs U A n c).toList ++ cs.toList.drop (0 + 0 + (scs U A n c).toList.length)).toArray = scs U A n c := by simp [hd]
  rw [e] at h1
  refine ⟨_, ?_, setRow_heap w r cs _ t _ hB, ⟨rfl, rfl, rfl, by simp, fun k _ hk => setRow_other w r k _ (fun e => hk (by rw [e]))⟩⟩
  rw [← h1]
  simp [Instr.storeAt, Instr.sureAddr, storeVar, sizeOf, typeInfo, hi, h9, Value.cells]
theorem wpList_setv (w : World) {ops : Array Oper} {rest : List Oper} {o : Oper} {a : Act} {Q : Exit → Act → World → Prop} (hgd : o.guard = none) (t : TypeId) (x y : Operand) (ho : o.op = .store t x y) (ht : (Try.prog.info? t).map (·.size) = some 9)
    (r : Nat) (cs : Array Value) (hx : a.eval x = .pointer (some ⟨r, 0, none⟩)) (U : Nat → Int) (A : Option Addr) (n c : Nat) (hy : a.eval y = sv U A n c) (hB : Blo w r t cs) (hs : cs.size = 9)
    (h : ∀ W, Blo W r t (scs U A n c) → w.grownBy W (some r) → wpList Try.prog ops Q rest (a.put o.dst undef) W) : wpList Try.prog ops Q (o :: rest) a w := by
  refine wpList_plain hgd fun K hK => ?_
  obtain ⟨W, hrun, h2, h3⟩ := run_setv ht w r cs hB hs U A n c
  unfold Oper.wp execOp
  simp only [ho, hx, hy, Sem.run_bind, Sem.run_pure, Result.andThen_ok, hrun]
  exact hK _ _ (h W h2 h3)
theorem Try.sizeSet : (Try.prog.info? 53).map (·.size) = some 9 := by kernel_rfl
theorem Try.sizeRef : (Try.prog.info? 51).map (·.size) = some 9 := by kernel_rfl
end Go.Proofs.Ytedcgfcmhaeldaa
