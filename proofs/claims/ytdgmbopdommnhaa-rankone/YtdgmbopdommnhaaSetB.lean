/- A struct is stored whole into a block that is known whole. -/
import Derived.Test.YtdgmbopdommnhaaMem
namespace Go.Proofs.Ytdgmbopdommnhaa
set_option linter.unusedVariables false
set_option linter.unusedSimpArgs false
open Go.ChangeShapes Go.WideShapes Go.ChangeAt Go.RowKit

/-- A whole struct is stored into a block that is known whole. -/
theorem run_setb (w : World) (r : Nat) (t : TypeId) (cs vs : Array Value) (hB : Blo w r t cs) (hsz : (Try.prog.info? t).map (·.size) = some vs.size) (hcs : cs.size = vs.size) (h1 : ∀ v ∈ vs.toList, v.oneCell' = true) :
    ∃ W, (Instr.storeAt t (.pointer (some ⟨r, 0, none⟩)) (.agg vs)).run Try.prog w = .ok () W ∧ Blo W r t vs ∧ w.grownBy W (some r) := by
  obtain ⟨i0, hi, hz1⟩ : ∃ i, Try.prog.info? t = some i ∧ i.size = vs.size := by
    cases h : Try.prog.info? t with
    | none => rw [h] at hsz; cases hsz
    | some i => rw [h] at hsz; exact ⟨i, rfl, by simpa using hsz⟩
  have h2 := run_storeCells_at (P := Try.prog) r 0 t vs.toList 0 cs w hB (by simp; omega) h1
  have hd : cs.toList.drop vs.toList.length = [] := List.drop_eq_nil_of_le (by simp; omega)
  have e : (cs.toList.take (0 + 0) ++ vs.toList ++ cs.toList.drop (0 + 0 + vs.toList.length)).toArray = vs := by
    rw [Nat.zero_add, Nat.zero_add, hd]; simp
  rw [e] at h2
  refine ⟨_, ?_, setRow_heap w r cs _ t _ hB, ⟨rfl, rfl, rfl, by simp, fun k _ hk => setRow_other w r k _ (fun e => hk (by rw [e]))⟩⟩
  rw [← h2]
  simp [Instr.storeAt, Instr.sureAddr, storeVar, sizeOf, typeInfo, hi, hz1, Value.cells]
theorem wpList_setb (w : World) {ops : Array Oper} {rest : List Oper} {o : Oper} {a : Act} {Q : Exit → Act → World → Prop} (hgd : o.guard = none) (t : TypeId) (x y : Operand) (ho : o.op = .store t x y)
    (r : Nat) (cs vs : Array Value) (hx : a.eval x = .pointer (some ⟨r, 0, none⟩)) (hy : a.eval y = .agg vs) (hB : Blo w r t cs) (hsz : (Try.prog.info? t).map (·.size) = some vs.size) (hcs : cs.size = vs.size) (h1 : ∀ v ∈ vs.toList, v.oneCell' = true)
    (h : ∀ W, Blo W r t vs → w.grownBy W (some r) → wpList Try.prog ops Q rest (a.put o.dst undef) W) : wpList Try.prog ops Q (o :: rest) a w := by
  refine wpList_plain hgd fun K hK => ?_
  obtain ⟨W, hrun, h2, h3⟩ := run_setb w r t cs vs hB hsz hcs h1
  unfold Oper.wp execOp
  simp only [ho, hx, hy, Sem.run_bind, Sem.run_pure, Result.andThen_ok, hrun]
  exact hK _ _ (h W h2 h3)
end Go.Proofs.Ytdgmbopdommnhaa
