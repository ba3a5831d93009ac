/- Layer 7, the program's: face, by which giving up is caught. -/
import Derived.Test.YtlckappnpdkihaaEvW1
import Derived.Test.YtlckappnpdkihaaVintFace
namespace Go.Proofs.Ytlckappnpdkihaa
set_option linter.unusedVariables false
set_option linter.unusedSimpArgs false
open Go.ChangeShapes Go.WideShapes Go.ChangeAt Go.RowKit

set_option maxHeartbeats 1000000 in
theorem ecatch_panicking (p : Addr) (z : Value) (y : Int) (older : List PanicEntry) (w : World) (hc : w.cell? p = some z) (hz : w.frozen? p = false) :
    CallsD Try.prog 57 #[.pointer (some p)] (.panicking ({ v := .iface 37 (.int .i64 y), recovered := false } :: older)) w fun e u' w' =>
      e = .returned (.tuple #[]) ∧ u' = .panicking ({ v := .iface 37 (.int .i64 y), recovered := true } :: older) ∧ w' = w.setCell p (.int .i64 y) := by
  refine callsD_of_wpS Try.func57 rfl fun c₀ cs hu => ?_
  apply wpS_seq
  apply wpS_region
  simp [wpOpsS, go_sem, recoverD, hu, run_assert_yes, Try.ntmps57, Exit.thenS]
  apply wpS_seq
  apply wpS_region
  simp [wpOpsS, go_sem, Exit.thenS, Array.replicate]
  refine wpS_cond (t := true) (by simp [Act.eval]) ?_
  simp only [if_true]
  apply wpS_region
  simp [wpOpsS, go_sem, hc, hz, bodyPostS, results, Try.results57]

set_option maxHeartbeats 1000000 in
theorem ecatch_idle (p : Addr) (w : World) :
    CallsD Try.prog 57 #[.pointer (some p)] .returning w fun e u' w' => e = .returned (.tuple #[]) ∧ u' = .returning ∧ w = w' := by
  refine callsD_of_wpS Try.func57 rfl fun c₀ cs hu => ?_
  apply wpS_seq
  apply wpS_region
  simp [wpOpsS, go_sem, recoverD, hu, run_assert_no, Try.ntmps57, Exit.thenS]
  apply wpS_seq
  apply wpS_region
  simp [wpOpsS, go_sem, Exit.thenS, Array.replicate]
  refine wpS_cond (t := false) (by simp [Act.eval]) ?_
  simp only [Bool.false_eq_true, if_false]
  refine wpS_of_wp (wp_skip ?_)
  cases c₀
  simp_all [bodyPostS, results, Try.results57]

/-- What is handed to a face does, and what the face answers. -/
def DoPost (Q : World → Prop) (P : Int → World → Prop) (e : Ending) (w' : World) : Prop := (e = .returned (.tuple #[]) ∧ Q w') ∨ ∃ y, e = gave y ∧ P y w'
def EFacePost (q : Nat) (Q : World → Prop) (P : Int → World → Prop) (e : Ending) (w' : World) : Prop :=
  (∃ W, Q W ∧ e = .returned (.int .i64 0) ∧ W.grownBy w' (some q)) ∨ ∃ y W, P y W ∧ e = .returned (.int .i64 y) ∧ W.grownBy w' (some q)

set_option maxHeartbeats 1000000 in
theorem eface_any {w : World} (K : Nat) (caps : Array Value) (Q : World → Prop) (P : Int → World → Prop) (hK : K = 42 ∨ K = 39 ∨ K = 46 ∨ K = 50)
    (H : Calls Try.prog K caps (w.alloc (.cells #[.int .i64 0] 37)) (DoPost Q P))
    (hQ : ∀ W, Q W → Blo W w.heap.size 37 #[.int .i64 0]) (hP : ∀ y W, P y W → Blo W w.heap.size 37 #[.int .i64 0]) :
    Calls Try.prog 38 #[.func (.func K) #[] caps] w (EFacePost w.heap.size Q P) := by
  have hmf : ∀ (fn : Fn) (first cap : Array Value) (w : World), (Instr.makeFunc fn first cap).run Try.prog w = .ok (.func fn first cap) w := fun _ _ _ _ => rfl
  rcases hK with rfl | rfl | rfl | rfl
  all_goals
    go_enter_defers Try.func38, Try.ntmps38
    go_wp2_with fail
    refine H.mono ?_
    rintro e w1 (⟨rfl, hQ1⟩ | ⟨y, rfl, hP1⟩)
    · have hv1 := hQ w1 hQ1
      obtain ⟨cv, fv⟩ := var_cell hv1
      have hc2 : (w1.setCell ⟨w.heap.size, 0, none⟩ (.int .i64 0)).cell? ⟨w.heap.size, 0, none⟩ = some (.int .i64 0) := (var_cell (by simpa using hv1.put 0 (.int .i64 0))).1
      go_wp2
      refine leaves_cons (f := 57) (args := #[.pointer (some ⟨w.heap.size, 0, none⟩)]) (by simp) (by simp [go_sem]) ?_
      refine (ecatch_idle ⟨w.heap.size, 0, none⟩ _).mono ?_
      rintro e u' w'' ⟨rfl, rfl, rfl⟩
      simp [Leaves, settle, results, Try.results38, go_sem]
      rw [hc2]
      exact ⟨_, rfl, .inl ⟨w1, hQ1, rfl, gb_set (World.grownBy.refl _ _) (.inl rfl) _⟩⟩
    · have hv1 := hP y w1 hP1
      obtain ⟨cv, fv⟩ := var_cell hv1
      have hc2 : (w1.setCell ⟨w.heap.size, 0, none⟩ (.int .i64 y)).cell? ⟨w.heap.size, 0, none⟩ = some (.int .i64 y) := (var_cell (by simpa using hv1.put 0 (.int .i64 y))).1
      go_wp2
      refine leaves_cons (f := 57) (args := #[.pointer (some ⟨w.heap.size, 0, none⟩)]) (by simp) (by simp [go_sem]) ?_
      refine (ecatch_panicking ⟨w.heap.size, 0, none⟩ _ y [] _ cv fv).mono ?_
      rintro e u' w'' ⟨rfl, rfl, rfl⟩
      simp [Leaves, settle, results, Try.results38, go_sem]
      rw [hc2]
      exact ⟨_, rfl, .inr ⟨y, w1, hP1, rfl, gb_set (World.grownBy.refl _ _) (.inl rfl) _⟩⟩
end Go.Proofs.Ytlckappnpdkihaa
