/- Contracts of layer 4: open, the face of what reads. -/
import Derived.Test.YtfllebfegngdhaaFrameRead
namespace Go.Proofs.Ytfllebfegngdhaa
open Go.ChangeShapes Go.WideShapes Go.ChangeAt Go.RowKit

set_option maxHeartbeats 1000000 in
theorem fcatch_panicking (p : Addr) (z : Value) (y : Int) (older : List PanicEntry) (w : World) (hc : w.cell? p = some z) (hz : w.frozen? p = false) :
    CallsD Try.prog 62 #[.pointer (some p)] (.panicking ({ v := .iface 26 (.int .i64 y), recovered := false } :: older)) w fun e u' w' =>
      e = .returned (.tuple #[]) ∧ u' = .panicking ({ v := .iface 26 (.int .i64 y), recovered := true } :: older) ∧ w' = w.setCell p (.int .i64 y) := by
  refine callsD_of_wpS Try.func62 rfl fun c₀ cs hu => ?_
  apply wpS_seq
  apply wpS_region
  simp [wpOpsS, go_sem, recoverD, hu, run_assert_yes, Try.ntmps62, Exit.thenS]
  apply wpS_seq
  apply wpS_region
  simp [wpOpsS, go_sem, Exit.thenS, Array.replicate]
  refine wpS_cond (t := true) (by simp [Act.eval]) ?_
  simp only [if_true]
  apply wpS_region
  simp [wpOpsS, go_sem, hc, hz, bodyPostS, results, Try.results62]

set_option maxHeartbeats 1000000 in
theorem fcatch_idle (p : Addr) (w : World) :
    CallsD Try.prog 62 #[.pointer (some p)] .returning w fun e u' w' => e = .returned (.tuple #[]) ∧ u' = .returning ∧ w = w' := by
  refine callsD_of_wpS Try.func62 rfl fun c₀ cs hu => ?_
  apply wpS_seq
  apply wpS_region
  simp [wpOpsS, go_sem, recoverD, hu, run_assert_no, Try.ntmps62, Exit.thenS]
  apply wpS_seq
  apply wpS_region
  simp [wpOpsS, go_sem, Exit.thenS, Array.replicate]
  refine wpS_cond (t := false) (by simp [Act.eval]) ?_
  simp only [Bool.false_eq_true, if_false]
  refine wpS_of_wp (wp_skip ?_)
  cases c₀
  simp_all [bodyPostS, results, Try.results62]

/-- What open answers. -/
def OpenP (l : List Int) (A : Option Addr) (c : Nat) (w : World) (e : Ending) (w' : World) : Prop :=
  (((F.get l).1 = 0 ∧ e = .returned (.tuple #[.slice (cutAt A c (F.start l)) (F.stop l - F.start l) (c - F.start l), .int .i64 ((F.stop l : Nat) + 4 : Int), .int .i64 0])) ∨
    ((F.get l).1 ≠ 0 ∧ e = .returned (.tuple #[.slice none 0 0, .int .i64 0, .int .i64 (F.get l).1]))) ∧ Below w.heap.size w w'

set_option maxHeartbeats 1000000 in
theorem open_any (S : Nat → Prop) (A : Option Addr) (n c : Nat) (l : List Int) (w : World) (hn : n = l.length) (hr : Rds w S A (u8s l)) (hc : l.length ≤ c) (hl : l.length ≤ 1000000) (hb : Byt l) :
    Calls Try.prog 53 #[.slice A n c] w (OpenP l A c w) := by
  subst hn
  have hmf : ∀ (fn : Fn) (first cap : Array Value) (w : World), (Instr.makeFunc fn first cap).run Try.prog w = .ok (.func fn first cap) w := fun _ _ _ _ => rfl
  have R := read_any S A c l (w.alloc (.cells #[.int .i64 0] 26)) (hr.alloc _) hc hl hb
  have hB0 : Below w.heap.size w (w.alloc (.cells #[.int .i64 0] 26)) := (Below.refl _ _).alloc (Nat.le_refl _) _
  have hv := Blo.made w 26 #[.int .i64 0]
  go_enter_defers Try.func53, Try.ntmps53
  go_wp2_with fail
  refine R.mono ?_
  rintro e w1 ⟨⟨h0, rfl⟩ | ⟨h0, rfl⟩, hB⟩
  · have hB1 : Below w.heap.size w w1 := hB0.trans (hB.mono (by simp))
    have hv1 := hv.new hB
    obtain ⟨cv, fv⟩ := var_cell hv1
    have hc2 : (w1.setCell ⟨w.heap.size, 0, none⟩ (.int .i64 0)).cell? ⟨w.heap.size, 0, none⟩ = some (.int .i64 0) := (var_cell (by simpa using hv1.put 0 (.int .i64 0))).1
    have hB2 := hB1.setCell (p := ⟨w.heap.size, 0, none⟩) (Nat.le_refl _) (.int .i64 0)
    have H0 := Lib.hid h0
    clear h0
    go_wp2
    refine leaves_cons (f := 62) (args := #[.pointer (some ⟨w.heap.size, 0, none⟩)]) (by simp) (by simp [go_sem]) ?_
    refine (fcatch_idle ⟨w.heap.size, 0, none⟩ _).mono ?_
    rintro e u' w'' ⟨rfl, rfl, rfl⟩
    simp [Leaves, settle, results, Try.results53, go_sem]
    rw [hc2]
    exact ⟨_, rfl, .inl ⟨H0.out, rfl⟩, hB2⟩
  · have hB1 : Below w.heap.size w w1 := hB0.trans (hB.mono (by simp))
    have hv1 := hv.new hB
    obtain ⟨cv, fv⟩ := var_cell hv1
    have hc2 : (w1.setCell ⟨w.heap.size, 0, none⟩ (.int .i64 (F.get l).1)).cell? ⟨w.heap.size, 0, none⟩ = some (.int .i64 (F.get l).1) := (var_cell (by simpa using hv1.put 0 (.int .i64 (F.get l).1))).1
    have hB2 := hB1.setCell (p := ⟨w.heap.size, 0, none⟩) (Nat.le_refl _) (.int .i64 (F.get l).1)
    have H0 := Lib.hid h0
    clear h0
    go_wp2
    refine leaves_cons (f := 62) (args := #[.pointer (some ⟨w.heap.size, 0, none⟩)]) (by simp) (by simp [go_sem]) ?_
    refine (fcatch_panicking ⟨w.heap.size, 0, none⟩ _ (F.get l).1 [] _ cv fv).mono ?_
    rintro e u' w'' ⟨rfl, rfl, rfl⟩
    simp [Leaves, settle, results, Try.results53, go_sem]
    rw [hc2]
    exact ⟨_, rfl, .inr ⟨H0.out, rfl⟩, hB2⟩
end Go.Proofs.Ytfllebfegngdhaa
