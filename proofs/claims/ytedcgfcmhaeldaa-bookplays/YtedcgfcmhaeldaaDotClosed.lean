/- Layer 6: closed, list, lay. -/
import Derived.Test.YtedcgfcmhaeldaaDotClose
import Derived.Test.YtedcgfcmhaeldaaDotSet
namespace Go.Proofs.Ytedcgfcmhaeldaa
set_option linter.unusedVariables false
set_option linter.unusedSimpArgs false
open Go.ChangeShapes Go.WideShapes Go.ChangeAt Go.RowKit

theorem closing_do {B p : Nat} (S : D.Dot → Bool) : Doing 78 B p S (fun k W => Clo W B p (D.pU S k) (D.pM S k)) where
  new := fun _ _ _ h hb => h.new hb
  skip := fun n i _ hi hS W h => by
    obtain ⟨e1, e2⟩ := D.cl_no hi hS
    rw [e1, e2]; exact h
  call := fun n i hn hi hS W h => by
    have e1 : ((i + 1 : Nat) : Int) = (i : Int) + 1 := by omega
    have hU := D.pU_in S (n * 96 + i) n
    have hM := D.pM_len S (n * 96 + i)
    by_cases hu : (i : Int) + 1 = D.pU S (n * 96 + i) n + 1
    · have hc := ctake_up n (i + 1) W h hn (by omega) (by omega)
      obtain ⟨f1, f2⟩ := D.cl_up hi hS hu
      rw [e1] at hc
      rw [f1, f2]
      exact hc
    · have hc := ctake_more n (i + 1) W h hn (by omega) hU (by omega) (by omega)
      obtain ⟨f1, f2⟩ := D.cl_more hi hS hu
      rw [e1] at hc
      rw [f1, f2]
      exact hc

set_option maxRecDepth 100000 in
set_option maxHeartbeats 2000000 in
theorem closed_any {g : Nat} {S : D.Dot → Bool} (w : World) (ho : Opn w g S) : Calls Try.prog 65 #[.pointer (some ⟨g, 0, none⟩)] w (SetPost (D.cU S) (D.cM S) w) := by
  have hgl := ho.lt
  obtain ⟨w2, hw2⟩ : ∃ W, (w.alloc (.cells (scs (fun _ => 0) none 0 0) 53)).alloc (.cells (scs (fun _ => 0) none 0 0) 125) = W := ⟨_, rfl⟩
  have hb2 : Below w.heap.size w w2 := by rw [← hw2]; exact b_alloc2 _ _ _
  have hz2 : w2.heap.size = w.heap.size + 2 := by rw [← hw2]; simp
  have hRes : Blo w2 w.heap.size 53 (scs (fun _ => 0) none 0 0) := by rw [← hw2]; exact (Blo.made _ _ _).alloc _
  have hC : Blo w2 (w.heap.size + 1) 125 (scs (fun _ => 0) none 0 0) := by
    rw [← hw2]
    have := Blo.made (w.alloc (.cells (scs (fun _ => 0) none 0 0) 53)) 125 (scs (fun _ => 0) none 0 0)
    simpa using this
  have hJ : Clo w2 (w.heap.size + 1) (w.heap.size + 1) (D.pU S 0) (D.pM S 0) := ⟨Nat.le_refl _, none, 0, by rw [D.pU_zero]; exact hC, DRow.nil _ _⟩
  have hE := each_any (.inl rfl) (closing_do (B := w.heap.size + 1) (p := w.heap.size + 1) S) w2 (ho.new hb2) (by omega) (by omega) hJ
  obtain ⟨Ue, hUe⟩ : ∃ V, D.pU S 768 = V := ⟨_, rfl⟩
  obtain ⟨Me, hMe⟩ : ∃ V, D.pM S 768 = V := ⟨_, rfl⟩
  rw [hUe, hMe] at hE
  have HU : Hid (∀ j, j < 8 → Ue j = D.cU S j) := Lib.hid (by rw [← hUe]; exact fun j hj => D.pU_end S hj)
  have HM : Hid (D.cM S = Me) := Lib.hid (by rw [← hMe]; exact D.pM_end S)
  clear hUe hMe
  have HW := Lib.hid hw2
  have hmf : ∀ (fn : Fn) (first cap : Array Value) (w : World), (Instr.makeFunc fn first cap).run Try.prog w = .ok (.func fn first cap) w := fun _ _ _ _ => rfl
  clear hw2 hJ hC
  go_enter Try.func65, Try.ntmps65
  go_wp2_with fail
  rw [HW.out]
  refine hE.mono ?_
  rintro e w3 ⟨rfl, ⟨_, A, c, hC3, hR3⟩, hb3⟩
  have hRes3 := hRes.below hb3 (by omega)
  have z0 : w3.cell? ⟨w.heap.size + 1, 0, none⟩ = some (.int .i64 (Ue 0)) := by simpa using hC3.cell 0
  have z1 : w3.cell? ⟨w.heap.size + 1, 1, none⟩ = some (.int .i64 (Ue 1)) := by simpa using hC3.cell 1
  have z2 : w3.cell? ⟨w.heap.size + 1, 2, none⟩ = some (.int .i64 (Ue 2)) := by simpa using hC3.cell 2
  have z3 : w3.cell? ⟨w.heap.size + 1, 3, none⟩ = some (.int .i64 (Ue 3)) := by simpa using hC3.cell 3
  have z4 : w3.cell? ⟨w.heap.size + 1, 4, none⟩ = some (.int .i64 (Ue 4)) := by simpa using hC3.cell 4
  have z5 : w3.cell? ⟨w.heap.size + 1, 5, none⟩ = some (.int .i64 (Ue 5)) := by simpa using hC3.cell 5
  have z6 : w3.cell? ⟨w.heap.size + 1, 6, none⟩ = some (.int .i64 (Ue 6)) := by simpa using hC3.cell 6
  have z7 : w3.cell? ⟨w.heap.size + 1, 7, none⟩ = some (.int .i64 (Ue 7)) := by simpa using hC3.cell 7
  have z8 : w3.cell? ⟨w.heap.size + 1, 8, none⟩ = some (.slice A Me.length c) := by simpa using hC3.cell 8
  have hne := hR3.blo hRes3 (by decide)
  clear hE hRes hC3
  go_wp2_with (refine wpList_setv _ rfl 53 _ _ rfl Try.sizeSet w.heap.size _ rfl Ue A Me.length c rfl hRes3 rfl ?_)
  intro w4 hRes4 hg4
  have hR4 : DRow w4 (w.heap.size + 1) (.slice A Me.length c) Me := hR3.grown hg4 (fun b hb e => hne (hb.trans e))
  have hb4 : Below w.heap.size w w4 := (hb2.trans (hb3.mono (by omega))).grown hg4 (by have := hb3.size; omega) (fun k hk => by injection hk with hk; omega)
  have y0 : w4.cell? ⟨w.heap.size, 0, none⟩ = some (.int .i64 (Ue 0)) := by simpa using hRes4.cell 0
  have y1 : w4.cell? ⟨w.heap.size, 1, none⟩ = some (.int .i64 (Ue 1)) := by simpa using hRes4.cell 1
  have y2 : w4.cell? ⟨w.heap.size, 2, none⟩ = some (.int .i64 (Ue 2)) := by simpa using hRes4.cell 2
  have y3 : w4.cell? ⟨w.heap.size, 3, none⟩ = some (.int .i64 (Ue 3)) := by simpa using hRes4.cell 3
  have y4 : w4.cell? ⟨w.heap.size, 4, none⟩ = some (.int .i64 (Ue 4)) := by simpa using hRes4.cell 4
  have y5 : w4.cell? ⟨w.heap.size, 5, none⟩ = some (.int .i64 (Ue 5)) := by simpa using hRes4.cell 5
  have y6 : w4.cell? ⟨w.heap.size, 6, none⟩ = some (.int .i64 (Ue 6)) := by simpa using hRes4.cell 6
  have y7 : w4.cell? ⟨w.heap.size, 7, none⟩ = some (.int .i64 (Ue 7)) := by simpa using hRes4.cell 7
  have y8 : w4.cell? ⟨w.heap.size, 8, none⟩ = some (.slice A Me.length c) := by simpa using hRes4.cell 8
  clear hRes3
  clear z0 z1 z2 z3 z4 z5 z6 z7 z8
  go_wp2
  refine bodyPost_ret (v := sv Ue A Me.length c) ?_ rfl ?_
  · simp [results, Try.results65, go_sem, y0, y1, y2, y3, y4, y5, y6, y7, y8]
  unfold SetPost
  rw [HM.out]
  exact ⟨A, c, by rw [sv_congr HU.out], hR4.mono (by omega), hb4⟩
end Go.Proofs.Ytedcgfcmhaeldaa
