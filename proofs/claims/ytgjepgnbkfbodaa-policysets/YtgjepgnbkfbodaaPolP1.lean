/- Layer 9, the program's: rivals of a workload, what is later of two, as a comparison. -/
import Derived.Test.YtgjepgnbkfbodaaPolMem
import Derived.Test.YtgjepgnbkfbodaaEvLater
namespace Go.Proofs.Ytgjepgnbkfbodaa
set_option linter.unusedVariables false
set_option linter.unusedSimpArgs false
open Go.ChangeShapes Go.WideShapes Go.ChangeAt Go.RowKit

set_option maxRecDepth 100000 in
set_option maxHeartbeats 2000000 in
theorem prlater_any (F G : Nat → Int) (A : Option Addr) (n c : Nat) (B : Option Addr) (m d : Nat) (w : World) : Calls Try.prog 26 #[ev F A n c, ev G B m d] w fun e w' => e = .returned (.bool (E.later F G)) ∧ Below w.heap.size w w' := by
  have hc := fun W => later_any F G A n c B m d W
  go_enter Try.func26, Try.ntmps26
  go_wp2_with fail
  refine (hc _).mono ?_
  rintro e w1 ⟨rfl, hb⟩
  go_wp2
  go_ret
  exact ⟨rfl, below_new (b_alloc2 _ _ _) hb⟩

/-- What a comparison comes to. -/
def cmpE (F G : Nat → Int) : Int := if E.later F G = true then -1 else if E.later G F = true then 1 else 0
/-- The captured function. -/
def CmpAt (w : World) (p : Nat) : Prop := Blo w p 57 #[.func (.func 26) #[] #[]]
abbrev cmpV (p : Nat) : Value := .func (.func 41) #[] #[.pointer (some ⟨p, 0, none⟩)]

set_option maxRecDepth 100000 in
set_option maxHeartbeats 4000000 in
theorem by1_any (F G : Nat → Int) (A : Option Addr) (n c : Nat) (B : Option Addr) (m d p : Nat) (w : World) (hp : CmpAt w p) : Calls Try.prog 41 #[ev F A n c, ev G B m d, .pointer (some ⟨p, 0, none⟩)] w fun e w' => e = .returned (.int .i64 (cmpE F G)) ∧ Below w.heap.size w w' := by
  have h1 := fun W => prlater_any F G A n c B m d W
  have h2 := fun W => prlater_any G F B m d A n c W
  have H1 := Lib.hid h1
  have H2 := Lib.hid h2
  clear h1 h2
  have hp1 : ((w.alloc (.cells (ecs F A n c) 54)).alloc (.cells (ecs G B m d) 54)).cell? ⟨p, 0, none⟩ = some (.func (.func 26) #[] #[]) := by simpa using (Blo.new hp (b_alloc2 w _ _)).cell 0
  cases e1 : E.later F G with
  | true =>
    have HC : Hid (cmpE F G = -1) := Lib.hid (by unfold cmpE; rw [if_pos e1])
    go_enter Try.func41, Try.ntmps41
    go_wp2_with fail
    refine (H1.out _).mono ?_
    rintro e w1 ⟨rfl, hb⟩
    rw [e1]
    go_wp2
    go_ret
    exact ⟨ret_int HC.out.symm, below_new (b_alloc2 _ _ _) hb⟩
  | false =>
    obtain ⟨w0, hw0⟩ : ∃ W, (w.alloc (.cells (ecs F A n c) 54)).alloc (.cells (ecs G B m d) 54) = W := ⟨_, rfl⟩
    have hb0 : Below w.heap.size w w0 := by rw [← hw0]; exact b_alloc2 _ _ _
    have hX : Blo w0 w.heap.size 54 (ecs F A n c) := by rw [← hw0]; exact (Blo.made _ _ _).alloc _
    have hY : Blo w0 (w.heap.size + 1) 54 (ecs G B m d) := by
      rw [← hw0]
      have := Blo.made (w.alloc (.cells (ecs F A n c) 54)) 54 (ecs G B m d)
      simpa using this
    have HC : Hid (cmpE F G = if E.later G F = true then 1 else 0) := Lib.hid (by unfold cmpE; rw [if_neg (by rw [e1]; decide)])
    have HW := Lib.hid hw0
    clear hw0
    go_enter Try.func41, Try.ntmps41
    go_wp2_with fail
    refine (H1.out _).mono ?_
    rintro e w1 ⟨rfl, hb⟩
    rw [e1]
    rw [HW.out] at hb
    have hp2 : w1.cell? ⟨p, 0, none⟩ = some (.func (.func 26) #[] #[]) := by simpa using (Blo.new (Blo.new hp hb0) hb).cell 0
    obtain ⟨x0, x1, x2, x3, x4, x5, x6, x7, x8, x9, x10, x11, x12, x13⟩ := set14 (hX.new hb)
    obtain ⟨y0, y1, y2, y3, y4, y5, y6, y7, y8, y9, y10, y11, y12, y13⟩ := set14 (hY.new hb)
    have hb01 := below_new hb0 hb
    clear hb hX hY hb0 hp1 HW H1
    go_wp2_with fail
    refine (H2.out _).mono ?_
    rintro e w2 ⟨rfl, hb⟩
    cases e2 : E.later G F with
    | true =>
      have HD : Hid (cmpE F G = 1) := Lib.hid (by rw [HC.out, if_pos e2])
      go_wp2
      go_ret
      exact ⟨ret_int HD.out.symm, below_new hb01 hb⟩
    | false =>
      have HD : Hid (cmpE F G = 0) := Lib.hid (by rw [HC.out, if_neg (by rw [e2]; decide)])
      go_wp2
      go_ret
      exact ⟨ret_int HD.out.symm, below_new hb01 hb⟩
end Go.Proofs.Ytgjepgnbkfbodaa
