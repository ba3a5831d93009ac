/- slices.Clone of a row of dots. -/
import Derived.Test.YtodlifbhpgphcaaEvRefSame
import Derived.Lib.SliceRun
namespace Go.Proofs.Ytodlifbhpgphcaa
set_option linter.unusedVariables false
set_option linter.unusedSimpArgs false
open Go.ChangeShapes Go.WideShapes Go.ChangeAt Go.RowKit

def ClonePost (M : List D.Dot) (w : World) (e : Ending) (w' : World) : Prop :=
  ∃ A c, e = .returned (.slice A M.length c) ∧ Copy w' w.heap.size A c M ∧ Below w.heap.size w w'
set_option maxRecDepth 100000 in
set_option maxHeartbeats 2000000 in
theorem clone_any (S : Nat → Prop) (A : Option Addr) (n c : Nat) (M : List D.Dot) (w : World) (hn : M.length = n) (hr : Rds w S A (dvs M)) (hl : n ≤ 1000000) :
    Calls Try.prog 21 #[.slice A n c] w (ClonePost M w) := by
  have HN := Lib.hid hn
  clear hn
  have hnil : ∀ W : World, (binOp .eql 44 (.slice A n c) (.slice none 0 0)).run Try.prog W = .ok (.bool A.isNone) W := fun W => Lib.run_eql_slice_nil W 44 41 A n c 0 0 Try.underlying44
  cases A with
  | none =>
    have hM : M = [] := by
      cases M with
      | nil => rfl
      | cons d M =>
        obtain ⟨ad, e, _⟩ := hr 0 (.int .i64 d.1) rfl
        cases e
    have H0 : Hid (M.length = 0) := Lib.hid (by rw [hM]; rfl)
    have HM := Lib.hid hM
    clear hM
    go_enter Try.func21, Try.ntmps21
    go_wp2
    go_ret
    exact ⟨none, 0, by rw [H0.out]; rfl, ⟨by rw [H0.out]; exact Nat.le_refl _, .inl HM.out⟩, Below.refl _ _⟩
  | some ad =>
    go_enter Try.func21, Try.ntmps21
    go_wp2_with (at_builtin; refine wpList_dapp0 _ rfl _ _ rfl _ rfl S (some ad) n c M rfl HN.out (hr.alloc _) hl ?_)
    intro A2 c2 w2 hC2 hb2
    go_wp2
    go_ret
    unfold ClonePost
    rw [HN.out]
    exact ⟨A2, c2, rfl, hC2.mono (by simp), below_new (b_alloc w (.cells #[] 41)) (by simpa using hb2)⟩
end Go.Proofs.Ytodlifbhpgphcaa
