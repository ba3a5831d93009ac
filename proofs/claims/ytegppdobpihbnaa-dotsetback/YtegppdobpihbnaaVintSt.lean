/- Contracts of layer 2's reader, whatever its state: Fail, Int. -/
import Derived.Test.YtegppdobpihbnaaVintFace
namespace Go.Proofs.Ytegppdobpihbnaa
open Go.ChangeShapes Go.WideShapes Go.ChangeAt Go.RowKit

set_option maxHeartbeats 400000 in
theorem fail_any {g h : Nat} {l : List Int} {x n : Int} {w : World} (hr : Rdr w g h l x) :
    Calls Try.prog 51 #[.pointer (some ⟨g, 0, none⟩), .int .i64 n] w fun e w' => e = .returned (.tuple #[]) ∧ Rdr w' g h l (if x = 0 then n else x) ∧ w.grownBy w' (some g) := by
  have R := rdr_fail hr n
  by_cases hx : x = 0
  · subst hx
    have hr0 := hr
    obtain ⟨_, _, _, _, A, c, hb, _, _⟩ := hr
    have c1 := hb.cell 1
    have f1 := hb.frozen 1
    simp at c1
    rw [if_pos rfl]
    go_enter Try.func51, Try.ntmps51
    go_wp2_with fail
    refine (err_any hr0).mono ?_
    rintro e w1 ⟨rfl, rfl⟩
    go_wp2
    go_end0
    exact ⟨rfl, R.1, R.2⟩
  · rw [if_neg hx]
    have hx' : (x == 0) = false := by simpa using hx
    go_enter Try.func51, Try.ntmps51
    go_wp2_with fail
    refine (err_any hr).mono ?_
    rintro e w1 ⟨rfl, rfl⟩
    go_wp2
    go_end0
    exact ⟨rfl, hr, World.grownBy.refl _ _⟩

/-- The answer, what is left, how it stands. -/
def V.intS (l : List Int) (x : Int) : Int × List Int × Int := if x = 0 then ((V.int l).1, l.drop (V.int l).2.1, (V.int l).2.2) else (0, l, x)
def IntAll (g h : Nat) (s : Int × List Int × Int) (w : World) (e : Ending) (w' : World) : Prop := e = .returned (.int .i64 s.1) ∧ Rdr w' g h s.2.1 s.2.2 ∧ w.grownBy w' (some g)
theorem int_all {g h : Nat} {l : List Int} {x : Int} {w : World} (hr : Rdr w g h l x) : Calls Try.prog 60 #[.pointer (some ⟨g, 0, none⟩)] w (IntAll g h (V.intS l x) w) := by
  by_cases hx : x = 0
  · subst hx
    have e : V.intS l 0 = ((V.int l).1, l.drop (V.int l).2.1, (V.int l).2.2) := rfl
    rw [e]
    exact int_any hr
  · have e : V.intS l x = (0, l, x) := by unfold V.intS; rw [if_neg hx]
    rw [e]
    exact (int_failed hr hx).mono fun _ _ ⟨he, hb⟩ => ⟨he, hr.new hb, gb_below hb _⟩

end Go.Proofs.Ytegppdobpihbnaa
