/- Contracts of layer 2's reader, whatever its state: Int. -/
import Derived.Test.YtlckappnpdkihaaVintFace
namespace Go.Proofs.Ytlckappnpdkihaa
open Go.ChangeShapes Go.WideShapes Go.ChangeAt Go.RowKit

/-- The answer, what is left, how it stands. -/
def V.intS (l : List Int) (x : Int) : Int × List Int × Int := if x = 0 then ((V.int l).1, l.drop (V.int l).2.1, (V.int l).2.2) else (0, l, x)
def IntAll (g h : Nat) (s : Int × List Int × Int) (w : World) (e : Ending) (w' : World) : Prop := e = .returned (.int .i64 s.1) ∧ Rdr w' g h s.2.1 s.2.2 ∧ w.grownBy w' (some g)
theorem int_all {g h : Nat} {l : List Int} {x : Int} {w : World} (hr : Rdr w g h l x) : Calls Try.prog 74 #[.pointer (some ⟨g, 0, none⟩)] w (IntAll g h (V.intS l x) w) := by
  by_cases hx : x = 0
  · subst hx
    have e : V.intS l 0 = ((V.int l).1, l.drop (V.int l).2.1, (V.int l).2.2) := rfl
    rw [e]
    exact int_any hr
  · have e : V.intS l x = (0, l, x) := by unfold V.intS; rw [if_neg hx]
    rw [e]
    exact (int_failed hr hx).mono fun _ _ ⟨he, hb⟩ => ⟨he, hr.new hb, gb_below hb _⟩

end Go.Proofs.Ytlckappnpdkihaa
