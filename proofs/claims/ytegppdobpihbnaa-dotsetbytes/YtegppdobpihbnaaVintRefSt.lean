/- The document's own reader, whatever its state: Fail, Int. -/
import Derived.Test.YtegppdobpihbnaaVintRefRd
import Derived.Test.YtegppdobpihbnaaVintSt
namespace Go.Proofs.Ytegppdobpihbnaa
open Go.ChangeShapes Go.WideShapes Go.ChangeAt Go.RowKit

set_option maxHeartbeats 400000 in
theorem rfail_any {g h p : Nat} {L : List Int} {x n : Int} {w : World} (hr : Mr w g h L p x) :
    Calls Try.prog 62 #[.pointer (some ⟨g, 0, none⟩), .int .i64 n] w fun e w' => e = .returned (.tuple #[]) ∧ Mr w' g h L p (if x = 0 then n else x) ∧ w.grownBy w' (some g) := by
  have R := hr.setE n
  obtain ⟨A, c, c0, c1, c2, f1, f2, _, _⟩ := hr.cells
  by_cases hx : x = 0
  · subst hx
    rw [if_pos rfl]
    go_enter Try.func62, Try.ntmps62
    go_wp2
    go_end0
    exact ⟨rfl, R.1, R.2⟩
  · rw [if_neg hx]
    have hx' : (x == 0) = false := by simpa using hx
    go_enter Try.func62, Try.ntmps62
    go_wp2
    go_end0
    exact ⟨rfl, hr, World.grownBy.refl _ _⟩

set_option maxHeartbeats 1000000 in
theorem rint_failed {g h p : Nat} {L : List Int} {x : Int} {w : World} (hr : Mr w g h L p x) (hx : x ≠ 0) :
    Calls Try.prog 61 #[.pointer (some ⟨g, 0, none⟩)] w fun e w' => e = .returned (.int .i64 0) ∧ w = w' := by
  obtain ⟨A, c, z0, z1, z2, y1, y2, hc, hrr⟩ := hr.cells
  have hx' : (x != 0) = true := by simpa using hx
  go_enter Try.func61, Try.ntmps61
  go_wp2
  go_ret
  exact ⟨rfl, rfl⟩

/-! ### each part, whatever the reader's state: the document's reader stands as a list that is left -/
/-- The document's reader with what it has left. -/
def Ml (w : World) (g h : Nat) (L l : List Int) (x : Int) : Prop := ∃ p, Mr w g h L p x ∧ L.drop p = l
section
variable {w w' : World} {g h : Nat} {L l : List Int} {x : Int}
theorem Ml.grown {row : Option Nat} (hr : Ml w g h L l x) (hb : w.grownBy w' row) (hg : some g ≠ row) (hh : some h ≠ row) : Ml w' g h L l x := by
  obtain ⟨p, hr, e⟩ := hr
  exact ⟨p, hr.grown hb hg hh, e⟩
theorem Ml.new (hr : Ml w g h L l x) (hb : Below w.heap.size w w') : Ml w' g h L l x := by
  obtain ⟨p, hr, e⟩ := hr
  exact ⟨p, hr.new hb, e⟩
theorem Ml.lt (hr : Ml w g h L l x) : g < w.heap.size := by obtain ⟨p, hr, e⟩ := hr; exact hr.lt
theorem Ml.lth (hr : Ml w g h L l x) : h < w.heap.size := by obtain ⟨p, hr, e⟩ := hr; exact hr.lth
end

def RIntAll (g h : Nat) (L : List Int) (s : Int × List Int × Int) (w : World) (e : Ending) (w' : World) : Prop := e = .returned (.int .i64 s.1) ∧ Ml w' g h L s.2.1 s.2.2 ∧ w.grownBy w' (some g)
theorem rint_all {g h : Nat} {L l : List Int} {x : Int} {w : World} (hr : Ml w g h L l x) : Calls Try.prog 61 #[.pointer (some ⟨g, 0, none⟩)] w (RIntAll g h L (V.intS l x) w) := by
  obtain ⟨p, hr, rfl⟩ := hr
  by_cases hx : x = 0
  · subst hx
    refine (rint_any hr).mono ?_
    rintro e w' ⟨he, hm, hg⟩
    exact ⟨he, ⟨_, hm, by show _ = (L.drop p).drop _; rw [List.drop_drop]⟩, hg⟩
  · have e : V.intS (L.drop p) x = (0, L.drop p, x) := by unfold V.intS; rw [if_neg hx]
    rw [e]
    refine (rint_failed hr hx).mono ?_
    rintro e w' ⟨he, rfl⟩
    exact ⟨he, ⟨p, hr, rfl⟩, World.grownBy.refl _ _⟩

theorem mr_made {w w1 : World} {A : Option Addr} {c : Nat} {L : List Int} (hB : Byt L) (hl : L.length ≤ 1000000) (hown : w1.ownsRow w.heap.size 5 1 (.slice A L.length c) L.length (u8s L)) (hs : w.heap.size ≤ w1.heap.size) :
    ∃ h, Ml (w1.alloc (.cells #[.slice A L.length c, .int .i64 0, .int .i64 0] 89)) w1.heap.size h L L 0 ∧ w.heap.size ≤ h := by
  have hr := own_rds hown
  obtain ⟨A', c', e, hc, hnil⟩ := own_form hown
  injection e with e1 _ e3
  subst e1; subst e3
  rcases A with _ | ad
  · obtain ⟨h0, h1⟩ := hnil rfl
    have : L = [] := List.eq_nil_of_length_eq_zero h0
    subst this
    exact ⟨w1.heap.size, ⟨0, ⟨fun h => absurd rfl h, by simp, hB, hl, by simp, none, _, Blo.made _ _ _, by omega, Rds.nil⟩, rfl⟩, by omega⟩
  · have hlt := hown.lt ad.block rfl
    refine ⟨ad.block, ⟨0, ⟨fun _ => by omega, by simp; omega, hB, hl, by omega, _, _, Blo.made _ _ _, hc, ?_⟩, rfl⟩, by omega⟩
    exact (hr.alloc _).mono fun b hb => by have := hb.2; simp [Value.ownBlock] at this; exact this.symm

theorem Ml.cells {w : World} {g h : Nat} {L l : List Int} {x : Int} (hr : Ml w g h L l x) : ∃ A c, ∃ p : Nat, w.cell? ⟨g, 0, none⟩ = some (.slice A L.length c) ∧ w.cell? ⟨g, 1, none⟩ = some (.int .i64 p) ∧ w.cell? ⟨g, 2, none⟩ = some (.int .i64 x) ∧ l.length + p = L.length := by
  obtain ⟨p, hr, rfl⟩ := hr
  have hp := hr.2.2.2.2.1
  obtain ⟨A, c, z0, z1, z2, _⟩ := hr.cells
  exact ⟨A, c, p, z0, z1, z2, by simp; omega⟩
theorem rfail_all {g h : Nat} {L l : List Int} {x n : Int} {w : World} (hr : Ml w g h L l x) :
    Calls Try.prog 62 #[.pointer (some ⟨g, 0, none⟩), .int .i64 n] w fun e w' => e = .returned (.tuple #[]) ∧ Ml w' g h L l (if x = 0 then n else x) ∧ w.grownBy w' (some g) := by
  obtain ⟨p, hr, e⟩ := hr
  exact (rfail_any hr).mono fun _ _ ⟨h1, h2, h3⟩ => ⟨h1, ⟨p, h2, e⟩, h3⟩

end Go.Proofs.Ytegppdobpihbnaa
