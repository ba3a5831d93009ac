/- Layer 6, words for the laws' own walks: what is said of temporaries in regions that draw their order; a row written over. -/
import Derived.Test.YtegppdobpihbnaaDotRefAdd
import Derived.Test.YtegppdobpihbnaaDotTo
import Derived.Test.YtegppdobpihbnaaDotAlive
import Derived.Test.YtegppdobpihbnaaDotArgs
namespace Go.Proofs.Ytegppdobpihbnaa
set_option linter.unusedVariables false
set_option linter.unusedSimpArgs false
open Go.ChangeShapes Go.WideShapes Go.ChangeAt Go.RowKit

/-- A set and an error; the set of such; a block of a set. -/
def pairV (U : Nat → Int) (B N : Nat) (M : List D.Dot) (x : Int) : StG := ⟨fun u w => ∃ A c, u = .tuple #[sv U A N c, .int .i64 x] ∧ DRow w B (.slice A N c) M, fun _ _ _ h ⟨A, c, e, k⟩ => ⟨A, c, e, k.new h⟩⟩
def ownS (U : Nat → Int) (B N : Nat) (M : List D.Dot) : StG := ⟨fun u w => ∃ A c, u = sv U A N c ∧ DRow w B (.slice A N c) M, fun _ _ _ h ⟨A, c, e, k⟩ => ⟨A, c, e, k.new h⟩⟩
def ownD (B N : Nat) (M : List D.Dot) : StG := ⟨fun u w => ∃ A c, u = .slice A N c ∧ DRow w B (.slice A N c) M, fun _ _ _ h ⟨A, c, e, k⟩ => ⟨A, c, e, k.new h⟩⟩
def ptrV (B : Nat) (t : TypeId) (cs : Array Value) : StG := ⟨fun u w => ∃ g, u = .pointer (some ⟨g, 0, none⟩) ∧ Blo w g t cs ∧ B ≤ g, fun _ _ _ h ⟨g, e, k, l⟩ => ⟨g, e, k.new h, l⟩⟩
theorem Copy.at {w : World} {B : Nat} {A : Option Addr} {c : Nat} {l : List D.Dot} (h : Copy w B A c l) : Rds w (fun _ => True) A (dvs l) := h.rds.mono fun _ _ => trivial

/-- A row of dots that is written over: its cells stand, nothing else has turned. -/
def DSoft (w wr : World) (A : Option Addr) (n : Nat) : Prop :=
  w.grownBy wr (Value.slice A n 0).ownBlock ∧ (0 < n → ∃ g cur, A = some ⟨g, 0, none⟩ ∧ Blo wr g 27 cur ∧ n * 2 ≤ cur.size)
theorem DSoft.start {w : World} {B : Nat} {A : Option Addr} {n c : Nat} {l : List D.Dot} (h : DRow w B (.slice A n c) l) (hn : l.length = n) : DSoft w w A n := by
  refine ⟨World.grownBy.refl w _, fun h0 => ?_⟩
  rcases h.2 with ⟨_, h1⟩ | ⟨g, cap, cur, e, _, hh, hc, _, hs, _⟩
  · omega
  · injection e with e1 e2 e3
    subst e1
    exact ⟨g, cur, rfl, hh, by rw [hs]; omega⟩
theorem DSoft.at {w wr : World} {A : Option Addr} {n : Nat} (h : DSoft w wr A n) {i : Nat} (hi : i < n) :
    ∃ g v, A = some ⟨g, 0, none⟩ ∧ wr.cell? ⟨g, i * 2 + 1, none⟩ = some v ∧ wr.frozen? ⟨g, i * 2 + 1, none⟩ = false ∧ ∀ y : Value, DSoft w (wr.setCell ⟨g, i * 2 + 1, none⟩ y) A n := by
  obtain ⟨hg, hc⟩ := h
  obtain ⟨g, cur, rfl, hb, hz⟩ := hc (by omega)
  refine ⟨g, cur[i * 2 + 1]'(by omega), rfl, (hb.cell _).trans (Array.getElem?_eq_getElem (by omega)), hb.frozen _, fun y => ⟨gb_set (g := g) (p := ⟨g, i * 2 + 1, none⟩) hg (.inl rfl) _, fun _ => ⟨g, _, rfl, hb.put _ y, by simpa using hz⟩⟩⟩
theorem DSoft.below {w wr : World} {B : Nat} {A : Option Addr} {n c : Nat} {l : List D.Dot} (h : DSoft w wr A n) (hR : DRow w B (.slice A n c) l) (hB : B ≤ w.heap.size) : Below B w wr := by
  refine (Below.refl B w).grown h.1 hB fun k hk => ?_
  rw [ownBlock_any A n 0 n c] at hk
  exact (hR.lt k hk).1
end Go.Proofs.Ytegppdobpihbnaa
