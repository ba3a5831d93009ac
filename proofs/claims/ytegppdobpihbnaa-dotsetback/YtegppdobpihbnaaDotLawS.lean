/- Layer 6, words for the laws' own walks: what is said of temporaries in regions that draw their order. -/
import Derived.Test.YtegppdobpihbnaaDotTo
import Derived.Test.YtegppdobpihbnaaDotAlive
import Derived.Test.YtegppdobpihbnaaDotArgs
namespace Go.Proofs.Ytegppdobpihbnaa
set_option linter.unusedVariables false
set_option linter.unusedSimpArgs false
open Go.ChangeShapes Go.WideShapes Go.ChangeAt Go.RowKit

/-- A set and an error; the set of such; a block of a set. -/
def pairV (U : Nat → Int) (B N : Nat) (M : List D.Dot) (x : Int) : StG := ⟨fun u w => ∃ A c, u = .tuple #[sv U A N c, .int .i64 x] ∧ DRow w B (.slice A N c) M, fun _ _ _ h ⟨A, c, e, k⟩ => ⟨A, c, e, k.new h⟩⟩
def ownS (U : Nat → Int) (B N : Nat) (M : List D.Dot) : StG := ⟨fun u w => ∃ A c, u = sv U A N c ∧ DRow w B (.slice A N c) M, fun _ _ _ h ⟨A, c, e, k⟩ => ⟨A, c, e, k.new h⟩⟩
def ownD (B N : Nat) (M : List D.Dot) : StG := ⟨fun u w => ∃ A c, u = .slice A N c ∧ DRow w B (.slice A N c) M, fun _ _ _ h ⟨A, c, e, k⟩ => ⟨A, c, e, k.new h⟩⟩
def ptrV (B : Nat) (t : TypeId) (cs : Array Value) : StG := ⟨fun u w => ∃ g, u = .pointer (some ⟨g, 0, none⟩) ∧ Blo w g t cs ∧ B ≤ g, fun _ _ _ h ⟨g, e, k, l⟩ => ⟨g, e, k.new h, l⟩⟩
theorem Copy.at {w : World} {B : Nat} {A : Option Addr} {c : Nat} {l : List D.Dot} (h : Copy w B A c l) : Rds w (fun _ => True) A (dvs l) := h.rds.mono fun _ _ => trivial
end Go.Proofs.Ytegppdobpihbnaa
