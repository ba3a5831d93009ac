/- Layer 4: rows of their own. -/
import Derived.Test.YtfllebfegngdhaaFrameOpen
namespace Go.Proofs.Ytfllebfegngdhaa
open Go.ChangeShapes Go.WideShapes Go.ChangeAt Go.RowKit

/-- What stands behind the frame. -/
def F.rest (l : List Int) : List Int := l.drop ((F.get l).2.2 + 4)
/-- A slice value that owns these cells, in memory from base on. -/
def Owns (w : World) (base : Nat) (v : Value) (l : List Int) : Prop := ∃ A c, v = .slice A l.length c ∧ w.ownsRow base 5 1 (.slice A l.length c) l.length (u8s l)
theorem Owns.mono {w : World} {base base' : Nat} {v : Value} {l : List Int} (h : Owns w base v l) (hb : base' ≤ base) : Owns w base' v l := by
  obtain ⟨A, c, e, h⟩ := h; exact ⟨A, c, e, own_mono h hb⟩
theorem Owns.new {w w' : World} {base : Nat} {v : Value} {l : List Int} (h : Owns w base v l) (hb : Below w.heap.size w w') : Owns w' base v l := by
  obtain ⟨A, c, e, h⟩ := h; exact ⟨A, c, e, own_keep h fun k _ hk => hb.block k hk⟩
end Go.Proofs.Ytfllebfegngdhaa
