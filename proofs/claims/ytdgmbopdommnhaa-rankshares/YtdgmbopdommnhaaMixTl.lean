/- Layer 5: words for telling eight bytes of a number. -/
import Derived.Test.YtdgmbopdommnhaaMixBits
namespace Go.Proofs.Ytdgmbopdommnhaa
open Go.ChangeShapes Go.WideShapes Go.ChangeAt Go.RowKit

/-- A byte more behind a row of the call's own, by append of a literal. -/
theorem nby_step {B : Nat} {w wr w1 : World} {l pre : List Nat} {v v' : Value} {x : Nat} {o : Obj}
    (hown : wr.ownsRow B 5 1 v (l ++ pre).length (nby (l ++ pre))) (hb : Below B w wr) (hB : B ≤ w.heap.size)
    {n' : Nat} {xs' : List Value} (hown' : w1.ownsRow B 5 1 v' n' xs') (hn : n' = (l ++ pre).length + 1) (hx : xs' = nby (l ++ pre) ++ [.int .u8 (x : Int)]) (hg : (wr.alloc o).grownBy w1 v.ownBlock) :
    w1.ownsRow B 5 1 v' (l ++ (pre ++ [x])).length (nby (l ++ (pre ++ [x]))) ∧ Below B w w1 := by
  have hs := hb.size
  constructor
  · have e1 : (l ++ (pre ++ [x])).length = (l ++ pre).length + 1 := by simp; omega
    have e2 : nby (l ++ (pre ++ [x])) = nby (l ++ pre) ++ [.int .u8 (x : Int)] := by simp
    rw [e1, e2, ← hn, ← hx]; exact hown'
  · refine (hb.alloc (by omega) o).grown hg (by simp; omega) fun k hk => (hown.lt k hk).1

theorem X.u8 (m : Nat) : IntKind.u8.wrap (m : Int) = ((m % 256 : Nat) : Int) := by simp [IntKind.wrap, IntKind.bits, IntKind.signed]

theorem X.wrapUn (n : Int) : IntKind.u64.wrap n = ((X.un n : Nat) : Int) := by
  unfold X.un
  simp only [IntKind.wrap, IntKind.bits, IntKind.signed]
  simp
  omega
/-- Nothing yet. -/
theorem own_nil (w : World) (B : Nat) : w.ownsRow B 5 1 (.slice none 0 0) 0 [] := ⟨rfl, .inl ⟨rfl, rfl⟩⟩

theorem own_new {w w' : World} {base : Nat} {t : TypeId} {v : Value} {n : Nat} {xs : List Value} (h : w.ownsRow base t 1 v n xs) (hb : Below w.heap.size w w') : w'.ownsRow base t 1 v n xs := own_keep h fun g _ hl => hb.block g hl

end Go.Proofs.Ytdgmbopdommnhaa
