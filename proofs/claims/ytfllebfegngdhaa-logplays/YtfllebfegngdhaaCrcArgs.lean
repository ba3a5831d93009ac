/- The sum of a row whose length is another word. -/
import Derived.Test.YtfllebfegngdhaaCrc
namespace Go.Proofs.Ytfllebfegngdhaa
open Go.ChangeShapes Go.WideShapes Go.ChangeAt Go.RowKit

theorem sum_at (S : Nat → Prop) (A : Option Addr) (n cap : Nat) (l : List Nat) (w : World) (hn : n = l.length) (hr : Rds w S A (nby l)) (hl : l.length ≤ 1000000) (hb : Small l) :
    Calls Try.prog 61 #[.slice A n cap] w fun e w' => e = .returned (.int .u32 (C.more 0 l : Nat)) ∧ w = w' := by
  subst hn
  exact sum_any S A cap l w hr hl hb
end Go.Proofs.Ytfllebfegngdhaa
