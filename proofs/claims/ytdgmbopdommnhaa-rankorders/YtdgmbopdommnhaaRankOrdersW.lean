/- The walk of RankOrders: its arguments opened. -/
import Derived.Test.YtdgmbopdommnhaaRnkLaw1
import Derived.Test.YtdgmbopdommnhaaRnkArgs
namespace Go.Proofs.Ytdgmbopdommnhaa
set_option linter.unusedVariables false
set_option linter.unusedSimpArgs false
open Go.ChangeShapes Go.WideShapes Go.ChangeAt Go.RowKit

theorem rankOrders_walk {H : Type} (enc : TypeId × Value → H) (v0 : Value) (v1 : Value) (v2 : Value) (w : World) (base : Nat) (d0 : DataW H) (p0 : List MemPlace) (d1 : DataW H) (p1 : List MemPlace) (d2 : DataW H) (p2 : List MemPlace)
    (o0 : Value.okWide Try.prog w .any base 22 v0) (k0 : DataW.Trod enc Try.prog w 0 (fun _ => true) true 22 v0 d0 p0)
    (o1 : Value.okWide Try.prog w .any base 3 v1) (k1 : DataW.Trod enc Try.prog w 0 (fun _ => true) true 3 v1 d1 p1)
    (o2 : Value.okWide Try.prog w .any base 23 v2) (k2 : DataW.Trod enc Try.prog w 0 (fun _ => true) true 23 v2 d2 p2) :
    Calls Try.prog 3 #[v0, v1, v2] w fun e w' => e = .returned (.bool true) ∧ Below w.heap.size w w' := by
  obtain ⟨A, n, c, zs, rfl, h⟩ := arg_ints Try.underlying22 Try.underlying3 (by kernel_rfl) o0 k0
  obtain ⟨k, rfl, _⟩ := arg_int Try.underlying3 o1 k1
  obtain ⟨y, rfl, hy⟩ := arg_int Try.underlying23 o2 k2
  obtain ⟨s, rfl, hs⟩ := nat_u64 hy
  exact rnkorders_main _ A n c (zs.take n) k s w hs h.len.1 h.rds
end Go.Proofs.Ytdgmbopdommnhaa
