/- The walk of RankShares: its arguments opened. -/
import Derived.Test.YtdgmbopdommnhaaRnkShrs
import Derived.Test.YtdgmbopdommnhaaRnkArgs
namespace Go.Proofs.Ytdgmbopdommnhaa
set_option linter.unusedVariables false
set_option linter.unusedSimpArgs false
open Go.ChangeShapes Go.WideShapes Go.ChangeAt Go.RowKit

theorem rankShares_walk {H : Type} (enc : TypeId × Value → H) (v0 : Value) (v1 : Value) (w : World) (base : Nat) (d0 : DataW H) (p0 : List MemPlace) (d1 : DataW H) (p1 : List MemPlace)
    (o0 : Value.okWide Try.prog w .any base 22 v0) (k0 : DataW.Trod enc Try.prog w 0 (fun _ => true) true 22 v0 d0 p0)
    (o1 : Value.okWide Try.prog w .any base 23 v1) (k1 : DataW.Trod enc Try.prog w 0 (fun _ => true) true 23 v1 d1 p1) :
    Calls Try.prog 5 #[v0, v1] w fun e w' => e = .returned (.bool true) ∧ Below w.heap.size w w' := by
  obtain ⟨A, n, c, zs, rfl, h⟩ := arg_ints Try.underlying22 Try.underlying3 (by kernel_rfl) o0 k0
  obtain ⟨y, rfl, hy⟩ := arg_int Try.underlying23 o1 k1
  obtain ⟨s, rfl, hs⟩ := nat_u64 hy
  exact rnkshares_main _ A n c (zs.take n) s w hs h.len.1 h.rds
end Go.Proofs.Ytdgmbopdommnhaa
