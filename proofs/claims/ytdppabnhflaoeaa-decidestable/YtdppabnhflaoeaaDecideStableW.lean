/- The walk of DecideStable: its arguments opened. -/
import Derived.Test.YtdppabnhflaoeaaDecLaw1
namespace Go.Proofs.Ytdppabnhflaoeaa
set_option linter.unusedVariables false
set_option linter.unusedSimpArgs false
open Go.ChangeShapes Go.WideShapes Go.ChangeAt Go.RowKit

theorem decideStable_walk {H : Type} (enc : TypeId × Value → H) (v0 : Value) (v1 : Value) (v2 : Value) (w : World) (base : Nat) (d0 : DataW H) (p0 : List MemPlace) (d1 : DataW H) (p1 : List MemPlace) (d2 : DataW H) (p2 : List MemPlace)
    (o0 : Value.okWide Try.prog w .any base 35 v0) (k0 : DataW.Trod enc Try.prog w 0 (fun _ => true) true 35 v0 d0 p0)
    (o1 : Value.okWide Try.prog w .any base 3 v1) (k1 : DataW.Trod enc Try.prog w 0 (fun _ => true) true 3 v1 d1 p1)
    (o2 : Value.okWide Try.prog w .any base 3 v2) (k2 : DataW.Trod enc Try.prog w 0 (fun _ => true) true 3 v2 d2 p2) :
    Calls Try.prog 4 #[v0, v1, v2] w fun e w' => e = .returned (.bool true) ∧ Below w.heap.size w w' := by
  obtain ⟨A, n, c, zs, rfl, h⟩ := arg_ints Try.underlying35 Try.underlying3 (by kernel_rfl) o0 k0
  obtain ⟨a, rfl, _⟩ := arg_int Try.underlying3 o1 k1
  obtain ⟨t, rfl, _⟩ := arg_int Try.underlying3 o2 k2
  exact decstable_main _ A n c (zs.take n) a t w h.len.1 h.rds
end Go.Proofs.Ytdppabnhflaoeaa
