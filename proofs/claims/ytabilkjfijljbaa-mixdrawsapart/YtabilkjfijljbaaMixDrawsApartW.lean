/- The walk of MixDrawsApart. -/
import Derived.Test.YtabilkjfijljbaaMixAlive
import Derived.Test.YtabilkjfijljbaaArgs
namespace Go.Proofs.Ytabilkjfijljbaa
open Go.ChangeShapes Go.WideShapes Go.ChangeAt Go.RowKit

theorem X.apart (s : Nat) : IntKind.u64.wrap (((X.next s : Nat) : Int) - (s : Int)) = 11400714819323198485 := by
  unfold X.next
  simp only [IntKind.wrap, IntKind.bits, IntKind.signed]
  simp
  omega
theorem X.next_ne (s : Nat) : X.next s ≠ s := by unfold X.next; omega

set_option maxHeartbeats 400000 in
theorem apart_yes (s : Nat) (n : Int) (w : World) (h0 : 0 ≤ n) (h1 : n < 256) :
    Calls Try.prog 5 #[.int .u64 (s : Int), .int .u8 n] w fun e w' => e = .returned (.bool true) ∧ Below w.heap.size w w' := by
  have a1 := X.apart s
  have a2 := X.apart (X.next s)
  have a3 : (((X.next s : Nat) : Int) != (s : Int)) = true := by have := X.next_ne s; simp; omega
  have D1 := fun (n : Int) (w : World) h0 h1 => draw_any s n w h0 h1
  have D2 := fun (n : Int) (w : World) h0 h1 => draw_any (X.next s) n w h0 h1
  generalize X.next (X.next s) = c at *
  generalize X.next s = b at *
  go_enter Try.func5, Try.ntmps5
  go_wp2_with fail
  refine (mix_alive w).mono ?_
  rintro e w1 ⟨rfl, hb1⟩
  go_wp2_with fail
  refine (D1 _ w1 (by omega) (by omega)).mono ?_
  rintro e w2 ⟨rfl, hd2⟩
  have hb2 := hb1.trans (hd2.below _)
  clear hb1 hd2 D1
  go_wp2_with fail
  refine (D2 _ w2 (by omega) (by omega)).mono ?_
  rintro e w3 ⟨rfl, hd3⟩
  have hb3 := hb2.trans (hd3.below _)
  clear hb2 hd3 D2
  go_wp2
  go_ret
  exact ⟨rfl, hb3⟩

theorem mixDrawsApart_walk {H : Type} (enc : TypeId × Value → H) (v0 v1 : Value) (w : World) (base : Nat) (d0 : DataW H) (p0 : List MemPlace) (d1 : DataW H) (p1 : List MemPlace)
    (o0 : Value.okWide Try.prog w .any base 23 v0) (k0 : DataW.Trod enc Try.prog w 0 (fun _ => true) true 23 v0 d0 p0) (o1 : Value.okWide Try.prog w .any base 5 v1) (k1 : DataW.Trod enc Try.prog w 0 (fun _ => true) true 5 v1 d1 p1) :
    Calls Try.prog 5 #[v0, v1] w fun e w' => e = .returned (.bool true) ∧ Below w.heap.size w w' := by
  obtain ⟨s, rfl, hs⟩ := arg_int Try.underlying23 o0 k0
  obtain ⟨n, rfl, hn⟩ := arg_int Try.underlying5 o1 k1
  obtain ⟨m, rfl, _⟩ := wf_u64 hs
  exact apart_yes m n w (wf_u8 hn).1 (wf_u8 hn).2
end Go.Proofs.Ytabilkjfijljbaa
