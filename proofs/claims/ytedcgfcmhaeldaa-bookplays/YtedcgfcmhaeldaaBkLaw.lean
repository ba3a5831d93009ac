/- Layer 8: books in a law's world. -/
import Derived.Test.YtedcgfcmhaeldaaBkP4
namespace Go.Proofs.Ytedcgfcmhaeldaa
set_option linter.unusedVariables false
set_option linter.unusedSimpArgs false
open Go.ChangeShapes Go.WideShapes Go.ChangeAt Go.RowKit

/-- A book that was made behind w0. -/
structure Bok (w0 W : World) (g : Nat) (m : Option Nat) (b : B.Bk) : Prop where
  pb : PB W (fun _ => True) g m b
  gl : w0.heap.size ≤ g
  ml : ∀ x, m = some x → w0.heap.size ≤ x
  bl : Below w0.heap.size w0 W
section
variable {w0 W W' : World} {g : Nat} {m m' : Option Nat} {b b' : B.Bk} {S : Nat → Prop}
theorem Bok.new (h : Bok w0 W g m b) (hb : Below W.heap.size W W') : Bok w0 W' g m b := ⟨h.pb.new hb, h.gl, h.ml, below_new h.bl hb⟩
theorem PB.blo {x : Nat} {t : TypeId} {cs : Array Value} (k : PB W S g m b) (hK : Kpt W W' g m) (h : Blo W x t cs) (hx : x ≠ g) : Blo W' x t cs := by
  obtain ⟨_, T, _, h3⟩ := k
  obtain ⟨f, hm, _⟩ := h3.map
  exact h.keep (hK.block x h.lt hx (hm.blo h))
theorem Bok.step (h : Bok w0 W g m b) (hK : Kpt W W' g m) (hP : PB W' S g m' b') (hm : m' = m ∨ m = none ∧ ∃ x, m' = some x ∧ W.heap.size ≤ x) : Bok w0 W' g m' b' ∧ ∀ x, m' = some x → m = some x ∨ W.heap.size ≤ x := by
  have hs := h.bl.size
  refine ⟨⟨hP.mono fun _ _ => trivial, h.gl, fun x hx => ?_, h.bl.trans (hK.below hs h.gl h.ml)⟩, fun x hx => ?_⟩
  · rcases hm with rfl | ⟨_, y, hy, hl⟩
    · exact h.ml x hx
    · rw [hy] at hx; injection hx with hx; omega
  · rcases hm with rfl | ⟨_, y, hy, hl⟩
    · exact .inl hx
    · rw [hy] at hx; injection hx with hx; right; omega
/-- Events in old memory are read as they were. -/
theorem Bok.rds {A : Option Addr} {xs : List Value} (h : Bok w0 W g m b) (hr : Rds w0 (fun b => b < w0.heap.size) A xs) : Rds W (fun b => b < w0.heap.size) A xs := hr.below h.bl fun b hb _ => hb
theorem Bok.erds {A : Option Addr} {l : List EvV} (h : Bok w0 W g m b) (hr : ERds w0 (fun b => b < w0.heap.size) A l) : ERds W (fun b => b < w0.heap.size) A l := hr.below h.bl fun b hb _ => hb
theorem Bok.lt (h : Bok w0 W g m b) : g < W.heap.size := h.pb.lt
end
/-- What Add leaves of a law's book. -/
def AddB (w0 : World) (g : Nat) (m : Option Nat) (b : B.Bk) (e : E.Ev) (W : World) (r : Ending) (W' : World) : Prop :=
  r = .returned (.int .i64 (B.addE b e)) ∧ (∃ m', Bok w0 W' g m' (B.add b e) ∧ ∀ x, m' = some x → m = some x ∨ W.heap.size ≤ x) ∧ Kpt W W' g m
theorem badd_bok {w0 W : World} {g : Nat} {m : Option Nat} {b : B.Bk} (S2 : Nat → Prop) (F : Nat → Int) (A : Option Addr) (n c : Nat) (M : List D.Dot) (h : Bok w0 W g m b) (hn : M.length = n) (hr : Rds W S2 A (dvs M)) (hS : ∀ b, S2 b → b ≠ g) (hl : n ≤ maxLen) :
    Calls Try.prog 13 #[.pointer (some ⟨g, 0, none⟩), ev F A n c] W (AddB w0 g m b (F, M) W) := by
  refine (badd_any S2 F A n c M W h.pb hn hr hS hl).mono ?_
  rintro r W' ⟨rfl, ⟨m', h1, h2⟩, h3⟩
  exact ⟨rfl, ⟨m', h.step h3 h1 h2⟩, h3⟩
theorem bnew_bok {w0 W : World} (hb : Below w0.heap.size w0 W) : Calls Try.prog 11 #[] W fun e W' => e = .returned (.pointer (some ⟨W.heap.size, 0, none⟩)) ∧ Bok w0 W' W.heap.size none B.new ∧ Below W.heap.size W W' := by
  refine (bnew_any W).mono ?_
  rintro e W' ⟨rfl, h1, h2⟩
  exact ⟨rfl, ⟨h1.mono fun _ _ => trivial, hb.size, fun x hx => (by cases hx), below_new hb h2⟩, h2⟩
/-- Two books. -/
structure Two (w0 W : World) (ga gb : Nat) (ma mb : Option Nat) (a b : B.Bk) : Prop where
  a : Bok w0 W ga ma a
  b : Bok w0 W gb mb b
  ne : ga ≠ gb
  ap : ∀ x, ma = some x → mb ≠ some x
theorem Two.swap {w0 W : World} {ga gb : Nat} {ma mb : Option Nat} {a b : B.Bk} (h : Two w0 W ga gb ma mb a b) : Two w0 W gb ga mb ma b a := ⟨h.b, h.a, h.ne.symm, fun x h1 h2 => h.ap x h2 h1⟩
theorem Two.new {w0 W W' : World} {ga gb : Nat} {ma mb : Option Nat} {a b : B.Bk} (h : Two w0 W ga gb ma mb a b) (hb : Below W.heap.size W W') : Two w0 W' ga gb ma mb a b := ⟨h.a.new hb, h.b.new hb, h.ne, h.ap⟩
theorem Two.step {w0 W W' : World} {ga gb : Nat} {ma mb ma' : Option Nat} {a b a' : B.Bk} (h : Two w0 W ga gb ma mb a b) (hK : Kpt W W' ga ma) (ha : Bok w0 W' ga ma' a') (hm : ∀ x, ma' = some x → ma = some x ∨ W.heap.size ≤ x) : Two w0 W' ga gb ma' mb a' b := by
  refine ⟨ha, ⟨h.a.pb.kept h.b.pb hK h.ne.symm h.ap, h.b.gl, h.b.ml, ha.bl⟩, h.ne, fun x hx hx' => ?_⟩
  rcases hm x hx with h1 | h1
  · exact h.ap x h1 hx'
  · obtain ⟨_, T, _, h3⟩ := h.b.pb
    have := h3.ltm hx'
    omega
end Go.Proofs.Ytedcgfcmhaeldaa
