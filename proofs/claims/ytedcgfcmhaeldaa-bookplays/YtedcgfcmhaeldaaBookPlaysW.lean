/- Sets and dots as a law's arguments. | The walk of BookPlays: its argument opened. -/
import Derived.Test.YtedcgfcmhaeldaaDotMem
import Derived.ChangeArms
import Derived.Test.YtedcgfcmhaeldaaBookPlaysM

section
namespace Go.Proofs.Ytedcgfcmhaeldaa
set_option linter.unusedVariables false
set_option linter.unusedSimpArgs false
open Go.ChangeShapes Go.WideShapes Go.ChangeAt Go.RowKit Go.Deep

theorem Try.cellsArr : Try.prog.cellsOf 23 = 8 := by kernel_rfl
theorem Try.cellsLaw : Try.prog.cellsOf 26 = 9 := by kernel_rfl
section
variable {H : Type} {enc : TypeId × Value → H} {w : World} {base : Nat}
theorem open_eight {fuel : Nat} {c0 c1 c2 c3 c4 c5 c6 c7 : Value} {y : DataW H × List MemPlace} (hf : DataW.trod enc Try.prog w 0 (fun _ => true) true fuel 23 [c0, c1, c2, c3, c4, c5, c6, c7] = some y) :
    ∃ U : Nat → Int, c0 = .int .i64 (U 0) ∧ c1 = .int .i64 (U 1) ∧ c2 = .int .i64 (U 2) ∧ c3 = .int .i64 (U 3) ∧ c4 = .int .i64 (U 4) ∧ c5 = .int .i64 (U 5) ∧ c6 = .int .i64 (U 6) ∧ c7 = .int .i64 (U 7) := by
  obtain ⟨xs, m, _, _, _, hx, hi⟩ := DataW.trod_array Try.underlying23 hf
  rw [Try.cellsInt] at hi
  have at' : ∀ i (v : Value), i < 8 → (([c0, c1, c2, c3, c4, c5, c6, c7] : List Value).drop (i * 1)).take 1 = [v] → ∃ n, v = .int .i64 n := fun i v h8 e => by
    have h1 := hi i h8
    rw [e, List.getElem?_eq_getElem (by omega)] at h1
    obtain ⟨n, q, _, _⟩ := DataW.trod_int Try.underlying3 h1
    simp at q
    exact ⟨n, q⟩
  obtain ⟨n0, rfl⟩ := at' 0 c0 (by omega) rfl
  obtain ⟨n1, rfl⟩ := at' 1 c1 (by omega) rfl
  obtain ⟨n2, rfl⟩ := at' 2 c2 (by omega) rfl
  obtain ⟨n3, rfl⟩ := at' 3 c3 (by omega) rfl
  obtain ⟨n4, rfl⟩ := at' 4 c4 (by omega) rfl
  obtain ⟨n5, rfl⟩ := at' 5 c5 (by omega) rfl
  obtain ⟨n6, rfl⟩ := at' 6 c6 (by omega) rfl
  obtain ⟨n7, rfl⟩ := at' 7 c7 (by omega) rfl
  exact ⟨fun j => [n0, n1, n2, n3, n4, n5, n6, n7].getD j 0, rfl, rfl, rfl, rfl, rfl, rfl, rfl, rfl⟩

/-- A set of the law's own kind. -/
def SetIn (w : World) (U : Nat → Int) (A : Option Addr) (n c : Nat) (M : List D.Dot) : Prop := M.length = n ∧ n ≤ c ∧ c ≤ maxLen ∧ Rds w (· < w.heap.size) A (dvs M)
set_option maxRecDepth 1000000 in
theorem open_set {fuel : Nat} {cs : List Value} {y : DataW H × List MemPlace} (hf : DataW.trod enc Try.prog w 0 (fun _ => true) true fuel 26 cs = some y) :
    ∃ U A n c M, cs = (scs U A n c).toList ∧ SetIn w U A n c M := by
  obtain ⟨xs, m, _, _, hlen, hx, hg⟩ := DataW.trod_struct Try.underlying26 hf
  rw [Try.cellsLaw] at hlen
  match cs, hlen with
  | [c0, c1, c2, c3, c4, c5, c6, c7, c8], _ =>
    have h0 : DataW.trod enc Try.prog w 0 (fun _ => true) true m 23 (([c0, c1, c2, c3, c4, c5, c6, c7, c8] : List Value).take (Try.prog.cellsOf 23)) = xs[0]? := hg 0 _ rfl
    have h1 : DataW.trod enc Try.prog w 0 (fun _ => true) true m 24 (([c8] : List Value).take (Try.prog.cellsOf 24)) = xs[1]? := hg 1 _ rfl
    rw [List.getElem?_eq_getElem (by rw [hx]; decide)] at h0 h1
    rw [Try.cellsArr] at h0
    rw [Try.cellsDots] at h1
    obtain ⟨U, rfl, rfl, rfl, rfl, rfl, rfl, rfl, rfl⟩ := open_eight h0
    obtain ⟨A, n, c, M, e, h2, h3, h4, h5⟩ := open_dots h1
    simp at e
    subst e
    exact ⟨U, A, n, c, M, rfl, h2, h3, h4, h5⟩
set_option maxRecDepth 1000000 in
theorem arg_set {v : Value} {d : DataW H} {p : List MemPlace} (ho : Value.okWide Try.prog w .any base 26 v) (hk : DataW.Trod enc Try.prog w 0 (fun _ => true) true 26 v d p) : ∃ U A n c M, v = sv U A n c ∧ SetIn w U A n c M := by
  obtain ⟨cs, rfl, _⟩ := okWide_struct Try.underlying26 ho
  obtain ⟨fuel, hf⟩ := hk
  obtain ⟨U, A, n, c, M, e, h⟩ := open_set hf
  refine ⟨U, A, n, c, M, ?_, h⟩
  have e' : cs.toList = (scs U A n c).toList := by simpa [Value.cells] using e
  rw [show cs = scs U A n c from Array.toList_inj.1 e']
end
end Go.Proofs.Ytedcgfcmhaeldaa
end

section
namespace Go.Proofs.Ytedcgfcmhaeldaa
set_option linter.unusedVariables false
set_option linter.unusedSimpArgs false
open Go.ChangeShapes Go.WideShapes Go.ChangeAt Go.RowKit Go.Deep

theorem Try.cellsPlays : Try.prog.cellsOf 28 = 12 := by kernel_rfl
theorem Try.cellsEvs : Try.prog.cellsOf 22 = 1 := by kernel_rfl
section
variable {H : Type} {enc : TypeId × Value → H} {w : World} {base : Nat}
set_option maxRecDepth 1000000 in
set_option maxHeartbeats 1000000 in
theorem open_plays {fuel : Nat} {cs : List Value} {y : DataW H × List MemPlace} (hf : DataW.trod enc Try.prog w 0 (fun _ => true) true fuel 28 cs = some y) (hz : ∀ k ∈ y.1.weights Try.prog 28, k ≤ reachBytes) :
    ∃ A n c l U As ns cs' Ms most work, cs = (pcs A n c U As ns cs' most work).toList ∧ EvsIn w A n c l ∧ SetIn w U As ns cs' Ms := by
  obtain ⟨xs, m, _, rfl, hlen, hx, hg⟩ := DataW.trod_struct Try.underlying28 hf
  have hl0 : 0 < xs.length := by rw [hx]; decide
  rw [Try.cellsPlays] at hlen
  match cs, hlen with
  | [c0, c1, c2, c3, c4, c5, c6, c7, c8, c9, c10, c11], _ =>
    have h0 : DataW.trod enc Try.prog w 0 (fun _ => true) true m 22 (([c0, c1, c2, c3, c4, c5, c6, c7, c8, c9, c10, c11] : List Value).take (Try.prog.cellsOf 22)) = xs[0]? := hg 0 _ rfl
    have h1 : DataW.trod enc Try.prog w 0 (fun _ => true) true m 26 (([c1, c2, c3, c4, c5, c6, c7, c8, c9, c10, c11] : List Value).take (Try.prog.cellsOf 26)) = xs[1]? := hg 1 _ rfl
    have h2 : DataW.trod enc Try.prog w 0 (fun _ => true) true m 3 (([c10, c11] : List Value).take (Try.prog.cellsOf 3)) = xs[2]? := hg 2 _ rfl
    have h3 : DataW.trod enc Try.prog w 0 (fun _ => true) true m 3 (([c11] : List Value).take (Try.prog.cellsOf 3)) = xs[3]? := hg 3 _ rfl
    rw [List.getElem?_eq_getElem (by rw [hx]; decide)] at h0 h1 h2 h3
    rw [Try.cellsEvs] at h0
    rw [Try.cellsLaw] at h1
    rw [Try.cellsInt] at h2 h3
    have hz0 : ∀ k ∈ (xs[0]'hl0).1.weights Try.prog 22, k ≤ reachBytes := fun k hk => hz k (by
      simp only [DataW.weights, Try.underlying28]
      exact DataW.weights_mem_each (j := 0) (t := 22) (d := (xs[0]'hl0).1) rfl (by rw [List.getElem?_map, List.getElem?_eq_getElem hl0]; rfl) k hk)
    obtain ⟨A, n, c, l, e0, hE⟩ := open_evs h0 hz0
    obtain ⟨U, As, ns, cs', Ms, e1, hS⟩ := open_set h1
    obtain ⟨most, e2, _, _⟩ := DataW.trod_int Try.underlying3 h2
    obtain ⟨work, e3, _, _⟩ := DataW.trod_int Try.underlying3 h3
    simp at e0 e1 e2 e3
    subst e0
    obtain ⟨rfl, rfl, rfl, rfl, rfl, rfl, rfl, rfl, rfl⟩ := e1
    subst e2
    subst e3
    exact ⟨A, n, c, l, U, As, ns, cs', Ms, most, work, rfl, hE, hS⟩
set_option maxRecDepth 1000000 in
theorem arg_plays {v : Value} {d : DataW H} {p : List MemPlace} (ho : Value.okWide Try.prog w .any base 28 v) (hk : DataW.Trod enc Try.prog w 0 (fun _ => true) true 28 v d p) (hz : ∀ k ∈ d.weights Try.prog 28, k ≤ reachBytes) :
    ∃ A n c l U As ns cs Ms most work, v = .agg (pcs A n c U As ns cs most work) ∧ EvsIn w A n c l ∧ SetIn w U As ns cs Ms := by
  obtain ⟨cs, rfl, _⟩ := okWide_struct Try.underlying28 ho
  obtain ⟨fuel, hf⟩ := hk
  obtain ⟨A, n, c, l, U, As, ns, cs', Ms, most, work, e, h⟩ := open_plays hf hz
  refine ⟨A, n, c, l, U, As, ns, cs', Ms, most, work, ?_, h⟩
  have e' : cs.toList = (pcs A n c U As ns cs' most work).toList := by simpa [Value.cells] using e
  rw [show cs = pcs A n c U As ns cs' most work from Array.toList_inj.1 e']
end
set_option maxRecDepth 1000000 in
theorem bookPlays_walk {H : Type} (enc : TypeId × Value → H) (v0 : Value) (w : World) (base : Nat) (d0 : DataW H) (p0 : List MemPlace)
    (o0 : Value.okWide Try.prog w .any base 28 v0) (k0 : DataW.Trod enc Try.prog w 0 (fun _ => true) true 28 v0 d0 p0) (z0 : ∀ k ∈ d0.weights Try.prog 28, k ≤ reachBytes) :
    Calls Try.prog 3 #[v0] w fun e w' => e = .returned (.bool true) ∧ Below w.heap.size w w' := by
  obtain ⟨A, n, c, l, U, As, ns, cs, Ms, most, work, rfl, h0, h1, h2, h3, h4⟩ := arg_plays o0 k0 z0
  exact plays_main A n c l U As ns cs Ms most work w h0 h1 h4
end Go.Proofs.Ytedcgfcmhaeldaa
end

