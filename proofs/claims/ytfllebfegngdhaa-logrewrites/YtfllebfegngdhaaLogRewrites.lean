/-
  For every size and two rows of records: LogRewrites answers true: rewritten records are all there is, and read as they were; what has no room, or is too long, leaves all as it was. With a size that no disk has, more than 30 records in a row, or more than 20000 bytes (a body of more than 10000 counted as 10000), it answers true at once.
-/
import Derived.Test.YtfllebfegngdhaaRows
import Derived.Test.YtfllebfegngdhaaLogRewritesW
import Derived.WalkKit
import Derived.ProofKit
import Derived.OpenShut
import Derived.ShutString
import Derived.ChangeOld
import Derived.Below
import Derived.SizedLaws
namespace Go.Proofs.Ytfllebfegngdhaa.logRewrites
open Go.ChangeShapes Go.WideShapes Go.ChangeAt Go.RowKit
set_option linter.unusedVariables false

theorem own : ownKnob Try.prog.godebug = none := by kernel_rfl
theorem laidOut : laidOutB Try.prog = true := by kernel_rfl

set_option maxRecDepth 1000000 in
theorem walk {H : Type} (enc : TypeId × Value → H) (v0 : Value) (v1 : Value) (v2 : Value) (w : World) (base : Nat) (d0 : DataW H) (p0 : List MemPlace) (d1 : DataW H) (p1 : List MemPlace) (d2 : DataW H) (p2 : List MemPlace) (o0 : Value.okWide Try.prog w .any base 3 v0) (k0 : DataW.Trod enc Try.prog w 0 (fun _ => true) true 3 v0 d0 p0) (z0 : ∀ k ∈ d0.weights Try.prog 3, k ≤ reachBytes) (o1 : Value.okWide Try.prog w .any base 33 v1) (k1 : DataW.Trod enc Try.prog w 0 (fun _ => true) true 33 v1 d1 p1) (z1 : ∀ k ∈ d1.weights Try.prog 33, k ≤ reachBytes) (o2 : Value.okWide Try.prog w .any base 33 v2) (k2 : DataW.Trod enc Try.prog w 0 (fun _ => true) true 33 v2 d2 p2) (z2 : ∀ k ∈ d2.weights Try.prog 33, k ≤ reachBytes) :
    Calls Try.prog 5 #[v0, v1, v2] w fun e w' => e = .returned (.bool true) ∧ Below w.heap.size w w' := by
  exact logRewrites_walk enc v0 v1 v2 w base d0 p0 d1 p1 d2 p2 o0 k0 z0 o1 k1 z1 o2 k2 z2

set_option maxRecDepth 1000000 in
theorem lifted (os : Os) (started : os.Started) (H : Type) (enc : TypeId × Value → H) :
    ReturnsInHanded {} Try.checked os 5 .any (Rows.logRewritesSpec.pre6 enc Try.prog Try.f5 Rows.logRewritesRow.domain false) (Rows.logRewritesSpec.post enc Try.prog Try.f5 false true false false) := by
  refine returnsInHanded_of_change_sized (C := Try.checked) own started (by kernel_rfl) Try.func5
    (ChangeSpec.witness6 (enc := enc) (C := Try.checked) false ⟨#[], #[.int .i64 0, .slice none 0 0, .slice none 0 0], []⟩ 8 (by kernel_rfl) (by kernel_rfl) (by kernel_rfl) (by kernel_rfl)) ?_
  intro W base args ds gs before hval0 hW hcnd hsz0 _
  have hsz : (DataW.weightsEach Try.prog (Try.f5.params.toList ++ Rows.logRewritesSpec.plain.varTypes Try.prog) (ds ++ gs)).all (· ≤ reachBytes) = true := hsz0
  have hval : ∀ (j : Nat) t v, Try.f5.params[j]? = some t → args[j]? = some v → Value.okWide Try.prog W .any base t v := hval0
  have hW' := hW
  obtain ⟨p, q, hA0, hV, rfl, hfz, hnd⟩ := hW
  have hA : DataW.TrodAll enc Try.prog W 0 (fun _ => true) true Try.f5.params.toList args.toList ds p := hA0
  rw [Try.params5] at hA hval hsz
  obtain ⟨v0, vs0, d0, ds0, p0, q0, hargs, rfl, rfl, h0, r0⟩ := trodAll_cons hA
  obtain ⟨v1, vs1, d1, ds1, p1, q1, rfl, rfl, rfl, h1, r1⟩ := trodAll_cons r0
  obtain ⟨v2, vs2, d2, ds2, p2, q2, rfl, rfl, rfl, h2, r2⟩ := trodAll_cons r1
  obtain ⟨rfl, rfl, rfl⟩ := trodAll_nil r2
  obtain rfl : args = #[v0, v1, v2] := by cases args; simp_all
  obtain ⟨rfl, rfl⟩ := trodVars_none hV
  have lt0 : ∀ x ∈ p0, x.block < W.heap.size := by obtain ⟨m, hm⟩ := h0; exact DataW.trod_lt m _ _ _ hm
  have lt1 : ∀ x ∈ p1, x.block < W.heap.size := by obtain ⟨m, hm⟩ := h1; exact DataW.trod_lt m _ _ _ hm
  have lt2 : ∀ x ∈ p2, x.block < W.heap.size := by obtain ⟨m, hm⟩ := h2; exact DataW.trod_lt m _ _ _ hm
  have z0 : ∀ k ∈ d0.weights Try.prog 3, k ≤ reachBytes := fun k hk => by simpa using List.all_eq_true.1 hsz _ (DataW.weights_mem_each (j := 0) (t := 3) (d := d0) rfl rfl k hk)
  have z1 : ∀ k ∈ d1.weights Try.prog 33, k ≤ reachBytes := fun k hk => by simpa using List.all_eq_true.1 hsz _ (DataW.weights_mem_each (j := 1) (t := 33) (d := d1) rfl rfl k hk)
  have z2 : ∀ k ∈ d2.weights Try.prog 33, k ≤ reachBytes := fun k hk => by simpa using List.all_eq_true.1 hsz _ (DataW.weights_mem_each (j := 2) (t := 33) (d := d2) rfl rfl k hk)
  clear hA0 hval0 hsz0
  refine (walk enc v0 v1 v2 W base d0 p0 d1 p1 d2 p2 (hval 0 3 v0 rfl rfl) h0 z0 (hval 1 33 v1 rfl rfl) h1 z1 (hval 2 33 v2 rfl rfl) h2 z2).mono fun e W' ⟨he, bel⟩ => ?_
  subst he
  exact ⟨_, rfl, _, _, _, [], _, [], hW', trodAll_mk1 (shut_bool Try.underlying4 _), (trodAll_cons_mk (Below.trod laidOut (by kernel_rfl) (of_decide_eq_true (by kernel_rfl)) h0 bel lt0) (trodAll_cons_mk (Below.trod laidOut (by kernel_rfl) (of_decide_eq_true (by kernel_rfl)) h1 bel lt1) (trodAll_cons_mk (Below.trod laidOut (by kernel_rfl) (of_decide_eq_true (by kernel_rfl)) h2 bel lt2) trodAll_mk0))), rfl, bel.frame _, fun h => by cases h⟩

theorem over : Rows.logRewritesRow.holds Try.pinned (OpenSpec.ofChange Rows.logRewritesSpec) :=
  OpenClaim.holds_of_wide 5 Try.f5 rfl rfl rfl rfl rfl rfl rfl ⟨rfl, rfl, rfl, rfl, rfl⟩ rfl rfl rfl rfl rfl (by kernel_rfl) Try.func5 (by kernel_rfl)
    (of_decide_eq_true (by kernel_rfl)) (by unfold Func.isWrapper; first | (rw [if_pos (by decide +kernel)]; kernel_rfl) | (rw [if_neg (by decide +kernel)]; exact ⟨rfl, rfl⟩))
    (fun os started H enc _ => lifted os started H enc)

/-- THE STATEMENT -/
theorem proved : Rows.LogRewritesSaid := over
#print axioms proved
end Go.Proofs.Ytfllebfegngdhaa.logRewrites
