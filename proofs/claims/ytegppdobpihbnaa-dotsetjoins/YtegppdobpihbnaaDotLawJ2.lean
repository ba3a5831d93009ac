/- Layer 6, words for DotsetJoins: what joins come to, by what they have. -/
import Derived.Test.YtegppdobpihbnaaDotLawJ
namespace Go.Proofs.Ytegppdobpihbnaa
set_option linter.unusedVariables false
set_option linter.unusedSimpArgs false
open Go.ChangeShapes Go.WideShapes Go.ChangeAt Go.RowKit

namespace D
theorem join_or (U : Nat → Int) (M : List Dot) (V : Nat → Int) (L : List Dot) (d : Dot) : join U M V L d = (has U M d || has V L d) := by
  unfold join; cases has V L d <;> simp
theorem cl_at (S : Dot → Bool) {d : Dot} (h : may d = true) : has (cU S) (cM S) d = S d := by rw [cl_has, h]; simp
theorem cnt_both (U : Nat → Int) (M : List Dot) (V : Nat → Int) (L : List Dot) : cnt (cU (join U M V L)) (cM (join U M V L)) = cnt U M + ((lst (less V L U M)).length : Int) := by
  rw [cnt_eq, cnt_eq, lst_congr (fun d h => cl_at (join U M V L) h)]
  have := lst_both (has U M) (has V L)
  unfold join less
  rw [this]
  simp
theorem has_both (U : Nat → Int) (M : List Dot) (V : Nat → Int) (L : List Dot) (d : Dot) : has (cU (join U M V L)) (cM (join U M V L)) d = (has U M d || has V L d) := by
  rw [cl_has, join_or]
  by_cases h : may d = true
  · rw [h]; simp
  · have h : may d = false := by simpa using h
    rw [has_no (Or.inl h), has_no (Or.inl h), h]; rfl
/-- What the joins of the law come to. -/
theorem j_turn (U : Nat → Int) (M : List Dot) (V : Nat → Int) (L : List Dot) : ∀ d, may d = true → join V L U M d = join U M V L d := fun d _ => by
  rw [join_or, join_or, Bool.or_comm]
theorem j_once (U : Nat → Int) (M : List Dot) (V : Nat → Int) (L : List Dot) : ∀ d, may d = true → join (cU (join U M V L)) (cM (join U M V L)) U M d = join U M V L d := fun d h => by
  rw [join_or, cl_at _ h, join_or]; cases has U M d <;> cases has V L d <;> rfl
theorem j_self (U : Nat → Int) (M : List Dot) (V : Nat → Int) (L : List Dot) : ∀ d, may d = true → join (cU (join U M V L)) (cM (join U M V L)) (cU (join U M V L)) (cM (join U M V L)) d = join U M V L d := fun d h => by
  rw [join_or, cl_at _ h]; cases join U M V L d <;> rfl
theorem j_three (U : Nat → Int) (M : List Dot) (V : Nat → Int) (L : List Dot) (W : Nat → Int) (K : List Dot) : ∀ d, may d = true →
    join U M (cU (join V L W K)) (cM (join V L W K)) d = join (cU (join U M V L)) (cM (join U M V L)) W K d := fun d h => by
  rw [join_or, join_or, cl_at _ h, cl_at _ h, join_or, join_or, Bool.or_assoc]
end D

set_option maxRecDepth 100000 in
theorem SetPost.as {S T : D.Dot → Bool} (h : ∀ d, D.may d = true → S d = T d) {w w' : World} {e : Ending} (k : SetPost (D.cU S) (D.cM S) w e w') : SetPost (D.cU T) (D.cM T) w e w' := by
  have e1 : D.cM S = D.cM T := D.cM_congr h
  have e2 : ∀ j, j < 8 → D.cU S j = D.cU T j := fun j hj => D.cU_congr hj h
  obtain ⟨A, c, rfl, hR, hb⟩ := k
  rw [e1] at hR ⊢
  refine ⟨A, c, ?_, hR, hb⟩
  simp only [sv, scs, e2 0 (by omega), e2 1 (by omega), e2 2 (by omega), e2 3 (by omega), e2 4 (by omega), e2 5 (by omega), e2 6 (by omega), e2 7 (by omega)]
set_option maxRecDepth 100000 in
/-- A join, by what it has. -/
theorem djoin_as {T : D.Dot → Bool} {UT : Nat → Int} {MT : List D.Dot} {N : Nat} (eU : UT = D.cU T) (eM : MT = D.cM T) (eN : MT.length = N) (U : Nat → Int) (A : Option Addr) (n c : Nat) (M : List D.Dot) (U' : Nat → Int) (A' : Option Addr) (n' c' : Nat) (M' : List D.Dot) (w : World) (hT : ∀ d, D.may d = true → D.join U M U' M' d = T d) (hn : M.length = n) (hr : Rds w (fun _ => True) A (dvs M)) (hl : n ≤ 1000000) (hn' : M'.length = n') (hr' : Rds w (fun _ => True) A' (dvs M')) (hl' : n' ≤ 1000000) :
    Calls Try.prog 24 #[sv U A n c, sv U' A' n' c'] w fun e w' => ∃ B d, e = .returned (sv UT B N d) ∧ DRow w' w.heap.size (.slice B N d) MT ∧ Below w.heap.size w w' := by
  subst eU
  subst eM
  subst eN
  refine (djoin_any _ _ U A n c M U' A' n' c' M' w hn hr hl hn' hr' hl').mono ?_
  intro e w' h
  exact h.as hT
end Go.Proofs.Ytegppdobpihbnaa
