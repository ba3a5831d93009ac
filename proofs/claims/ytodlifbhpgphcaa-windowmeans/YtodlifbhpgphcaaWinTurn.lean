/- The plain mathematics of WindowTurns: where events stand says nothing of a load, nor do older samples. -/
import Derived.Test.YtodlifbhpgphcaaWinMath
namespace Go.Proofs.Ytodlifbhpgphcaa
set_option linter.unusedVariables false
set_option linter.unusedSimpArgs false
open Go.ChangeShapes Go.WideShapes Go.ChangeAt Go.RowKit

theorem short_perm {α : Type} : ∀ {a b : List α}, a.Perm b → a.length ≤ 1 → a = b
  | [], b, h, _ => (List.perm_nil.1 h.symm).symm
  | [x], b, h, _ => (List.perm_singleton.1 h.symm).symm
  | x :: y :: r, b, h, hl => by simp at hl
theorem eqvQ {a x : EvV} : P.eqv ltQ a x = true ↔ x.F 1 = a.F 1 := by
  rw [P.eqv_iff]
  simp [ltQ]
  omega
theorem one_eqv {a : EvV} : ∀ {s : List EvV}, s.Pairwise (fun x y => x.F 1 ≠ y.F 1) → (s.filter (P.eqv ltQ a)).length ≤ 1
  | [], _ => by simp
  | x :: s, h => by
    have h' := List.pairwise_cons.1 h
    by_cases hx : P.eqv ltQ a x = true
    · have : s.filter (P.eqv ltQ a) = [] := by
        rw [List.filter_eq_nil_iff]
        intro y hy hy2
        have h1 := eqvQ.1 hx
        have h2 := eqvQ.1 hy2
        exact h'.1 y hy (by omega)
      rw [List.filter_cons_of_pos hx, this]
      simp
    · rw [List.filter_cons_of_neg hx]
      exact one_eqv h'.2
theorem stb_perm {s s' : List EvV} (hp : s.Perm s') (hd : s.Pairwise (fun x y => x.F 1 ≠ y.F 1)) : P.Stb ltQ s s' := fun a =>
  (short_perm (hp.filter (P.eqv ltQ a)) (one_eqv hd)).symm
theorem dist_smps {l : List EvV} (h : Dist l) (k nd : Int) : (smps k nd l).Pairwise (fun x y => x.F 1 ≠ y.F 1) := by
  have h1 : l.Pairwise (fun x y => ¬ (x.F 0 = y.F 0 ∧ x.F 1 = y.F 1)) := List.pairwise_iff_getElem.2 (fun i j hi hj hij e => h j i hj hi hij ⟨e.1.symm, e.2.symm⟩)
  have h2 : (smps k nd l).Pairwise (fun x y => ¬ (x.F 0 = y.F 0 ∧ x.F 1 = y.F 1)) := List.Pairwise.sublist List.filter_sublist h1
  refine List.Pairwise.imp_of_mem ?_ h2
  intro x y hx hy hxy e
  have ex := (mem_smps.1 hx).2.2.2
  have ey := (mem_smps.1 hy).2.2.2
  exact hxy ⟨by rw [ex, ey], e⟩
theorem newQ_perm {l l' : List EvV} (hd : Dist l) (hp : l.Perm l') (k nd sz : Int) : newQ k nd sz l' = newQ k nd sz l := by
  unfold newQ
  have h1 : (smps k nd l).Perm (smps k nd l') := hp.filter _
  have h2 := stb_perm h1 (dist_smps hd k nd)
  rw [P.isort_is ordQ (l := smps k nd l) (l' := P.isort ltQ (smps k nd l')) (P.isort_srt ordQ _) (h2.trans (P.isort_stb ordQ _))]
theorem loadQ_turn {l m : List EvV} (hd : Dist l) (k sz : Int) {t : Nat} (hm : plain m = plain (l.drop t ++ l.take t)) : loadQ m k sz = loadQ l k sz := by
  rw [loadQ_plain hm]
  refine loadQ_same fun i _ => ?_
  rw [newQ_perm hd]
  have h1 : (l.take t ++ l.drop t).Perm (l.drop t ++ l.take t) := List.perm_append_comm
  rwa [List.take_append_drop] at h1

/-- The newest samples of all nodes up to j, one node behind the other. -/
def newAll (l : List EvV) (k sz : Int) : Nat → List EvV
  | 0 => []
  | j + 1 => newAll l k sz j ++ newQ k j sz l
theorem smps_app (k nd : Int) (a b : List EvV) : smps k nd (a ++ b) = smps k nd a ++ smps k nd b := List.filter_append ..
theorem smps_newQ (k : Int) (i j : Nat) (sz : Int) (l : List EvV) : smps k i (newQ k j sz l) = if i = j then newQ k j sz l else [] := by
  by_cases h : i = j
  · subst h
    rw [if_pos rfl]
    unfold smps
    rw [List.filter_eq_self]
    intro e he
    have := mem_newQ he
    simp [isSmp, this.2.1, this.2.2.1, this.2.2.2]
  · rw [if_neg h]
    unfold smps
    rw [List.filter_eq_nil_iff]
    intro e he
    have := mem_newQ he
    simp [isSmp, this.2.2.2]
    omega
theorem smps_newAll (l : List EvV) (k sz : Int) (i : Nat) : ∀ j, smps k i (newAll l k sz j) = if i < j then newQ k i sz l else []
  | 0 => by simp [newAll, smps]
  | j + 1 => by
    rw [newAll, smps_app, smps_newAll l k sz i j, smps_newQ]
    by_cases h1 : i < j
    · rw [if_pos h1, if_neg (by omega), if_pos (by omega), List.append_nil]
    · by_cases h2 : i = j
      · subst h2
        rw [if_neg h1, if_pos rfl, if_pos (by omega), List.nil_append]
      · rw [if_neg h1, if_neg h2, if_neg (by omega), List.append_nil]
theorem newQ_srt (k nd sz : Int) (l : List EvV) : P.Srt ltQ (newQ k nd sz l) := P.srt_take (P.isort_srt ordQ _) _
theorem newQ_newAll (l : List EvV) (k sz : Int) {i j : Nat} (h : i < j) : newQ k i sz (newAll l k sz j) = newQ k i sz l := by
  have e : newQ k i sz (newAll l k sz j) = (P.isort ltQ (smps k i (newAll l k sz j))).take sz.toNat := rfl
  rw [e, smps_newAll, if_pos h, ← P.isort_is ordQ (newQ_srt k i sz l) (P.Stb.refl _)]
  unfold newQ
  rw [List.take_take, Nat.min_self]
theorem loadQ_newest {l m : List EvV} (k sz : Int) (hm : plain m = plain (newAll l k sz 8)) : loadQ m k sz = loadQ l k sz := by
  rw [loadQ_plain hm]
  exact loadQ_same fun i hi => by rw [newQ_newAll l k sz hi]
theorem newAll_len (l : List EvV) (k sz : Int) : ∀ j, (newAll l k sz j).length ≤ j * l.length
  | 0 => by simp [newAll]
  | j + 1 => by
    rw [newAll, List.length_append, Nat.succ_mul]
    have h1 := newAll_len l k sz j
    have h2 : (newQ k j sz l).length ≤ l.length := by
      unfold newQ
      rw [List.length_take, P.isort_len]
      have := smps_le k j l
      omega
    omega
theorem mem_newAll {l : List EvV} {k sz : Int} {e : EvV} : ∀ {j : Nat}, e ∈ newAll l k sz j → e ∈ l
  | 0, h => by cases h
  | j + 1, h => by
    rcases List.mem_append.1 h with h | h
    · exact mem_newAll h
    · exact (mem_newQ h).1
end Go.Proofs.Ytodlifbhpgphcaa
