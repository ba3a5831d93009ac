/- The plain mathematics of layer 12: nodes by how much they weigh. No program is named here. -/
import Derived.Test.YtdgmbopdommnhaaMixMath
import Derived.Test.YtdgmbopdommnhaaPolIso0
namespace Go.Proofs.Ytdgmbopdommnhaa.R
set_option linter.unusedVariables false
set_option linter.unusedSimpArgs false

/-- How much a node weighs; who is ahead; which nodes there are, up to j; all by weight; the owner; an owner's error. -/
def wgt (k : Int) (s : Nat) (n : Nat) : Nat := X.weight (n : Int) k s
def lt (k : Int) (s : Nat) (a b : Nat) : Bool := decide (wgt k s b < wgt k s a)
theorem ord (k : Int) (s : Nat) : P.Ord (lt k s) := ⟨fun a => by simp [lt], fun a b h => by simp [lt] at *; omega, fun a b c h k => by simp [lt] at *; omega⟩
def has (ns : List Int) (n : Nat) : Bool := decide ((n : Int) ∈ ns)
def here (ns : List Int) (j : Nat) : List Nat := (List.range j).filter (has ns)
def all (ns : List Int) (k : Int) (s : Nat) : List Nat := P.isort (lt k s) (here ns 8)
def own (ns : List Int) (k : Int) (s : Nat) : Int := ((all ns k s).head?.getD 0 : Nat)
def oer (ns : List Int) (k : Int) (s : Nat) : Int := if all ns k s = [] then 8 else 0
/-- The workloads up to j that a node owns. -/
def shr (ns : List Int) (s : Nat) (node : Nat) (j : Nat) : List Nat := (List.range j).filter (fun w => decide ((all ns (w : Int) s).head? = some node))
section
variable {ns : List Int} {k : Int} {s : Nat}
theorem here_yes {j : Nat} (h : has ns j = true) : here ns (j + 1) = here ns j ++ [j] := by
  unfold here
  rw [List.range_succ, List.filter_append]
  simp [h]
theorem here_no {j : Nat} (h : has ns j = false) : here ns (j + 1) = here ns j := by
  unfold here
  rw [List.range_succ, List.filter_append]
  simp [h]
theorem mem_here {j n : Nat} : n ∈ here ns j ↔ n < j ∧ (n : Int) ∈ ns := by simp [here, has]
theorem here_len (j : Nat) : (here ns j).length ≤ j := by
  have := List.length_filter_le (has ns) (List.range j)
  simpa [here] using this
theorem here_nodup (j : Nat) : (here ns j).Nodup := List.Pairwise.sublist List.filter_sublist List.nodup_range
theorem perm_all : (all ns k s).Perm (here ns 8) := by
  rw [List.perm_iff_count]
  intro a
  have h := P.isort_stb (ord k s) (here ns 8) a
  have e : ∀ l : List Nat, List.count a (l.filter (P.eqv (lt k s) a)) = List.count a l := fun l => List.count_filter (P.eqv_self (ord k s) a)
  rw [← e, ← e (here ns 8), ← h]
  rfl
theorem mem_all {n : Nat} : n ∈ all ns k s ↔ n < 8 ∧ (n : Int) ∈ ns := by rw [perm_all.mem_iff, mem_here]
theorem all_nodup : (all ns k s).Nodup := perm_all.nodup_iff.2 (here_nodup 8)
theorem all_len : (all ns k s).length ≤ 8 := by rw [perm_all.length_eq]; exact here_len 8
theorem here_same {ms : List Int} (h : ∀ n : Nat, n < 8 → ((n : Int) ∈ ms ↔ (n : Int) ∈ ns)) : here ms 8 = here ns 8 := by
  unfold here
  apply List.filter_congr
  intro n hn
  have hn : n < 8 := by simpa using hn
  simp [has, h n hn]
theorem all_same {ms : List Int} (h : ∀ n : Nat, n < 8 → ((n : Int) ∈ ms ↔ (n : Int) ∈ ns)) : all ms k s = all ns k s := by unfold all; rw [here_same h]
/-- Of those that stay the order stays. -/
theorem isort_filter {α : Type} {lt : α → α → Bool} (o : P.Ord lt) (q : α → Bool) (l : List α) : P.isort lt (l.filter q) = (P.isort lt l).filter q := by
  refine (P.isort_is o ?_ ?_).symm
  · exact List.Pairwise.sublist List.filter_sublist (P.isort_srt o l)
  · intro a
    have h := P.isort_stb o l a
    rw [List.filter_filter, List.filter_filter]
    have e : ∀ m : List α, (m.filter fun x => P.eqv lt a x && q x) = (m.filter (P.eqv lt a)).filter q := fun m => by
      rw [List.filter_filter]
      apply List.filter_congr
      intro x _
      rw [Bool.and_comm]
    rw [e, e, h]
theorem all_filter {ms : List Int} (q : Nat → Bool) (h : ∀ n : Nat, n < 8 → ((n : Int) ∈ ms ↔ ((n : Int) ∈ ns ∧ q n = true))) : all ms k s = (all ns k s).filter q := by
  unfold all
  rw [← isort_filter (ord k s)]
  congr 1
  unfold here
  rw [List.filter_filter]
  apply List.filter_congr
  intro n hn
  have hn : n < 8 := by simpa using hn
  have h1 := h n hn
  simp only [has]
  rw [Bool.eq_iff_iff]
  simp only [decide_eq_true_eq, Bool.and_eq_true]
  rw [h1]
  exact And.comm
end
/-! ### who owns which -/
section
variable {ns : List Int} {s : Nat}
theorem mem_shr {node j w : Nat} : w ∈ shr ns s node j ↔ w < j ∧ (all ns (w : Int) s).head? = some node := by simp [shr]
theorem shr_yes {node j : Nat} (h : (all ns (j : Int) s).head? = some node) : shr ns s node (j + 1) = shr ns s node j ++ [j] := by
  unfold shr
  rw [List.range_succ, List.filter_append]
  simp [h]
theorem shr_no {node j : Nat} (h : (all ns (j : Int) s).head? ≠ some node) : shr ns s node (j + 1) = shr ns s node j := by
  unfold shr
  rw [List.range_succ, List.filter_append]
  simp [h]
theorem shr_len (node j : Nat) : (shr ns s node j).length ≤ j := by
  have := List.length_filter_le (fun w : Nat => decide ((all ns (w : Int) s).head? = some node)) (List.range j)
  simpa [shr] using this
theorem own_lt {k : Int} {n : Nat} (h : (all ns k s).head? = some n) : n < 8 := (mem_all.1 (List.mem_of_mem_head? (by rw [h]; rfl))).1
end
end Go.Proofs.Ytdgmbopdommnhaa.R
