/- More of layer 6's mathematics: how many; with one dot more. -/
import Derived.Test.YtlckappnpdkihaaDotMath
namespace Go.Proofs.Ytlckappnpdkihaa.D
set_option linter.unusedVariables false
set_option linter.unusedSimpArgs false

def sumU (U : Nat → Int) : Nat → Int
  | 0 => 0
  | k + 1 => sumU U k + U k
theorem sumU_in {U : Nat → Int} (h : ∀ k, k < 8 → 0 ≤ U k ∧ U k ≤ 96) : ∀ k, k ≤ 8 → 0 ≤ sumU U k ∧ sumU U k ≤ 96 * k
  | 0, _ => by simp [sumU]
  | k + 1, hk => by have := sumU_in h k (by omega); have := h k (by omega); unfold sumU; omega
/-- How many dots, as the program counts them. -/
def cnt (U : Nat → Int) (M : List Dot) : Int := if rt U M then (M.length : Int) + sumU U 8 else 0
/-- What Add answers: the set, the error. -/
def add (U : Nat → Int) (M : List Dot) (d : Dot) : (Nat → Int) × List Dot × Int :=
  if may d = false then (fun _ => 0, [], 2) else if has U M d = true then (fun _ => 0, [], 9) else (cU (fun x => if x = d then true else has U M x), cM (fun x => if x = d then true else has U M x), 0)
def join (U : Nat → Int) (M : List Dot) (V : Nat → Int) (L : List Dot) : Dot → Bool := fun d => if has V L d then true else has U M d
def less (U : Nat → Int) (M : List Dot) (V : Nat → Int) (L : List Dot) : Dot → Bool := fun d => if has V L d then false else has U M d

/-! the count is right -/
theorem low_len (f : Nat → Int) (k : Nat) (hf : ∀ j, j < k → 0 ≤ f j ∧ f j ≤ 96) : ((((List.range (k * 96)).map dt).filter fun d => decide (d.2 ≤ f d.1.toNat)).length : Int) = sumU f k := by
  induction k with
  | zero => simp [sumU]
  | succ k ih =>
    have e : List.range ((k + 1) * 96) = List.range (k * 96) ++ (List.range 96).map (k * 96 + ·) := by rw [Nat.succ_mul, List.range_add]
    rw [e, List.map_append, List.filter_append, List.length_append, Int.natCast_add, ih (fun j hj => hf j (by omega))]
    show sumU f k + _ = sumU f k + f k
    congr 1
    have h1 := hf k (by omega)
    obtain ⟨m, hm⟩ := Int.eq_ofNat_of_zero_le h1.1
    rw [hm]
    have hm' : m ≤ 96 := by omega
    have e2 : ∀ l : List Nat, (∀ i ∈ l, i < 96) → ((l.map (k * 96 + ·)).map dt).filter (fun d => decide (d.2 ≤ f d.1.toNat)) = ((l.filter (fun i => decide (i < m))).map (k * 96 + ·)).map dt := by
      intro l hl
      rw [List.map_map, List.map_map, List.filter_map]
      congr 1
      refine List.filter_congr fun i hi => ?_
      have := hl i hi
      simp only [Function.comp, dt_at k i this]
      rw [Bool.eq_iff_iff]
      simp [hm]
      omega
    rw [e2 _ (fun i hi => List.mem_range.1 hi), List.length_map, List.length_map]
    have e3 : (List.range 96).filter (fun i => decide (i < m)) = List.range m := by
      have : (96 : Nat) = m + (96 - m) := by omega
      rw [this, List.range_add, List.filter_append]
      have f1 : (List.range m).filter (fun i => decide (i < m)) = List.range m := List.filter_eq_self.2 (by simp)
      have f2 : ((List.range (96 - m)).map (m + ·)).filter (fun i => decide (i < m)) = [] := List.filter_eq_nil_iff.2 (by simp)
      rw [f1, f2, List.append_nil]
    rw [e3]
    simp
theorem all_split (M : List Dot) (hM : ∀ d ∈ M, may d = true) (hO : Ord M) : (((List.range 768).map dt).filter fun d => M.contains d) = M := by
  refine ord_eq (pre_ord (fun d => M.contains d) 768) hO fun d => ?_
  have := mem_lst (S := fun d => M.contains d) (d := d)
  unfold lst pre at this
  rw [this]
  constructor
  · exact fun h => by simpa using h.2
  · exact fun h => ⟨hM d h, by simpa using h⟩
theorem filter_or {α : Type} (p q : α → Bool) (hd : ∀ a, p a = true → q a = false) : ∀ l : List α, (l.filter fun a => p a || q a).length = (l.filter p).length + (l.filter q).length
  | [] => rfl
  | a :: l => by
    have ih := filter_or p q hd l
    cases hp : p a with
    | true => have := hd a hp; simp [hp, this, ih]; omega
    | false => cases hq : q a <;> simp [hp, hq, ih]; omega
/-- It counts all dots. -/
theorem cnt_eq (U : Nat → Int) (M : List Dot) : cnt U M = ((lst (has U M)).length : Int) := by
  unfold cnt
  cases h : rt U M with
  | false =>
    have e : lst (has U M) = [] := by
      refine List.eq_nil_iff_forall_not_mem.2 fun d hd => ?_
      have := (mem_lst.1 hd).2
      rw [has_no (.inr h)] at this; cases this
    rw [e]; rfl
  | true =>
    have hU := (rt_iff.1 h).1
    have hM := fun d hd => (rt_may h (d := d) hd)
    rw [if_pos rfl]
    have e : lst (has U M) = ((List.range 768).map dt).filter (fun d => decide (d.2 ≤ U d.1.toNat) || M.contains d) := by
      unfold lst pre
      refine List.filter_congr fun d hd => ?_
      obtain ⟨j, hj, rfl⟩ := List.mem_map.1 hd
      exact has_yes (dt_may (by have := List.mem_range.1 hj; omega)) h
    rw [e, filter_or _ _ (fun d hd => by
      cases hc : M.contains d with
      | false => rfl
      | true =>
        have := (hM d (by simpa using hc)).2
        simp at hd
        omega)]
    rw [all_split M (fun d hd => (hM d hd).1) (rt_ord h), Int.natCast_add, low_len U 8 hU]
    omega
/-- What both have is the one's, and the other's alone. -/
theorem lst_both (S T : Dot → Bool) : (lst (fun d => if T d then true else S d)).length = (lst S).length + (lst (fun d => if S d then false else T d)).length := by
  have e : lst (fun d => if T d then true else S d) = lst (fun d => S d || (if S d then false else T d)) := lst_congr fun d _ => by cases S d <;> cases T d <;> rfl
  rw [e]
  unfold lst pre
  exact filter_or S (fun d => if S d then false else T d) (fun d hd => by simp [hd]) _
end Go.Proofs.Ytlckappnpdkihaa.D
