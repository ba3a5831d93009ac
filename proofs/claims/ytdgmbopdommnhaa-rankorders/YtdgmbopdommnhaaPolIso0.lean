/- Insertion through a map; the steps of the search for a place. -/
import Derived.Test.YtdgmbopdommnhaaPolMath
namespace Go.Proofs.Ytdgmbopdommnhaa
set_option linter.unusedVariables false
set_option linter.unusedSimpArgs false

section
variable {α β : Type}
theorem place_map (f : α → β) {lt : α → α → Bool} {lt' : β → β → Bool} (h : ∀ a b, lt a b = lt' (f a) (f b)) (e : α) (l : List α) : ∀ k, P.place lt' (f e) (l.map f) k = P.place lt e l k
  | 0 => rfl
  | k + 1 => by
    unfold P.place
    rw [List.getElem?_map]
    cases l[k]? with
    | none => rfl
    | some x => simp only [Option.map_some]; rw [← h e x, place_map f h e l k]
theorem ins_map (f : α → β) {lt : α → α → Bool} {lt' : β → β → Bool} (h : ∀ a b, lt a b = lt' (f a) (f b)) (l : List α) (e : α) : P.ins lt' (l.map f) (f e) = (P.ins lt l e).map f := by
  unfold P.ins
  rw [List.length_map, place_map f h]
  simp [List.map_take, List.map_drop]
theorem isort_map (f : α → β) {lt : α → α → Bool} {lt' : β → β → Bool} (h : ∀ a b, lt a b = lt' (f a) (f b)) (l : List α) : P.isort lt' (l.map f) = (P.isort lt l).map f := by
  unfold P.isort
  have : ∀ (l acc : List α), (l.map f).foldl (P.ins lt') (acc.map f) = (l.foldl (P.ins lt) acc).map f := by
    intro l
    induction l with
    | nil => intro acc; rfl
    | cons e l ih => intro acc; simp only [List.map_cons, List.foldl_cons]; rw [ins_map f h, ih]
  exact this l []
end
theorem isort_snoc {α : Type} (lt : α → α → Bool) (l : List α) (e : α) : P.isort lt (l ++ [e]) = P.ins lt (P.isort lt l) e := by
  unfold P.isort
  rw [List.foldl_append]; rfl
/-! A step of the search for a place -/
theorem place_yes {α : Type} {lt : α → α → Bool} {e : α} {l : List α} {k : Nat} (hk : k < l.length) (h : lt e l[k] = true) : P.place lt e l (k + 1) = P.place lt e l k := by
  rw [P.place, List.getElem?_eq_getElem hk]
  simp [h]
theorem place_no {α : Type} {lt : α → α → Bool} {e : α} {l : List α} {k : Nat} (hk : k < l.length) (h : lt e l[k] = false) : P.place lt e l (k + 1) = k + 1 := by
  rw [P.place, List.getElem?_eq_getElem hk]
  simp [h]
theorem place_zero {α : Type} {lt : α → α → Bool} {e : α} {l : List α} : P.place lt e l 0 = 0 := rfl
end Go.Proofs.Ytdgmbopdommnhaa
