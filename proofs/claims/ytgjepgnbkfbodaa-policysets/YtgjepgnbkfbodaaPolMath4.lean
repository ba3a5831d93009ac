/- The plain mathematics of the policy that counts: it hangs on what events say, not on where they stand. -/
import Derived.Test.YtgjepgnbkfbodaaPolWin
namespace Go.Proofs.Ytgjepgnbkfbodaa
set_option linter.unusedVariables false
set_option linter.unusedSimpArgs false
open Go.ChangeShapes Go.WideShapes Go.ChangeAt Go.RowKit

section
variable {α β : Type}
theorem place_map (f : α → β) {lt : α → α → Bool} {lt' : β → β → Bool} (h : ∀ a b, lt a b = lt' (f a) (f b)) (e : α) (l : List α) : ∀ k, P.place lt' (f e) (l.map f) k = P.place lt e l k
  | 0 => rfl
  | k + 1 => by
    unfold P.place
    rw [List.getElem?_map]
    cases l[k]? with
    | none => rfl
    | some x => simp only [Option.map_some]; rw [← h e x, place_map f h e l k]
theorem ins_map (f : α → β) {lt : α → α → Bool} {lt' : β → β → Bool} (h : ∀ a b, lt a b = lt' (f a) (f b)) (l : List α) (e : α) : P.ins lt' (l.map f) (f e) = (P.ins lt l e).map f := by
  unfold P.ins
  rw [List.length_map, place_map f h]
  simp [List.map_take, List.map_drop]
theorem isort_map (f : α → β) {lt : α → α → Bool} {lt' : β → β → Bool} (h : ∀ a b, lt a b = lt' (f a) (f b)) (l : List α) : P.isort lt' (l.map f) = (P.isort lt l).map f := by
  unfold P.isort
  have : ∀ (l acc : List α), (l.map f).foldl (P.ins lt') (acc.map f) = (l.foldl (P.ins lt) acc).map f := by
    intro l
    induction l with
    | nil => intro acc; rfl
    | cons e l ih => intro acc; simp only [List.map_cons, List.foldl_cons]; rw [ins_map f h, ih]
  exact this l []
end
def winF : Option EvV → Nat → Int
  | none => zF
  | some x => x.F
theorem winV_eq (o : Option EvV) : winV o = .tuple #[pv (winF o), .agg (dcs (winF o)), .bool o.isSome] := by cases o <;> rfl
theorem sets_F (k : Int) (l : List EvV) : (sets k l).map (·.F) = (l.map (·.F)).filter (fun F => F 3 == 2 && F 4 == k) := by
  unfold sets
  rw [List.filter_map]
  rfl
theorem winOf_F {l m : List EvV} (k : Int) (h : m.map (·.F) = l.map (·.F)) : winF (winOf (sets k m)) = winF (winOf (sets k l)) ∧ (winOf (sets k m)).isSome = (winOf (sets k l)).isSome := by
  have h1 : (P.isort ltE (sets k m)).map (·.F) = (P.isort ltE (sets k l)).map (·.F) := by
    have e1 := fun s => isort_map (fun e : EvV => e.F) (lt := ltE) (lt' := fun F G => E.later F G) (fun a b => rfl) s
    rw [← e1, ← e1, sets_F, sets_F, h]
  unfold winOf
  have h2 : ((P.isort ltE (sets k m)).head?).map (·.F) = ((P.isort ltE (sets k l)).head?).map (·.F) := by rw [← List.head?_map, ← List.head?_map, h1]
  cases ha : (P.isort ltE (sets k m)).head? <;> cases hb : (P.isort ltE (sets k l)).head? <;> rw [ha, hb] at h2 <;> simp at h2
  · exact ⟨rfl, rfl⟩
  · exact ⟨h2, rfl⟩
theorem plain_F {l m : List EvV} (h : plain m = plain l) : m.map (·.F) = l.map (·.F) := by
  have := congrArg (List.map (·.1)) h
  unfold plain at this
  rw [List.map_map, List.map_map] at this
  exact this
theorem winOf_spec {s : List EvV} {x : EvV} (h : winOf s = some x) : x ∈ s ∧ ∀ y ∈ s, ltE y x = false := by
  cases s with
  | nil => simp [winOf, P.isort] at h
  | cons a r =>
    rw [winOf_cons] at h
    injection h with h
    subst h
    exact ⟨P.least_mem r a, P.least_le ordE r a⟩
theorem winOf_none {s : List EvV} (h : winOf s = none) : s = [] := by
  cases s with
  | nil => rfl
  | cons a r => rw [winOf_cons] at h; cases h
/-- Dots unlike. -/
def Dist (l : List EvV) : Prop := ∀ i j (hi : i < l.length) (hj : j < l.length), j < i → ¬ (l[i].F 0 = l[j].F 0 ∧ l[i].F 1 = l[j].F 1)
theorem Dist.one {l : List EvV} (h : Dist l) {x y : EvV} (hx : x ∈ l) (hy : y ∈ l) (h0 : x.F 0 = y.F 0) (h1 : x.F 1 = y.F 1) : x = y := by
  obtain ⟨i, hi, rfl⟩ := List.mem_iff_getElem.1 hx
  obtain ⟨j, hj, rfl⟩ := List.mem_iff_getElem.1 hy
  rcases Nat.lt_trichotomy i j with hlt | heq | hgt
  · exact absurd ⟨h0.symm, h1.symm⟩ (h j i hj hi hlt)
  · subst heq; rfl
  · exact absurd ⟨h0, h1⟩ (h i j hi hj hgt)
theorem ltE_both {x y : EvV} (h1 : ltE x y = false) (h2 : ltE y x = false) : x.F 0 = y.F 0 ∧ x.F 1 = y.F 1 := by
  unfold ltE at h1 h2
  rw [later_no] at h1 h2
  omega
theorem mem_set {k : Int} {l : List EvV} {e : EvV} : e ∈ sets k l ↔ e ∈ l ∧ e.F 3 = 2 ∧ e.F 4 = k := by
  unfold sets isSet
  rw [List.mem_filter]
  simp
theorem win_rot {l l' : List EvV} {k : Int} (hd : Dist l) (h : ∀ x, x ∈ l' ↔ x ∈ l) : winOf (sets k l') = winOf (sets k l) := by
  have hs : ∀ x, x ∈ sets k l' ↔ x ∈ sets k l := fun x => by rw [mem_set, mem_set, h x]
  cases ha : winOf (sets k l') with
  | none =>
    have h0 := winOf_none ha
    have : sets k l = [] := List.eq_nil_iff_forall_not_mem.2 fun x hx => by
      have := (hs x).2 hx
      rw [h0] at this; cases this
    rw [this]; rfl
  | some x =>
    obtain ⟨hx, hx2⟩ := winOf_spec ha
    cases hb : winOf (sets k l) with
    | none =>
      have h0 := winOf_none hb
      have := (hs x).1 hx
      rw [h0] at this; cases this
    | some y =>
      obtain ⟨hy, hy2⟩ := winOf_spec hb
      obtain ⟨e0, e1⟩ := ltE_both (hy2 x ((hs x).1 hx)) (hx2 y ((hs y).2 hy))
      rw [hd.one (mem_set.1 ((hs x).1 hx)).1 (mem_set.1 hy).1 e0 e1]
/-- The one that counts is later than all others. -/
theorem win_later {l : List EvV} {k : Int} (hd : Dist l) {e f : EvV} (he : e ∈ l) (hf : f ∈ l) (h3 : e.F 3 = 2) (h4 : e.F 4 = k) (hfd : f.F 0 = winF (winOf (sets k l)) 0 ∧ f.F 1 = winF (winOf (sets k l)) 1) (hed : ¬ (e.F 0 = winF (winOf (sets k l)) 0 ∧ e.F 1 = winF (winOf (sets k l)) 1)) : E.later f.F e.F = true := by
  have hes : e ∈ sets k l := mem_set.2 ⟨he, h3, h4⟩
  cases ha : winOf (sets k l) with
  | none => rw [winOf_none ha] at hes; cases hes
  | some x =>
    rw [ha] at hfd hed
    obtain ⟨hx, hx2⟩ := winOf_spec ha
    have hfx : f = x := hd.one hf (mem_set.1 hx).1 hfd.1 hfd.2
    subst hfx
    cases hl : ltE f e with
    | true => exact hl
    | false => exact absurd (ltE_both (hx2 e hes) hl) hed
theorem win_some {l : List EvV} {k : Int} : (winOf (sets k l)).isSome = decide (0 < ((sets k l).length : Int)) := by
  cases ha : winOf (sets k l) with
  | none => rw [winOf_none ha]; rfl
  | some x =>
    have := List.length_pos_of_mem (winOf_spec ha).1
    simp; omega
end Go.Proofs.Ytgjepgnbkfbodaa
