/- The plain mathematics of the document's Works and Sets: numbers put in where they belong, each once; events likewise. -/
import Derived.Test.YtgjepgnbkfbodaaPolMath4
namespace Go.Proofs.Ytgjepgnbkfbodaa
set_option linter.unusedVariables false
set_option linter.unusedSimpArgs false
open Go.ChangeShapes Go.WideShapes Go.ChangeAt Go.RowKit

/-- Strictly rising numbers are told by which they are. -/
theorem rise_one : ∀ {a b : List Int}, a.Pairwise (· < ·) → b.Pairwise (· < ·) → (∀ x, x ∈ a ↔ x ∈ b) → a = b
  | [], [], _, _, _ => rfl
  | [], y :: b, _, _, h => absurd ((h y).2 (List.mem_cons_self)) (by simp)
  | x :: a, [], _, _, h => absurd ((h x).1 (List.mem_cons_self)) (by simp)
  | x :: a, y :: b, ha, hb, h => by
    have ha' := List.pairwise_cons.1 ha
    have hb' := List.pairwise_cons.1 hb
    have hxy : x = y := by
      have h1 := (h x).1 (List.mem_cons_self)
      have h2 := (h y).2 (List.mem_cons_self)
      rcases List.mem_cons.1 h1 with h1 | h1
      · exact h1
      · rcases List.mem_cons.1 h2 with h2 | h2
        · exact h2.symm
        · have := hb'.1 x h1
          have := ha'.1 y h2
          omega
    subst hxy
    rw [rise_one ha'.2 hb'.2 (fun z => by
      constructor
      · intro hz
        have := (h z).1 (List.mem_cons_of_mem _ hz)
        rcases List.mem_cons.1 this with e | e
        · have := ha'.1 z hz; omega
        · exact e
      · intro hz
        have := (h z).2 (List.mem_cons_of_mem _ hz)
        rcases List.mem_cons.1 this with e | e
        · have := hb'.1 z hz; omega
        · exact e)]
/-- How far the search has come: all ahead of at are no greater; is: whether x is among them. -/
structure WSrch (ws : List Int) (x : Int) (k : Nat) (is : Bool) : Prop where
  le : k ≤ ws.length
  no : ∀ j (h : j < ws.length), j < k → ws[j] ≤ x
  is : is = decide (x ∈ ws.take k)
theorem WSrch.start (ws : List Int) (x : Int) : WSrch ws x 0 false := ⟨Nat.zero_le _, fun j _ h => by omega, by simp⟩
theorem WSrch.step {ws : List Int} {x : Int} {k : Nat} {b : Bool} (s : WSrch ws x k b) (hk : k < ws.length) (h : ws[k] ≤ x) : WSrch ws x (k + 1) (b || (ws[k] == x)) := by
  refine ⟨hk, fun j hj hjk => ?_, ?_⟩
  · rcases Nat.lt_or_ge j k with h1 | h1
    · exact s.no j hj h1
    · have : j = k := by omega
      subst this; exact h
  · have e1 : (x ∈ ws.take k ++ [ws[k]]) ↔ (x ∈ ws.take k ∨ ws[k] = x) := by
      rw [List.mem_append, List.mem_singleton]
      exact or_congr Iff.rfl ⟨Eq.symm, Eq.symm⟩
    rw [List.take_succ_eq_append_getElem hk, s.is, decide_eq_decide.2 e1, Bool.decide_or]
    congr 1
/-- Behind the search: x is there, or belongs just here. -/
theorem WSrch.yes {ws : List Int} {x : Int} {k : Nat} (s : WSrch ws x k true) : x ∈ ws := by
  have := s.is
  have h : x ∈ ws.take k := by simpa using this.symm
  exact List.mem_of_mem_take h
theorem WSrch.put {ws : List Int} {x : Int} {k : Nat} (s : WSrch ws x k false) (hp : ws.Pairwise (· < ·)) (he : k = ws.length ∨ ∃ h : k < ws.length, x < ws[k]) : (ws.take k ++ x :: ws.drop k).Pairwise (· < ·) := by
  have hn : x ∉ ws.take k := by
    have := s.is
    intro h
    simp [h] at this
  have hd : ∀ y ∈ ws.drop k, x < y := by
    intro y hy
    obtain ⟨i, hi, rfl⟩ := List.mem_iff_getElem.1 hy
    rw [List.getElem_drop]
    simp at hi
    rcases he with he | ⟨h1, h2⟩
    · omega
    · rcases Nat.eq_or_lt_of_le (Nat.zero_le i) with h3 | h3
      · subst h3; exact h2
      · have := List.pairwise_iff_getElem.1 hp k (k + i) h1 (by omega) (by omega)
        omega
  refine List.pairwise_append.2 ⟨List.Pairwise.sublist (List.take_sublist k ws) hp, List.pairwise_cons.2 ⟨hd, List.Pairwise.sublist (List.drop_sublist k ws) hp⟩, fun a ha b hb => ?_⟩
  have hax : a < x := by
    obtain ⟨i, hi, rfl⟩ := List.mem_iff_getElem.1 ha
    simp at hi
    have h1 := s.no i (by omega) (by omega)
    have h2 : (ws.take k)[i]'(by simp; omega) ≠ x := fun e => hn (by rw [← e]; exact List.getElem_mem _)
    rw [List.getElem_take] at h2 ⊢
    omega
  rcases List.mem_cons.1 hb with rfl | hb
  · exact hax
  · have := hd b hb; omega
theorem mem_put {ws : List Int} {x y : Int} {k : Nat} : y ∈ ws.take k ++ x :: ws.drop k ↔ y = x ∨ y ∈ ws := by
  conv => rhs; rw [← List.take_append_drop k ws]
  simp only [List.mem_append, List.mem_cons]
  constructor
  · rintro (h | h | h)
    · exact .inr (.inl h)
    · exact .inl h
    · exact .inr (.inr h)
  · rintro (h | h | h)
    · exact .inr (.inl h)
    · exact .inl h
    · exact .inr (.inr h)

/-! Events as plain pairs -/
def ltP (a b : E.Ev) : Bool := E.later a.1 b.1
theorem plain_isort (l : List EvV) : P.isort ltP (plain l) = plain (P.isort ltE l) := isort_map (fun e : EvV => (e.F, e.M)) (lt := ltE) (lt' := ltP) (fun a b => rfl) l
theorem plain_ins (l : List EvV) (e : EvV) : P.ins ltP (plain l) (e.F, e.M) = plain (P.ins ltE l e) := ins_map (fun e : EvV => (e.F, e.M)) (lt := ltE) (lt' := ltP) (fun a b => rfl) l e
theorem isort_snoc {α : Type} (lt : α → α → Bool) (l : List α) (e : α) : P.isort lt (l ++ [e]) = P.ins lt (P.isort lt l) e := by
  unfold P.isort
  rw [List.foldl_append]; rfl
/-- One more event is put in: whichever row the ones so far lie in. -/
theorem plain_put {m s : List EvV} {e x : EvV} (h : plain m = plain (P.isort ltE s)) (hx : (x.F, x.M) = (e.F, e.M)) : plain (m.take (P.place ltE e m m.length) ++ x :: m.drop (P.place ltE e m m.length)) = plain (P.isort ltE (s ++ [e])) := by
  rw [isort_snoc, ← plain_ins, ← h, plain_ins]
  unfold P.ins plain
  simp only [List.map_append, List.map_cons, hx]
/-! A step of the search for a place -/
theorem place_yes {α : Type} {lt : α → α → Bool} {e : α} {l : List α} {k : Nat} (hk : k < l.length) (h : lt e l[k] = true) : P.place lt e l (k + 1) = P.place lt e l k := by
  rw [P.place, List.getElem?_eq_getElem hk]
  simp [h]
theorem place_no {α : Type} {lt : α → α → Bool} {e : α} {l : List α} {k : Nat} (hk : k < l.length) (h : lt e l[k] = false) : P.place lt e l (k + 1) = k + 1 := by
  rw [P.place, List.getElem?_eq_getElem hk]
  simp [h]
theorem place_zero {α : Type} {lt : α → α → Bool} {e : α} {l : List α} : P.place lt e l 0 = 0 := rfl
end Go.Proofs.Ytgjepgnbkfbodaa
