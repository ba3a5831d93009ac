/- The plain mathematics of layer 9: lists that are ordered, and stand as they stood where neither is ahead. No program is named here. -/
import Derived.Below
namespace Go.Proofs.Ytdgmbopdommnhaa.P
set_option linter.unusedVariables false
set_option linter.unusedSimpArgs false

section
variable {α : Type}
/-- What is ahead of what: a strict order of classes. -/
structure Ord (lt : α → α → Bool) : Prop where
  irr : ∀ a, lt a a = false
  asym : ∀ a b, lt a b = true → lt b a = false
  neg : ∀ a b c, lt a b = false → lt b c = false → lt a c = false

variable {lt : α → α → Bool}
def eqv (lt : α → α → Bool) (a b : α) : Bool := !lt a b && !lt b a
/-- Ordered: none stands behind one that it is ahead of. -/
def Srt (lt : α → α → Bool) (l : List α) : Prop := l.Pairwise fun a b => lt b a = false
/-- Of each class the same ones, as they stood. -/
def Stb (lt : α → α → Bool) (l l' : List α) : Prop := ∀ a, l'.filter (eqv lt a) = l.filter (eqv lt a)

theorem Stb.refl (l : List α) : Stb lt l l := fun _ => rfl
theorem Stb.trans {a b c : List α} (h : Stb lt a b) (k : Stb lt b c) : Stb lt a c := fun x => (k x).trans (h x)
theorem Stb.app {a b c d : List α} (h : Stb lt a b) (k : Stb lt c d) : Stb lt (a ++ c) (b ++ d) := fun x => by simp [List.filter_append, h x, k x]
theorem eqv_self (o : Ord lt) (a : α) : eqv lt a a = true := by simp [eqv, o.irr a]
theorem eqv_iff {a b : α} : eqv lt a b = true ↔ lt a b = false ∧ lt b a = false := by simp [eqv]
theorem eqv_lt (o : Ord lt) {a x y : α} (hx : eqv lt a x = true) (hy : eqv lt a y = true) : lt x y = false := by
  rw [eqv_iff] at hx hy
  exact o.neg _ _ _ hx.2 hy.1
theorem Stb.mem (o : Ord lt) {l l' : List α} (h : Stb lt l l') {x : α} (hx : x ∈ l') : x ∈ l := by
  have h1 : x ∈ l'.filter (eqv lt x) := List.mem_filter.2 ⟨hx, eqv_self o x⟩
  rw [h x] at h1
  exact (List.mem_filter.1 h1).1
theorem Stb.symm {l l' : List α} (h : Stb lt l l') : Stb lt l' l := fun a => (h a).symm
theorem Stb.tail (o : Ord lt) {x : α} {l l' : List α} (h : Stb lt (x :: l) (x :: l')) : Stb lt l l' := fun a => by
  have := h a
  simp only [List.filter_cons] at this
  split at this
  · exact (List.cons.inj this).2
  · exact this
/-- Where the order of the classes is told there is one such list. -/
theorem srt_one (o : Ord lt) : ∀ {l l' : List α}, Srt lt l → Srt lt l' → Stb lt l l' → l' = l := by
  intro l
  induction l with
  | nil =>
    intro l' _ _ h
    cases l' with
    | nil => rfl
    | cons y s => exact absurd (Stb.mem o h (List.mem_cons_self)) (by simp)
  | cons x r ih =>
    intro l' hl hl' h
    cases l' with
    | nil => exact absurd (Stb.mem o h.symm (List.mem_cons_self)) (by simp)
    | cons y s =>
      have hyx : lt y x = false := by
        rcases List.mem_cons.1 (Stb.mem o h (List.mem_cons_self (a := y) (l := s))) with e | e
        · rw [e]; exact o.irr x
        · exact (List.pairwise_cons.1 hl).1 y e
      have hxy : lt x y = false := by
        rcases List.mem_cons.1 (Stb.mem o h.symm (List.mem_cons_self (a := x) (l := r))) with e | e
        · rw [e]; exact o.irr y
        · exact (List.pairwise_cons.1 hl').1 x e
      have hx := h x
      simp only [List.filter_cons, eqv_self o x, if_true, show eqv lt x y = true from eqv_iff.2 ⟨hxy, hyx⟩] at hx
      have e : y = x := (List.cons.inj hx).1
      subst e
      rw [ih (List.pairwise_cons.1 hl).2 (List.pairwise_cons.1 hl').2 (Stb.tail o h)]
end

/-! ### an element finds its place from the right -/
section
variable {α : Type} {lt : α → α → Bool}
/-- Where e stands among the first k of l, looked for from the right. -/
def place (lt : α → α → Bool) (e : α) (l : List α) : Nat → Nat
  | 0 => 0
  | k + 1 => match l[k]? with
    | some x => if lt e x = true then place lt e l k else k + 1
    | none => k + 1
theorem place_le (e : α) (l : List α) : ∀ k, place lt e l k ≤ k
  | 0 => Nat.le_refl _
  | k + 1 => by
    unfold place
    split
    · split
      · have := place_le e l k; omega
      · omega
    · omega
def ins (lt : α → α → Bool) (l : List α) (e : α) : List α := l.take (place lt e l l.length) ++ e :: l.drop (place lt e l l.length)
def isort (lt : α → α → Bool) (l : List α) : List α := l.foldl (ins lt) []
theorem place_behind {e : α} {l : List α} : ∀ {k : Nat}, k ≤ l.length → ∀ i, place lt e l k ≤ i → (hi : i < k) → (hl : i < l.length) → lt e l[i] = true
  | 0, _, i, _, hi, _ => by omega
  | k + 1, hk, i, h, hi, hl => by
    have hkl : k < l.length := by omega
    unfold place at h
    rw [List.getElem?_eq_getElem hkl] at h
    simp only at h
    split at h
    · next ht =>
      rcases Nat.lt_or_ge i k with hik | hik
      · exact place_behind (by omega) i h hik hl
      · have : i = k := by omega
        subst this
        exact ht
    · omega
theorem place_ahead {e : α} {l : List α} : ∀ {k : Nat}, k ≤ l.length → 0 < place lt e l k → ∃ i, i + 1 = place lt e l k ∧ ∃ h : i < l.length, lt e l[i] = false
  | 0, _, h => by simp [place] at h
  | k + 1, hk, h => by
    have hkl : k < l.length := by omega
    cases ht : lt e l[k] with
    | true =>
      have e1 : place lt e l (k + 1) = place lt e l k := by rw [place]; rw [List.getElem?_eq_getElem hkl]; simp [ht]
      rw [e1] at h ⊢
      exact place_ahead (by omega) h
    | false =>
      have e1 : place lt e l (k + 1) = k + 1 := by rw [place]; rw [List.getElem?_eq_getElem hkl]; simp [ht]
      exact ⟨k, e1.symm, hkl, ht⟩
theorem srt_take {l : List α} (h : Srt lt l) (k : Nat) : Srt lt (l.take k) := List.Pairwise.sublist (List.take_sublist k l) h
theorem srt_drop {l : List α} (h : Srt lt l) (k : Nat) : Srt lt (l.drop k) := List.Pairwise.sublist (List.drop_sublist k l) h
/-- All that stand ahead of the place are not behind e. -/
theorem place_all (o : Ord lt) {e : α} {l : List α} (hs : Srt lt l) : ∀ x ∈ l.take (place lt e l l.length), lt e x = false := by
  intro x hx
  obtain ⟨i, hi, rfl⟩ := List.mem_iff_getElem.1 hx
  have hi' : i < place lt e l l.length := by simp at hi; omega
  have hl : i < l.length := by have := place_le (lt := lt) e l l.length; omega
  obtain ⟨j, hj, h1, h2⟩ := place_ahead (lt := lt) (e := e) (l := l) (Nat.le_refl _) (by omega)
  rw [List.getElem_take]
  rcases Nat.lt_or_ge i j with hlt | hge
  · exact o.neg _ _ _ h2 (List.pairwise_iff_getElem.1 hs _ _ hl h1 hlt)
  · have : i = j := by omega
    subst this
    exact h2
theorem place_rest {e : α} {l : List α} : ∀ x ∈ l.drop (place lt e l l.length), lt e x = true := by
  intro x hx
  obtain ⟨i, hi, rfl⟩ := List.mem_iff_getElem.1 hx
  rw [List.getElem_drop]
  simp at hi
  exact place_behind (Nat.le_refl _) _ (by omega) (by omega) (by omega)
theorem ins_srt (o : Ord lt) {l : List α} (hs : Srt lt l) (e : α) : Srt lt (ins lt l e) := by
  have h1 := place_all o hs (e := e)
  have h2 := place_rest (lt := lt) (l := l) (e := e)
  unfold ins
  refine List.pairwise_append.2 ⟨srt_take hs _, List.pairwise_cons.2 ⟨fun x hx => o.asym _ _ (h2 x hx), srt_drop hs _⟩, fun a ha b hb => ?_⟩
  rcases List.mem_cons.1 hb with rfl | hb
  · exact h1 a ha
  · have hsp : Srt lt (l.take (place lt e l l.length) ++ l.drop (place lt e l l.length)) := by rw [List.take_append_drop]; exact hs
    exact (List.pairwise_append.1 hsp).2.2 a ha b hb
theorem ins_stb (o : Ord lt) (l : List α) (e : α) : Stb lt (l ++ [e]) (ins lt l e) := fun a => by
  have h2 := place_rest (lt := lt) (l := l) (e := e)
  have e1 : l = l.take (place lt e l l.length) ++ l.drop (place lt e l l.length) := (List.take_append_drop _ _).symm
  unfold ins
  generalize place lt e l l.length = k at *
  conv => rhs; rw [e1]
  simp only [List.filter_append, List.append_assoc, List.filter_cons]
  by_cases he : eqv lt a e = true
  · have h3 : (l.drop k).filter (eqv lt a) = [] := by
      rw [List.filter_eq_nil_iff]
      intro x hx hc
      have := eqv_lt o he hc
      rw [h2 x hx] at this
      cases this
    simp [he, h3]
  · simp [he]
theorem foldl_ins (o : Ord lt) : ∀ (l acc : List α), Srt lt acc → Srt lt (l.foldl (ins lt) acc) ∧ Stb lt (acc ++ l) (l.foldl (ins lt) acc)
  | [], acc, h => ⟨h, by simpa using Stb.refl acc⟩
  | e :: l, acc, h => by
    have := foldl_ins o l (ins lt acc e) (ins_srt o h e)
    refine ⟨this.1, Stb.trans ?_ this.2⟩
    have h1 := (ins_stb o acc e).app (Stb.refl l)
    simpa using h1
theorem isort_srt (o : Ord lt) (l : List α) : Srt lt (isort lt l) := (foldl_ins o l [] List.Pairwise.nil).1
theorem isort_stb (o : Ord lt) (l : List α) : Stb lt l (isort lt l) := by
  have := (foldl_ins o l [] List.Pairwise.nil).2
  rwa [List.nil_append] at this
/-- Whatever is ordered and stands as it stood is this one. -/
theorem isort_is (o : Ord lt) {l l' : List α} (h : Srt lt l') (k : Stb lt l l') : l' = isort lt l :=
  (srt_one o (isort_srt o l) h ((isort_stb o l).symm.trans k))
theorem ins_len (l : List α) (e : α) : (ins lt l e).length = l.length + 1 := by
  unfold ins
  have := place_le (lt := lt) e l l.length
  simp; omega
theorem isort_len (l : List α) : (isort lt l).length = l.length := by
  have : ∀ (l acc : List α), (l.foldl (ins lt) acc).length = acc.length + l.length := by
    intro l
    induction l with
    | nil => intro acc; rfl
    | cons e l ih => intro acc; simp only [List.foldl_cons, ih, ins_len, List.length_cons]; omega
  have := this l []
  rw [List.length_nil, Nat.zero_add] at this
  exact this

/-! ### the least one -/
def least (lt : α → α → Bool) (m : α) : List α → α
  | [] => m
  | x :: l => least lt (if lt x m = true then x else m) l
theorem least_ins (o : Ord lt) : ∀ (l : List α) (m : α) (acc : List α), Srt lt (m :: acc) → (∀ acc', Srt lt acc' → True) → (l.foldl (ins lt) (m :: acc)).head? = some (least lt m l)
  | [], m, acc, _, _ => rfl
  | x :: l, m, acc, h, t => by
    have hs := ins_srt o h x
    have key : ∃ acc', ins lt (m :: acc) x = (if lt x m = true then x else m) :: acc' := by
      have h1 := place_all o h (e := x)
      have h2 := place_rest (lt := lt) (l := m :: acc) (e := x)
      unfold ins
      cases hp : place lt x (m :: acc) (m :: acc).length with
      | zero =>
        rw [hp] at h2
        have := h2 m (by simp)
        rw [if_pos this]
        exact ⟨m :: acc, by simp⟩
      | succ k =>
        rw [hp] at h1
        have := h1 m (by simp)
        rw [if_neg (by rw [this]; decide)]
        exact ⟨acc.take k ++ x :: acc.drop k, by simp⟩
    obtain ⟨acc', hk⟩ := key
    simp only [List.foldl_cons, least]
    rw [hk] at hs ⊢
    exact least_ins o l _ acc' hs t
theorem least_head (o : Ord lt) (m : α) (l : List α) : (isort lt (m :: l)).head? = some (least lt m l) := by
  have : ins lt [] m = [m] := by simp [ins, place]
  unfold isort
  simp only [List.foldl_cons, this]
  exact least_ins o l m [] (List.pairwise_singleton _ _) fun _ _ => trivial
theorem least_mem : ∀ (l : List α) (m : α), least lt m l ∈ m :: l
  | [], m => by simp [least]
  | x :: l, m => by
    have := least_mem l (if lt x m = true then x else m)
    simp only [least]
    rcases List.mem_cons.1 this with h | h
    · rw [h]; split <;> simp
    · simp [h]
theorem least_le (o : Ord lt) : ∀ (l : List α) (m : α), ∀ x ∈ m :: l, lt x (least lt m l) = false
  | [], m, x, hx => by simp at hx; subst hx; exact o.irr _
  | y :: l, m, x, hx => by
    simp only [least]
    have ih := least_le o l (if lt y m = true then y else m)
    have h0 := ih _ (List.mem_cons_self)
    rcases List.mem_cons.1 hx with rfl | hx
    · split at h0
      · next h => exact o.neg _ _ _ (o.asym _ _ h) (by rw [if_pos h]; exact h0)
      · next h => rw [if_neg h]; exact h0
    · rcases List.mem_cons.1 hx with rfl | hx
      · split at h0
        · next h => rw [if_pos h]; exact h0
        · next h => rw [if_neg h]; exact o.neg _ _ _ (by simpa using h) h0
      · exact ih x (List.mem_cons_of_mem _ hx)
end
end Go.Proofs.Ytdgmbopdommnhaa.P
