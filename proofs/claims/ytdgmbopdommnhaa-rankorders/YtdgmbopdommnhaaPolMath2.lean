/- The plain mathematics of a sort that leaves be what neither is ahead: exchanges, insertions, merges in place. No program is named here. -/
import Derived.Test.YtdgmbopdommnhaaPolMath
namespace Go.Proofs.Ytdgmbopdommnhaa.P
set_option linter.unusedVariables false
set_option linter.unusedSimpArgs false

section
variable {α : Type} {lt : α → α → Bool}
/-- Two are exchanged. -/
def exch (l : List α) (i j : Nat) : List α := match l[i]?, l[j]? with
  | some x, some y => (l.set i y).set j x
  | _, _ => l
theorem exch_len (l : List α) (i j : Nat) : (exch l i j).length = l.length := by
  unfold exch; split <;> simp
theorem exch_def {l : List α} {i j : Nat} (hi : i < l.length) (hj : j < l.length) : exch l i j = (l.set i l[j]).set j l[i] := by
  unfold exch; rw [List.getElem?_eq_getElem hi, List.getElem?_eq_getElem hj]
theorem exch_adj (A B : List α) (x y : α) {i : Nat} (hi : i = A.length) : exch (A ++ x :: y :: B) i (i + 1) = A ++ y :: x :: B := by
  subst hi
  rw [exch_def (by simp) (by simp)]
  simp [List.set_append]
theorem exch_adj' (A B : List α) (x y : α) {i : Nat} (hi : i = A.length) : exch (A ++ x :: y :: B) (i + 1) i = A ++ y :: x :: B := by
  subst hi
  rw [exch_def (by simp) (by simp)]
  simp [List.set_append]
/-- Which of two that stand there is ahead. -/
def ltAt (lt : α → α → Bool) (l : List α) (p q : Nat) : Bool := match l[p]?, l[q]? with
  | some x, some y => lt x y
  | _, _ => false
theorem ltAt_eq {l : List α} {p q : Nat} (hp : p < l.length) (hq : q < l.length) : ltAt lt l p q = lt l[p] l[q] := by
  unfold ltAt; rw [List.getElem?_eq_getElem hp, List.getElem?_eq_getElem hq]

/-- From a to b in order. -/
def SrtAt (lt : α → α → Bool) (l : List α) (a b : Nat) : Prop := a ≤ b ∧ b ≤ l.length ∧ ∀ i j, a ≤ i → i < j → j < b → ltAt lt l j i = false
theorem SrtAt.sub {l : List α} {a b c d : Nat} (h : SrtAt lt l a b) (h1 : a ≤ c) (h2 : c ≤ d) (h3 : d ≤ b) : SrtAt lt l c d :=
  ⟨h2, Nat.le_trans h3 h.2.1, fun i j hi hij hj => h.2.2 i j (by omega) hij (by omega)⟩
theorem SrtAt.keep {l l' : List α} {a b : Nat} (h : SrtAt lt l a b) (hl : l'.length = l.length) (hk : ∀ k, a ≤ k → k < b → l'[k]? = l[k]?) : SrtAt lt l' a b :=
  ⟨h.1, by rw [hl]; exact h.2.1, fun i j hi hij hj => by
    have := h.2.2 i j hi hij hj
    unfold ltAt at this ⊢
    rw [hk i hi (by omega), hk j (by omega) hj]
    exact this⟩
theorem get_part {P S Q : List α} {k : Nat} (hk : k < S.length) : (P ++ S ++ Q)[P.length + k]? = some S[k] := by
  rw [List.getElem?_append_left (by simp; omega), List.getElem?_append_right (by omega), Nat.add_sub_cancel_left, List.getElem?_eq_getElem hk]
theorem SrtAt.of {P S Q : List α} (h : Srt lt S) {a b : Nat} (ha : a = P.length) (hb : b = P.length + S.length) : SrtAt lt (P ++ S ++ Q) a b := by
  subst ha; subst hb
  refine ⟨by omega, by simp, fun i j hi hij hj => ?_⟩
  have h1 := get_part (P := P) (S := S) (Q := Q) (k := i - P.length) (by omega)
  have h2 := get_part (P := P) (S := S) (Q := Q) (k := j - P.length) (by omega)
  rw [show P.length + (i - P.length) = i by omega] at h1
  rw [show P.length + (j - P.length) = j by omega] at h2
  unfold ltAt
  rw [h1, h2]
  exact List.pairwise_iff_getElem.1 h _ _ (by omega) (by omega) (by omega)
theorem SrtAt.srt {P S Q : List α} {a b : Nat} (h : SrtAt lt (P ++ S ++ Q) a b) (ha : a = P.length) (hb : b = P.length + S.length) : Srt lt S := by
  subst ha; subst hb
  refine List.pairwise_iff_getElem.2 fun i j hi hj hij => ?_
  have := h.2.2 (P.length + i) (P.length + j) (by omega) (by omega) (by omega)
  unfold ltAt at this
  rw [get_part hi, get_part hj] at this
  exact this
theorem parts (l : List α) {a b : Nat} (ha : a ≤ b) (hb : b ≤ l.length) : ∃ P S Q, l = P ++ S ++ Q ∧ P.length = a ∧ S.length = b - a := by
  refine ⟨l.take a, (l.take b).drop a, l.drop b, ?_, by simp; omega, by simp; omega⟩
  have h1 : l.take a = (l.take b).take a := by rw [List.take_take, Nat.min_eq_left ha]
  rw [h1, List.take_append_drop, List.take_append_drop]

/-- From a to b, what was there is in order now, each class as it stood; all else stands as it stood. -/
def Mg (lt : α → α → Bool) (l l' : List α) (a b : Nat) : Prop := ∃ P S S' Q, l = P ++ S ++ Q ∧ l' = P ++ S' ++ Q ∧ P.length = a ∧ S.length + a = b ∧ S'.length = S.length ∧ Stb lt S S' ∧ Srt lt S'
theorem Mg.len {l l' : List α} {a b : Nat} (h : Mg lt l l' a b) : l'.length = l.length := by
  obtain ⟨P, S, S', Q, rfl, rfl, _, _, h5, _⟩ := h
  simp [h5]
theorem Mg.stb {l l' : List α} {a b : Nat} (h : Mg lt l l' a b) : Stb lt l l' := by
  obtain ⟨P, S, S', Q, rfl, rfl, _, _, _, h6, _⟩ := h
  exact ((Stb.refl P).app h6).app (Stb.refl Q)
theorem Mg.srt {l l' : List α} {a b : Nat} (h : Mg lt l l' a b) : SrtAt lt l' a b := by
  obtain ⟨P, S, S', Q, rfl, rfl, h3, h4, h5, h6, h7⟩ := h
  exact SrtAt.of h7 h3.symm (by omega)
theorem Mg.out {l l' : List α} {a b : Nat} (h : Mg lt l l' a b) (k : Nat) (hk : k < a ∨ b ≤ k) : l'[k]? = l[k]? := by
  obtain ⟨P, S, S', Q, rfl, rfl, h3, h4, h5, h6, h7⟩ := h
  rcases hk with hk | hk
  · rw [List.append_assoc, List.append_assoc, List.getElem?_append_left (by omega), List.getElem?_append_left (by omega)]
  · rw [List.getElem?_append_right (by simp; omega), List.getElem?_append_right (by simp; omega)]
    simp [h5]
theorem Mg.keep {l l' : List α} {a b c d : Nat} (h : Mg lt l l' a b) (hs : SrtAt lt l c d) (hd : d ≤ a ∨ b ≤ c) : SrtAt lt l' c d :=
  hs.keep h.len fun k h1 h2 => h.out k (by omega)
theorem Mg.self {l : List α} {a b : Nat} (h : SrtAt lt l a b) : Mg lt l l a b := by
  obtain ⟨P, S, Q, rfl, h1, h2⟩ := parts l h.1 h.2.1
  exact ⟨P, S, S, Q, rfl, rfl, h1, by have := h.1; omega, rfl, Stb.refl S, h.srt h1.symm (by have := h.1; omega)⟩
/-- The same segment, by whichever cuts. -/
theorem cut_eq {P S Q P' S' Q' : List α} (h : P ++ S ++ Q = P' ++ S' ++ Q') (h1 : P.length = P'.length) (h2 : S.length = S'.length) : P = P' ∧ S = S' ∧ Q = Q' := by
  have e1 := List.append_inj h (by simp; omega)
  have e2 := List.append_inj e1.1 h1
  exact ⟨e2.1, e2.2, e1.2⟩

/-! ### one block by insertion -/
/-- The outer loop at i. -/
def OutI (lt : α → α → Bool) (l0 l : List α) (a b i : Nat) : Prop :=
  ∃ P S0 T R Q, l0 = P ++ (S0 ++ R) ++ Q ∧ l = P ++ T ++ (R ++ Q) ∧ P.length = a ∧ a + T.length = i ∧ T.length = S0.length ∧ i + R.length = b ∧ Stb lt S0 T ∧ Srt lt T
/-- The inner loop at j. -/
def InI (lt : α → α → Bool) (l0 l : List α) (a b i j : Nat) : Prop :=
  ∃ P S0 T1 e T2 R Q, l0 = P ++ (S0 ++ e :: R) ++ Q ∧ l = (P ++ T1) ++ e :: (T2 ++ (R ++ Q)) ∧ P.length = a ∧ a + T1.length = j ∧ T1.length + T2.length = S0.length ∧ a + S0.length = i ∧ i + 1 + R.length = b ∧ Stb lt S0 (T1 ++ T2) ∧ Srt lt (T1 ++ T2) ∧ ∀ t ∈ T2, lt e t = true
theorem OutI.start (l : List α) {a b : Nat} (h : a < b) (hb : b ≤ l.length) : OutI lt l l a b (a + 1) := by
  obtain ⟨P, S, Q, rfl, h1, h2⟩ := parts l (Nat.le_of_lt h) hb
  cases S with
  | nil => simp at h2; omega
  | cons e R => exact ⟨P, [e], [e], R, Q, by simp, by simp, h1, by simp, rfl, by simp at h2; omega, Stb.refl _, List.pairwise_singleton _ _⟩
theorem OutI.next {l0 l : List α} {a b i : Nat} (h : OutI lt l0 l a b i) (hi : i < b) : InI lt l0 l a b i i := by
  obtain ⟨P, S0, T, R, Q, h1, h2, h3, h4, h5, h6, h7, h8⟩ := h
  cases R with
  | nil => simp at h6; omega
  | cons e R => exact ⟨P, S0, T, e, [], R, Q, h1, by rw [h2]; simp, h3, h4, by simp [h5], by omega, by simp at h6; omega, by simpa using h7, by simpa using h8, fun t ht => by cases ht⟩
theorem OutI.fin {l0 l : List α} {a b i : Nat} (h : OutI lt l0 l a b i) (hi : ¬ i < b) : Mg lt l0 l a b := by
  obtain ⟨P, S0, T, R, Q, h1, h2, h3, h4, h5, h6, h7, h8⟩ := h
  have : R = [] := List.eq_nil_of_length_eq_zero (by omega)
  subst this
  exact ⟨P, S0, T, Q, by simpa using h1, by simpa using h2, h3, by simp at h6; omega, h5, h7, h8⟩
theorem OutI.len {l0 l : List α} {a b i : Nat} (h : OutI lt l0 l a b i) : l.length = l0.length := by
  obtain ⟨P, S0, T, R, Q, rfl, rfl, h3, h4, h5, _⟩ := h
  simp [h5]
theorem InI.len {l0 l : List α} {a b i j : Nat} (h : InI lt l0 l a b i j) : l.length = l0.length := by
  obtain ⟨P, S0, T1, e, T2, R, Q, rfl, rfl, h3, h4, h5, _⟩ := h
  simp; omega
theorem InI.bd {l0 l : List α} {a b i j : Nat} (h : InI lt l0 l a b i j) : a ≤ j ∧ j ≤ i ∧ i < b ∧ b ≤ l.length := by
  obtain ⟨P, S0, T1, e, T2, R, Q, rfl, rfl, h3, h4, h5, h6, h7, _⟩ := h
  simp; omega
theorem mid_get (A B : List α) (x : α) {i : Nat} (hi : i = A.length) : (A ++ x :: B)[i]? = some x := by
  subst hi
  rw [List.getElem?_append_right (Nat.le_refl _)]; simp
theorem mid_get1 (A B : List α) (x y : α) {i : Nat} (hi : i = A.length) : (A ++ x :: y :: B)[i + 1]? = some y := by
  subst hi
  rw [List.getElem?_append_right (by omega)]; simp
theorem last_of {l : List α} (h : 0 < l.length) : ∃ l' x, l = l' ++ [x] := by
  rcases List.eq_nil_or_concat l with h1 | ⟨l', x, h1⟩
  · rw [h1] at h; simp at h
  · exact ⟨l', x, by simpa using h1⟩
theorem InI.step {l0 l : List α} {a b i j : Nat} (h : InI lt l0 l a b i (j + 1)) (hj : a < j + 1) (hlt : ltAt lt l (j + 1) j = true) : InI lt l0 (exch l (j + 1) j) a b i j := by
  obtain ⟨P, S0, T1, e, T2, R, Q, h1, h2, h3, h4, h5, h6, h7, h8, h9, h10⟩ := h
  obtain ⟨T, x, rfl⟩ := last_of (l := T1) (by omega)
  have hl : l = (P ++ T) ++ x :: e :: (T2 ++ (R ++ Q)) := by rw [h2]; simp
  have hj' : j = (P ++ T).length := by simp at h4 ⊢; omega
  have hx : lt e x = true := by
    unfold ltAt at hlt
    have e1 : l[j]? = some x := by rw [hl]; exact mid_get _ _ _ hj'
    have e2 : l[j + 1]? = some e := by rw [hl]; exact mid_get1 _ _ _ _ hj'
    rw [e1, e2] at hlt
    exact hlt
  refine ⟨P, S0, T, e, x :: T2, R, Q, h1, ?_, h3, by simp at hj'; omega, by simp at h5 ⊢; omega, h6, h7, by simpa using h8, by simpa using h9, fun t ht => ?_⟩
  · rw [hl, exch_adj' _ _ _ _ hj']; simp
  · rcases List.mem_cons.1 ht with rfl | ht
    · exact hx
    · exact h10 t ht
/-- An element put where it belongs. -/
theorem put_srt (o : Ord lt) {T1 T2 : List α} {e : α} (h : Srt lt (T1 ++ T2)) (h1 : ∀ t ∈ T1, lt e t = false) (h2 : ∀ t ∈ T2, lt e t = true) : Srt lt (T1 ++ e :: T2) := by
  have := List.pairwise_append.1 h
  refine List.pairwise_append.2 ⟨this.1, List.pairwise_cons.2 ⟨fun t ht => o.asym _ _ (h2 t ht), this.2.1⟩, fun a ha b hb => ?_⟩
  rcases List.mem_cons.1 hb with rfl | hb
  · exact h1 a ha
  · exact this.2.2 a ha b hb
theorem put_stb (o : Ord lt) {T1 T2 : List α} {e : α} (h2 : ∀ t ∈ T2, lt e t = true) : Stb lt ((T1 ++ T2) ++ [e]) (T1 ++ e :: T2) := fun a => by
  simp only [List.filter_append, List.append_assoc, List.filter_cons]
  by_cases he : eqv lt a e = true
  · have h3 : T2.filter (eqv lt a) = [] := by
      rw [List.filter_eq_nil_iff]
      intro x hx hc
      have := eqv_lt o he hc
      rw [h2 x hx] at this
      cases this
    simp [he, h3]
  · simp [he]
theorem InI.fin (o : Ord lt) {l0 l : List α} {a b i j : Nat} (h : InI lt l0 l a b i j) (hj : j = a ∨ ∃ k, j = k + 1 ∧ ltAt lt l j k = false) : OutI lt l0 l a b (i + 1) := by
  have hbd := h.bd
  obtain ⟨P, S0, T1, e, T2, R, Q, h1, h2, h3, h4, h5, h6, h7, h8, h9, h10⟩ := h
  have hT1 : ∀ t ∈ T1, lt e t = false := by
    intro t ht
    rcases hj with hj | ⟨k, hk, hlt⟩
    · have : T1 = [] := List.eq_nil_of_length_eq_zero (by omega)
      rw [this] at ht; cases ht
    · by_cases h0 : T1 = []
      · rw [h0] at ht; cases ht
      · obtain ⟨T, x, rfl⟩ := last_of (l := T1) (List.length_pos_iff.2 h0)
        have hl : l = (P ++ T) ++ x :: e :: (T2 ++ (R ++ Q)) := by rw [h2]; simp
        have hk' : k = (P ++ T).length := by simp at h4 ⊢; omega
        have hx : lt e x = false := by
          unfold ltAt at hlt
          have e1 : l[k]? = some x := by rw [hl]; exact mid_get _ _ _ hk'
          have e2 : l[j]? = some e := by rw [hk, hl]; exact mid_get1 _ _ _ _ hk'
          rw [e1, e2] at hlt
          exact hlt
        have hT := (List.pairwise_append.1 (List.pairwise_append.1 h9).1).2.2
        rcases List.mem_append.1 ht with ht | ht
        · exact o.neg _ _ _ hx (hT t ht x (by simp))
        · simp at ht; subst ht; exact hx
  refine ⟨P, S0 ++ [e], T1 ++ e :: T2, R, Q, by rw [h1]; simp, by rw [h2]; simp, h3, by simp; omega, by simp; omega, by omega, ?_, put_srt o h9 hT1 h10⟩
  exact (h8.app (Stb.refl [e])).trans (put_stb o h10)

/-! ### a bound found by halving -/
structure Bs (f : Nat → Bool) (lo hi i j : Nat) : Prop where
  bot : lo ≤ i
  le : i ≤ j
  top : j ≤ hi
  no : ∀ k, lo ≤ k → k < i → f k = false
  yes : ∀ k, j ≤ k → k < hi → f k = true
def Mono (f : Nat → Bool) (lo hi : Nat) : Prop := ∀ k k', lo ≤ k → k ≤ k' → k' < hi → f k = true → f k' = true
theorem Bs.start (f : Nat → Bool) {lo hi : Nat} (h : lo ≤ hi) : Bs f lo hi lo hi := ⟨Nat.le_refl _, h, Nat.le_refl _, fun k _ _ => by omega, fun k _ _ => by omega⟩
theorem Bs.up {f : Nat → Bool} {lo hi i j h : Nat} (b : Bs f lo hi i j) (m : Mono f lo hi) (h1 : i ≤ h) (h2 : h < j) (hf : f h = false) : Bs f lo hi (h + 1) j :=
  ⟨by have := b.bot; omega, by omega, b.top, fun k hk hk2 => (by
    cases e : f k with
    | false => rfl
    | true => have := m k h hk (by omega) (by have := b.top; omega) e; rw [hf] at this; cases this), b.yes⟩
theorem Bs.down {f : Nat → Bool} {lo hi i j h : Nat} (b : Bs f lo hi i j) (m : Mono f lo hi) (h1 : i ≤ h) (h2 : h < j) (hf : f h = true) : Bs f lo hi i h :=
  ⟨b.bot, h1, by have := b.top; omega, b.no, fun k hk hk2 => m h k (by have := b.bot; omega) hk hk2 hf⟩

theorem ltAt_some {l : List α} {p q : Nat} {x y : α} (hp : l[p]? = some x) (hq : l[q]? = some y) : ltAt lt l p q = lt x y := by unfold ltAt; rw [hp, hq]
/-- Where things stand in a row that is put together. -/
theorem part_at {A S B : List α} {k n : Nat} (hk : k < S.length) (hn : n = A.length + k) : (A ++ (S ++ B))[n]? = some S[k] := by
  subst hn
  rw [← List.append_assoc]; exact get_part hk

/-! ### one is put among others that are in order -/
/-- f for the first: none of those behind is behind x any more. -/
theorem mono1 (o : Ord lt) {l : List α} {a m b : Nat} (h : SrtAt lt l m b) (ha : a < l.length) : Mono (fun k => !ltAt lt l k a) m b := by
  intro k k' h1 h2 h3 h4
  have hb := h.2.1
  have hk : k < l.length := by omega
  have hk' : k' < l.length := by omega
  simp only [ltAt_eq hk ha, ltAt_eq hk' ha, Bool.not_eq_true'] at h4 ⊢
  rcases Nat.lt_or_ge k k' with hlt | hge
  · have := h.2.2 k k' h1 hlt h3
    rw [ltAt_eq hk' hk] at this
    exact o.neg _ _ _ this h4
  · have : k = k' := by omega
    subst this; exact h4
theorem mono2 (o : Ord lt) {l : List α} {a m : Nat} (h : SrtAt lt l a m) (hm : m < l.length) : Mono (fun k => ltAt lt l m k) a m := by
  intro k k' h1 h2 h3 h4
  have hk : k < l.length := by omega
  have hk' : k' < l.length := by omega
  simp only [ltAt_eq hm hk, ltAt_eq hm hk'] at h4 ⊢
  rcases Nat.lt_or_ge k k' with hlt | hge
  · have := h.2.2 k k' h1 hlt h3
    rw [ltAt_eq hk' hk] at this
    cases e : lt l[m] l[k'] with
    | true => rfl
    | false => have := o.neg _ _ _ e this; rw [this] at h4; cases h4
  · have : k = k' := by omega
    subst this; exact h4
/-- The element at a moves to the right: it stands at k, and is to come to i - 1. -/
def MvR (lt : α → α → Bool) (l0 l : List α) (a i b k : Nat) : Prop :=
  ∃ P x U V W Q, l0 = P ++ (x :: ((U ++ V) ++ W)) ++ Q ∧ l = (P ++ U) ++ x :: (V ++ (W ++ Q)) ∧ P.length = a ∧ a + U.length = k ∧ k + 1 + V.length = i ∧ i + W.length = b ∧ Srt lt ((U ++ V) ++ W) ∧ (∀ y ∈ U ++ V, lt y x = true) ∧ ∀ y ∈ W, lt y x = false
theorem MvR.start (o : Ord lt) {l : List α} {a b i : Nat} (hs : SrtAt lt l (a + 1) b) (hb : Bs (fun k => !ltAt lt l k a) (a + 1) b i i) : MvR lt l l a i b a := by
  have h1 := hs.1; have h2 := hs.2.1
  have h3 := hb.bot; have h4 := hb.top
  obtain ⟨P, S, Q, rfl, hP, hS⟩ := parts l (a := a) (b := b) (by omega) h2
  cases S with
  | nil => simp at hS; omega
  | cons x R =>
    have hR : Srt lt R := by
      have : SrtAt lt ((P ++ [x]) ++ R ++ Q) (a + 1) b := by simpa using hs
      exact this.srt (by simp; omega) (by simp at hS ⊢; omega)
    have hx : (P ++ x :: R ++ Q)[a]? = some x := by rw [List.append_assoc]; exact mid_get _ _ _ hP.symm
    have hy : ∀ k (hk : k < R.length), (P ++ x :: R ++ Q)[a + 1 + k]? = some R[k] := fun k hk => by
      have := part_at (A := P ++ [x]) (S := R) (B := Q) (n := a + 1 + k) hk (by simp; omega)
      simpa using this
    refine ⟨P, x, [], R.take (i - (a + 1)), R.drop (i - (a + 1)), Q, by simp, by rw [← List.append_assoc (List.take _ _), List.take_append_drop]; simp, hP, by simp, by simp at hS ⊢; omega, by simp at hS ⊢; omega, by simpa using hR, fun y hy' => ?_, fun y hy' => ?_⟩
    · obtain ⟨k, hk, rfl⟩ := List.mem_iff_getElem.1 hy'
      simp at hk
      have := hb.no (a + 1 + k) (by omega) (by omega)
      rw [ltAt_some (hy k (by omega)) hx] at this
      simpa using this
    · obtain ⟨k, hk, rfl⟩ := List.mem_iff_getElem.1 hy'
      simp at hk
      have := hb.yes (a + 1 + (i - (a + 1) + k)) (by omega) (by simp at hS; omega)
      rw [ltAt_some (hy _ (by omega)) hx] at this
      simpa using this
theorem MvR.bd {l0 l : List α} {a i b k : Nat} (h : MvR lt l0 l a i b k) : a ≤ k ∧ k < i ∧ i ≤ b ∧ b ≤ l.length ∧ l.length = l0.length := by
  obtain ⟨P, x, U, V, W, Q, rfl, rfl, h1, h2, h3, h4, _⟩ := h
  simp; omega
theorem MvR.step {l0 l : List α} {a i b k : Nat} (h : MvR lt l0 l a i b k) (hk : k + 1 < i) : MvR lt l0 (exch l k (k + 1)) a i b (k + 1) := by
  obtain ⟨P, x, U, V, W, Q, h1, h2, h3, h4, h5, h6, h7, h8, h9⟩ := h
  cases V with
  | nil => simp at h5; omega
  | cons y V =>
    have hk' : k = (P ++ U).length := by simp; omega
    refine ⟨P, x, U ++ [y], V, W, Q, by rw [h1]; simp, ?_, h3, by simp; omega, by simp at h5 ⊢; omega, h6, by simpa using h7, fun z hz => h8 z (by simpa using hz), h9⟩
    rw [h2, List.cons_append, exch_adj _ _ _ _ hk']; simp
theorem MvR.fin (o : Ord lt) {l0 l : List α} {a i b k : Nat} (h : MvR lt l0 l a i b k) (hk : ¬ k + 1 < i) : Mg lt l0 l a b := by
  obtain ⟨P, x, U, V, W, Q, h1, h2, h3, h4, h5, h6, h7, h8, h9⟩ := h
  have : V = [] := List.eq_nil_of_length_eq_zero (by omega)
  subst this
  simp only [List.append_nil] at h1 h7 h8
  refine ⟨P, x :: (U ++ W), U ++ x :: W, Q, h1, by rw [h2]; simp, h3, by simp at h5 ⊢; omega, by simp; omega, fun c => ?_, ?_⟩
  · simp only [List.filter_append, List.filter_cons]
    by_cases he : eqv lt c x = true
    · have h10 : U.filter (eqv lt c) = [] := by
        rw [List.filter_eq_nil_iff]
        intro y hy hc
        have := eqv_lt o hc he
        rw [h8 y hy] at this
        cases this
      simp [he, h10]
    · simp [he]
  · have hp := List.pairwise_append.1 h7
    refine List.pairwise_append.2 ⟨hp.1, List.pairwise_cons.2 ⟨h9, hp.2.1⟩, fun y hy z hz => ?_⟩
    rcases List.mem_cons.1 hz with rfl | hz
    · exact o.asym _ _ (h8 y hy)
    · exact hp.2.2 y hy z hz
/-- The element at m moves to the left: it stands at k, and is to come to i. -/
def MvL (lt : α → α → Bool) (l0 l : List α) (a i m k : Nat) : Prop :=
  ∃ P W U V y Q, l0 = P ++ ((W ++ (U ++ V)) ++ [y]) ++ Q ∧ l = (P ++ (W ++ U)) ++ y :: (V ++ Q) ∧ P.length = a ∧ a + W.length = i ∧ i + U.length = k ∧ k + V.length = m ∧ Srt lt (W ++ (U ++ V)) ∧ (∀ x ∈ U ++ V, lt y x = true) ∧ ∀ x ∈ W, lt y x = false
theorem MvL.start (o : Ord lt) {l : List α} {a m i : Nat} (hs : SrtAt lt l a m) (hm : m < l.length) (hb : Bs (fun k => ltAt lt l m k) a m i i) : MvL lt l l a i m m := by
  have h1 := hs.1
  have h3 := hb.bot; have h4 := hb.top
  obtain ⟨P, S, Q', rfl, hP, hS⟩ := parts l h1 hs.2.1
  cases Q' with
  | nil => simp at hm; omega
  | cons y Q =>
    have hSs : Srt lt S := hs.srt hP.symm (by omega)
    have hy : (P ++ S ++ y :: Q)[m]? = some y := mid_get _ _ _ (by simp; omega)
    have hx : ∀ k (hk : k < S.length), (P ++ S ++ y :: Q)[a + k]? = some S[k] := fun k hk => by
      have := get_part (P := P) (S := S) (Q := y :: Q) hk
      rwa [hP] at this
    refine ⟨P, S.take (i - a), S.drop (i - a), [], y, Q, by simp, by simp, hP, by simp; omega, by simp; omega, by simp, by simpa using hSs, fun x hx' => ?_, fun x hx' => ?_⟩
    · simp only [List.append_nil] at hx'
      obtain ⟨k, hk, rfl⟩ := List.mem_iff_getElem.1 hx'
      simp at hk
      have := hb.yes (a + (i - a + k)) (by omega) (by omega)
      rw [ltAt_some hy (hx _ (by omega))] at this
      simpa using this
    · obtain ⟨k, hk, rfl⟩ := List.mem_iff_getElem.1 hx'
      simp at hk
      have := hb.no (a + k) (by omega) (by omega)
      rw [ltAt_some hy (hx _ (by omega))] at this
      simpa using this
theorem MvL.bd {l0 l : List α} {a i m k : Nat} (h : MvL lt l0 l a i m k) : a ≤ i ∧ i ≤ k ∧ k ≤ m ∧ m < l.length ∧ l.length = l0.length := by
  obtain ⟨P, W, U, V, y, Q, rfl, rfl, h1, h2, h3, h4, _⟩ := h
  simp; omega
theorem MvL.step {l0 l : List α} {a i m k : Nat} (h : MvL lt l0 l a i m (k + 1)) (hk : i < k + 1) : MvL lt l0 (exch l (k + 1) k) a i m k := by
  obtain ⟨P, W, U, V, y, Q, h1, h2, h3, h4, h5, h6, h7, h8, h9⟩ := h
  obtain ⟨U', x, rfl⟩ := last_of (l := U) (by omega)
  have hk' : k = (P ++ (W ++ U')).length := by simp at h5 ⊢; omega
  refine ⟨P, W, U', x :: V, y, Q, by rw [h1]; simp, ?_, h3, h4, by simp at h5; omega, by simp at h6 ⊢; omega, by simpa using h7, fun z hz => h8 z (by simpa using hz), h9⟩
  have e : l = (P ++ (W ++ U')) ++ x :: y :: (V ++ Q) := by rw [h2]; simp
  rw [e, exch_adj' _ _ _ _ hk']; simp
theorem MvL.fin (o : Ord lt) {l0 l : List α} {a i m k : Nat} (h : MvL lt l0 l a i m k) (hk : ¬ i < k) : Mg lt l0 l a (m + 1) := by
  obtain ⟨P, W, U, V, y, Q, h1, h2, h3, h4, h5, h6, h7, h8, h9⟩ := h
  have : U = [] := List.eq_nil_of_length_eq_zero (by omega)
  subst this
  simp only [List.nil_append, List.append_nil] at h1 h2 h7 h8
  refine ⟨P, (W ++ V) ++ [y], W ++ y :: V, Q, h1, by rw [h2]; simp, h3, by simp at h5 ⊢; omega, by simp, put_stb o h8, put_srt o h7 h9 h8⟩
end
end Go.Proofs.Ytdgmbopdommnhaa.P
