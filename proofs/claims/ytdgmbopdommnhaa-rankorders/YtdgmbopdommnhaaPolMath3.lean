/- The plain mathematics of merges in place, and of the whole sort. No program is named here. -/
import Derived.Test.YtdgmbopdommnhaaPolMath2
namespace Go.Proofs.Ytdgmbopdommnhaa.P
set_option linter.unusedVariables false
set_option linter.unusedSimpArgs false

section
variable {α : Type} {lt : α → α → Bool}

/-! ### rotations -/
/-- What lies from s to m, and what lies from m to t, change places. -/
def Rot (l l' : List α) (s m t : Nat) : Prop := ∃ A X Y B, l = A ++ X ++ Y ++ B ∧ l' = A ++ Y ++ X ++ B ∧ A.length = s ∧ s + X.length = m ∧ m + Y.length = t
theorem cut3 (l : List α) {a m b : Nat} (h1 : a ≤ m) (h2 : m ≤ b) (h3 : b ≤ l.length) : ∃ A X Y B, l = A ++ X ++ Y ++ B ∧ A.length = a ∧ a + X.length = m ∧ m + Y.length = b := by
  obtain ⟨A, S, B, rfl, hA, hS⟩ := parts l (Nat.le_trans h1 h2) h3
  refine ⟨A, S.take (m - a), S.drop (m - a), B, ?_, hA, by simp; omega, by simp; omega⟩
  rw [List.append_assoc A (S.take _) (S.drop _), List.take_append_drop]
theorem Rot.id (l : List α) {s m t : Nat} (h1 : s ≤ m) (h2 : m ≤ t) (h3 : t ≤ l.length) (h : ¬ (s < m ∧ m < t)) : Rot l l s m t := by
  obtain ⟨A, X, Y, B, rfl, hA, hX, hY⟩ := cut3 l h1 h2 h3
  refine ⟨A, X, Y, B, rfl, ?_, hA, hX, hY⟩
  rcases Nat.lt_or_ge s m with hlt | hge
  · have : Y = [] := List.eq_nil_of_length_eq_zero (by omega)
    subst this; simp
  · have : X = [] := List.eq_nil_of_length_eq_zero (by omega)
    subst this; simp
theorem Rot.len {l l' : List α} {s m t : Nat} (h : Rot l l' s m t) : l'.length = l.length := by
  obtain ⟨A, X, Y, B, rfl, rfl, _⟩ := h
  simp; omega
/-- Two rows as long are exchanged, i of n so far. -/
def Swp (l0 l : List α) (a b n i : Nat) : Prop := ∃ A X Y C Z W D, l0 = A ++ (X ++ Y) ++ C ++ (Z ++ W) ++ D ∧ l = (A ++ Z) ++ (Y ++ (C ++ X)) ++ (W ++ D) ∧ A.length = a ∧ X.length = i ∧ Z.length = i ∧ i + Y.length = n ∧ i + W.length = n ∧ a + n + C.length = b
/-- All of them. -/
def Swd (l l' : List α) (a b n : Nat) : Prop := ∃ A X C Z D, l = A ++ X ++ C ++ Z ++ D ∧ l' = A ++ Z ++ C ++ X ++ D ∧ A.length = a ∧ X.length = n ∧ Z.length = n ∧ a + n + C.length = b
theorem Swp.start {l : List α} {a b n : Nat} (h1 : a + n ≤ b) (h2 : b + n ≤ l.length) : Swp l l a b n 0 := by
  obtain ⟨A, S, R, rfl, hA, hS⟩ := parts l (a := a) (b := b) (by omega) (by omega)
  refine ⟨A, [], S.take n, S.drop n, [], R.take n, R.drop n, by simp, by simp, hA, rfl, rfl, by simp; omega, by simp at h2 ⊢; omega, by simp; omega⟩
theorem Swp.bd {l0 l : List α} {a b n i : Nat} (h : Swp l0 l a b n i) : i ≤ n ∧ a + n ≤ b ∧ b + n ≤ l.length ∧ l.length = l0.length := by
  obtain ⟨A, X, Y, C, Z, W, D, rfl, rfl, h1, h2, h3, h4, h5, h6⟩ := h
  simp; omega
theorem exch_far (A B C : List α) (x y : α) {i j : Nat} (hi : i = A.length) (hj : j = A.length + 1 + B.length) : exch (A ++ x :: (B ++ y :: C)) i j = A ++ y :: (B ++ x :: C) := by
  subst hi; subst hj
  have e1 : (A ++ x :: (B ++ y :: C))[A.length]? = some x := mid_get _ _ _ rfl
  have e2 : (A ++ x :: (B ++ y :: C))[A.length + 1 + B.length]? = some y := by
    have := mid_get (A ++ x :: B) C y (i := A.length + 1 + B.length) (by simp; omega)
    simpa using this
  unfold exch
  rw [e1, e2]
  simp only
  have e3 : (A ++ x :: (B ++ y :: C)).set A.length y = (A ++ y :: B) ++ y :: C := by simp [List.set_append]
  rw [e3, List.set_append_right _ _ (by simp; omega)]
  have e4 : A.length + 1 + B.length - (A ++ y :: B).length = 0 := by simp; omega
  rw [e4]; simp
theorem Swp.step {l0 l : List α} {a b n i : Nat} (h : Swp l0 l a b n i) (hi : i < n) : Swp l0 (exch l (a + i) (b + i)) a b n (i + 1) := by
  obtain ⟨A, X, Y, C, Z, W, D, h0, h, h1, h2, h3, h4, h5, h6⟩ := h
  cases Y with
  | nil => simp at h4; omega
  | cons y Y =>
    cases W with
    | nil => simp at h5; omega
    | cons z W =>
      have e : l = (A ++ Z) ++ y :: ((Y ++ (C ++ X)) ++ z :: (W ++ D)) := by rw [h]; simp
      refine ⟨A, X ++ [y], Y, C, Z ++ [z], W, D, by rw [h0]; simp, ?_, h1, by simp [h2], by simp [h3], by simp at h4; omega, by simp at h5; omega, h6⟩
      rw [e, exch_far _ _ _ _ _ (by simp; omega) (by simp at h4 ⊢; omega)]
      simp
theorem Swp.fin {l0 l : List α} {a b n i : Nat} (h : Swp l0 l a b n i) (hi : ¬ i < n) : Swd l0 l a b n := by
  obtain ⟨A, X, Y, C, Z, W, D, h0, h, h1, h2, h3, h4, h5, h6⟩ := h
  have : Y = [] := List.eq_nil_of_length_eq_zero (by omega)
  subst this
  have : W = [] := List.eq_nil_of_length_eq_zero (by omega)
  subst this
  exact ⟨A, X, C, Z, D, by simpa using h0, by simpa using h, h1, by simp at h4; omega, by simp at h4; omega, h6⟩
/-- A rotation on its way: what lies i to the left of m, and j to the right, are still to change places. -/
def Rtt (l0 l : List α) (s m t i j : Nat) : Prop := ∃ A X0 Y0 B P X Y Q, l0 = A ++ X0 ++ Y0 ++ B ∧ A.length = s ∧ s + X0.length = m ∧ m + Y0.length = t ∧ l = (P ++ X) ++ (Y ++ Q) ∧ X.length = i ∧ Y.length = j ∧ (P ++ X).length = m ∧ P ++ Y ++ X ++ Q = A ++ Y0 ++ X0 ++ B ∧ s ≤ P.length ∧ m + j ≤ t
theorem Rtt.start {l : List α} {s m t : Nat} (h1 : s ≤ m) (h2 : m ≤ t) (h3 : t ≤ l.length) : Rtt l l s m t (m - s) (t - m) := by
  obtain ⟨A, X, Y, B, rfl, hA, hX, hY⟩ := cut3 l h1 h2 h3
  exact ⟨A, X, Y, B, A, X, Y, B, rfl, hA, hX, hY, by simp, by omega, by omega, by simp; omega, rfl, by omega, by omega⟩
theorem Rtt.bd {l0 l : List α} {s m t i j : Nat} (h : Rtt l0 l s m t i j) : s + i ≤ m ∧ m + j ≤ t ∧ t ≤ l.length ∧ l.length = l0.length := by
  obtain ⟨A, X0, Y0, B, P, X, Y, Q, rfl, h1, h2, h3, rfl, h4, h5, h6, h7, h8, h9⟩ := h
  have := congrArg List.length h7
  simp at this h6 ⊢
  omega
theorem Rtt.left {l0 l l' : List α} {s m t i j : Nat} (h : Rtt l0 l s m t i j) (hij : j < i) (hs : Swd l l' (m - i) m j) : Rtt l0 l' s m t (i - j) j := by
  obtain ⟨A, X0, Y0, B, P, X, Y, Q, h0, h1, h2, h3, hl, h4, h5, h6, h7, h8, h9⟩ := h
  obtain ⟨A1, X1, C1, Z1, D1, k0, k1, k2, k3, k4, k5⟩ := hs
  obtain ⟨Xa, Xb, rfl, ha, hb⟩ : ∃ Xa Xb, X = Xa ++ Xb ∧ Xa.length = j ∧ Xb.length = i - j := ⟨X.take j, X.drop j, by simp, by simp; omega, by simp; omega⟩
  have hP : P.length = m - i := by simp at h6 h4; omega
  have hm : i ≤ m := by simp at h6 h4; omega
  have e : A1 ++ X1 ++ (C1 ++ (Z1 ++ D1)) = P ++ Xa ++ (Xb ++ (Y ++ Q)) := by
    have : l = A1 ++ X1 ++ (C1 ++ (Z1 ++ D1)) := by rw [k0]; simp
    rw [← this, hl]; simp
  obtain ⟨e1, e2, e3⟩ := cut_eq e (by omega) (by omega)
  obtain ⟨e4, e5⟩ := List.append_inj e3 (by omega)
  obtain ⟨e6, e7⟩ := List.append_inj e5 (by omega)
  subst e1; subst e2; subst e4; subst e6; subst e7
  refine ⟨A, X0, Y0, B, A1 ++ Z1, C1, X1, D1, h0, h1, h2, h3, by rw [k1]; simp, hb, ha, by simp; omega, ?_, by simp; omega, h9⟩
  rw [← h7]; simp
theorem Rtt.right {l0 l l' : List α} {s m t i j : Nat} (h : Rtt l0 l s m t i j) (hij : i < j) (hs : Swd l l' (m - i) (m + j - i) i) : Rtt l0 l' s m t i (j - i) := by
  obtain ⟨A, X0, Y0, B, P, X, Y, Q, h0, h1, h2, h3, hl, h4, h5, h6, h7, h8, h9⟩ := h
  obtain ⟨A1, X1, C1, Z1, D1, k0, k1, k2, k3, k4, k5⟩ := hs
  obtain ⟨Ya, Yb, rfl, ha, hb⟩ : ∃ Ya Yb, Y = Ya ++ Yb ∧ Ya.length = j - i ∧ Yb.length = i := ⟨Y.take (j - i), Y.drop (j - i), by simp, by simp; omega, by simp; omega⟩
  have hP : P.length = m - i := by simp at h6 h4; omega
  have hm : i ≤ m := by simp at h6 h4; omega
  have e : A1 ++ X1 ++ (C1 ++ (Z1 ++ D1)) = P ++ X ++ (Ya ++ (Yb ++ Q)) := by
    have : l = A1 ++ X1 ++ (C1 ++ (Z1 ++ D1)) := by rw [k0]; simp
    rw [← this, hl]; simp
  obtain ⟨e1, e2, e3⟩ := cut_eq e (by omega) (by omega)
  obtain ⟨e4, e5⟩ := List.append_inj e3 (by omega)
  obtain ⟨e6, e7⟩ := List.append_inj e5 (by omega)
  subst e1; subst e2; subst e4; subst e6; subst e7
  refine ⟨A, X0, Y0, B, A1, Z1, C1, X1 ++ D1, h0, h1, h2, h3, by rw [k1]; simp, hb, ha, by simp; omega, ?_, by omega, by omega⟩
  rw [← h7]; simp
theorem Rtt.fin {l0 l l' : List α} {s m t i : Nat} (h : Rtt l0 l s m t i i) (hs : Swd l l' (m - i) m i) : Rot l0 l' s m t := by
  obtain ⟨A, X0, Y0, B, P, X, Y, Q, h0, h1, h2, h3, hl, h4, h5, h6, h7, h8, h9⟩ := h
  obtain ⟨A1, X1, C1, Z1, D1, k0, k1, k2, k3, k4, k5⟩ := hs
  have hP : P.length = m - i := by simp at h6; omega
  have : C1 = [] := List.eq_nil_of_length_eq_zero (by simp at h6; omega)
  subst this
  have e : A1 ++ X1 ++ (Z1 ++ D1) = P ++ X ++ (Y ++ Q) := by
    have : l = A1 ++ X1 ++ (Z1 ++ D1) := by rw [k0]; simp
    rw [← this, hl]
  obtain ⟨e1, e2, e3⟩ := cut_eq e (by omega) (by omega)
  obtain ⟨e6, e7⟩ := List.append_inj e3 (by omega)
  subst e1; subst e2; subst e6; subst e7
  exact ⟨A, X0, Y0, B, h0, by rw [← h7, k1]; simp, h1, h2, h3⟩

/-! ### one step of a merge in place -/
theorem mono3 (o : Ord lt) {l : List α} {a m b n lo hi : Nat} (h1 : SrtAt lt l a m) (h2 : SrtAt lt l m b) (ha : a ≤ lo) (hm : hi ≤ m) (hn : ∀ c, lo ≤ c → c < hi → m ≤ n - 1 - c ∧ n - 1 - c < b ∧ c < n) : Mono (fun c => ltAt lt l (n - 1 - c) c) lo hi := by
  intro c c' hc hcc hc' hf
  have hb := h2.2.1; have hmm := h2.1
  obtain ⟨g1, g2, g3⟩ := hn c hc (by omega)
  obtain ⟨g4, g5, g6⟩ := hn c' (by omega) hc'
  have k1 : c < l.length := by omega
  have k2 : c' < l.length := by omega
  have k3 : n - 1 - c < l.length := by omega
  have k4 : n - 1 - c' < l.length := by omega
  simp only [ltAt_eq k3 k1, ltAt_eq k4 k2] at hf ⊢
  rcases Nat.lt_or_ge c c' with hlt | hge
  · have e1 := h1.2.2 c c' (by omega) hlt (by omega)
    have e2 := h2.2.2 (n - 1 - c') (n - 1 - c) (by omega) (by omega) (by omega)
    rw [ltAt_eq k2 k1] at e1
    rw [ltAt_eq k3 k4] at e2
    cases e : lt l[n - 1 - c'] l[c'] with
    | true => rfl
    | false => have := o.neg _ _ _ e2 (o.neg _ _ _ e e1); rw [this] at hf; cases hf
  · have : c = c' := by omega
    subst this; exact hf
/-- Behind the search: the four parts, and behind the rotation. -/
def Sym (lt : α → α → Bool) (l l1 : List α) (a s mid t b : Nat) : Prop :=
  ∃ P X1 X2 Y1 Y2 Q, l = P ++ ((X1 ++ X2) ++ (Y1 ++ Y2)) ++ Q ∧ l1 = P ++ (X1 ++ Y1) ++ ((X2 ++ Y2) ++ Q) ∧ P.length = a ∧ a + X1.length = s ∧ s + Y1.length = mid ∧ mid + X2.length = t ∧ t + Y2.length = b ∧ Srt lt (X1 ++ X2) ∧ Srt lt (Y1 ++ Y2) ∧ (∀ y ∈ Y1, ∀ x ∈ X2, lt y x = true) ∧ ∀ y ∈ Y2, ∀ x ∈ X1, lt y x = false
theorem Sym.of (o : Ord lt) {l l1 : List α} {a m b s mid n lo hi : Nat} (h1 : SrtAt lt l a m) (h2 : SrtAt lt l m b) (hb : Bs (fun c => ltAt lt l (n - 1 - c) c) lo hi s s) (hn : n = mid + m)
    (hw : (mid < m ∧ lo + b = n ∧ a ≤ lo ∧ hi = mid) ∨ (m ≤ mid ∧ lo = a ∧ hi = m ∧ n ≤ a + b)) (hr : Rot l l1 s m (n - s)) : Sym lt l l1 a s mid (n - s) b := by
  have c1 := hb.bot; have c2 := hb.top
  have d1 := h1.1; have d2 := h2.1; have d3 := h2.2.1
  obtain ⟨A, X2, Y1, B, hl, hl1, r1, r2, r3⟩ := hr
  have hs1 : a ≤ s := by omega
  have hs2 : n - s ≤ b := by omega
  have hlen : l.length = s + X2.length + Y1.length + B.length := by rw [hl]; simp; omega
  obtain ⟨P, X1, rfl, hP, hX1⟩ : ∃ P X1, A = P ++ X1 ∧ P.length = a ∧ a + X1.length = s := ⟨A.take a, A.drop a, by simp, by simp; omega, by simp; omega⟩
  obtain ⟨Y2, Q, rfl, hY2⟩ : ∃ Y2 Q, B = Y2 ++ Q ∧ n - s + Y2.length = b := ⟨B.take (b - (n - s)), B.drop (b - (n - s)), by simp, by simp; omega⟩
  have e1 : l = P ++ (X1 ++ X2) ++ (Y1 ++ Y2 ++ Q) := by rw [hl]; simp
  have e2 : l = (P ++ (X1 ++ X2)) ++ (Y1 ++ Y2) ++ Q := by rw [hl]; simp
  have s1 : Srt lt (X1 ++ X2) := by rw [e1] at h1; exact h1.srt hP.symm (by simp; omega)
  have s2 : Srt lt (Y1 ++ Y2) := by rw [e2] at h2; exact h2.srt (by simp; omega) (by simp; omega)
  refine ⟨P, X1, X2, Y1, Y2, Q, by rw [hl]; simp, by rw [hl1]; simp, hP, hX1, by omega, by omega, hY2, s1, s2, ?_, ?_⟩
  · intro y hy x hx
    have hsh : s < hi := by
      have := List.length_pos_of_mem hy
      have := List.length_pos_of_mem hx
      omega
    have key := hb.yes s (Nat.le_refl _) hsh
    cases X2 with
    | nil => cases hx
    | cons x0 X2 =>
      obtain ⟨Y, y0, rfl⟩ := last_of (List.length_pos_of_mem hy)
      have f1 : l[s]? = some x0 := by
        rw [hl]
        have := mid_get (P ++ X1) (X2 ++ ((Y ++ [y0]) ++ (Y2 ++ Q))) x0 (i := s) r1.symm
        simpa using this
      have f2 : l[n - 1 - s]? = some y0 := by
        rw [hl]
        have := mid_get (P ++ X1 ++ (x0 :: X2) ++ Y) (Y2 ++ Q) y0 (i := n - 1 - s) (by simp at r1 r2 r3 ⊢; omega)
        simpa using this
      rw [ltAt_some f2 f1] at key
      have g1 : lt y0 y = false := by
        have := (List.pairwise_append.1 (List.pairwise_append.1 s2).1).2.2
        rcases List.mem_append.1 hy with h | h
        · exact this y h y0 (by simp)
        · simp at h; subst h; exact o.irr _
      have g2 : lt x x0 = false := by
        have := (List.pairwise_append.1 s1).2.1
        rcases List.mem_cons.1 hx with rfl | h
        · exact o.irr _
        · exact (List.pairwise_cons.1 this).1 x h
      cases e : lt y x with
      | true => rfl
      | false => have := o.neg _ _ _ g1 (o.neg _ _ _ e g2); rw [this] at key; cases key
  · intro y hy x hx
    have hsl : lo ≤ s - 1 ∧ s - 1 < s := by
      have := List.length_pos_of_mem hy
      have := List.length_pos_of_mem hx
      omega
    have key := hb.no (s - 1) hsl.1 hsl.2
    obtain ⟨X, x0, rfl⟩ := last_of (List.length_pos_of_mem hx)
    cases Y2 with
    | nil => cases hy
    | cons y0 Y2 =>
      have f1 : l[s - 1]? = some x0 := by
        rw [hl]
        have := mid_get (P ++ X) (X2 ++ (Y1 ++ (y0 :: Y2 ++ Q))) x0 (i := s - 1) (by simp at r1 ⊢; omega)
        simpa using this
      have f2 : l[n - 1 - (s - 1)]? = some y0 := by
        rw [hl]
        have := mid_get (P ++ (X ++ [x0]) ++ X2 ++ Y1) (Y2 ++ Q) y0 (i := n - 1 - (s - 1)) (by simp at r1 r2 r3 ⊢; omega)
        simpa using this
      rw [ltAt_some f2 f1] at key
      have g1 : lt x0 x = false := by
        have := (List.pairwise_append.1 (List.pairwise_append.1 s1).1).2.2
        rcases List.mem_append.1 hx with h | h
        · exact this x h x0 (by simp)
        · simp at h; subst h; exact o.irr _
      have g2 : lt y y0 = false := by
        have := (List.pairwise_append.1 s2).2.1
        rcases List.mem_cons.1 hy with rfl | h
        · exact o.irr _
        · exact (List.pairwise_cons.1 this).1 y h
      exact o.neg _ _ _ g2 (o.neg _ _ _ key g1)
theorem Sym.first {l l1 : List α} {a s mid t b : Nat} (h : Sym lt l l1 a s mid t b) : SrtAt lt l1 a s ∧ SrtAt lt l1 s mid ∧ l1.length = l.length ∧ mid ≤ t ∧ t ≤ b ∧ b ≤ l.length := by
  obtain ⟨P, X1, X2, Y1, Y2, Q, rfl, rfl, h1, h2, h3, h4, h5, s1, s2, _⟩ := h
  refine ⟨?_, ?_, by simp; omega, by omega, by omega, by simp; omega⟩
  · have := SrtAt.of (P := P) (Q := Y1 ++ (X2 ++ Y2 ++ Q)) (List.pairwise_append.1 s1).1 h1.symm (b := s) (by omega)
    simpa using this
  · have := SrtAt.of (P := P ++ X1) (Q := X2 ++ Y2 ++ Q) (List.pairwise_append.1 s2).1 (a := s) (by simp; omega) (b := mid) (by simp; omega)
    simpa using this
theorem SrtAt.glue {l : List α} {a s b : Nat} (h1 : SrtAt lt l a s) (h2 : SrtAt lt l s b) (h : ¬ (a < s ∧ s < b)) : SrtAt lt l a b := by
  rcases Nat.lt_or_ge a s with h3 | h3
  · have : s = b := by have := h2.1; omega
    subst this; exact h1
  · have : a = s := by have := h1.1; omega
    subst this; exact h2
theorem Sym.second {l l1 l2 : List α} {a s mid t b : Nat} (h : Sym lt l l1 a s mid t b) (k : Mg lt l1 l2 a mid) : SrtAt lt l2 mid t ∧ SrtAt lt l2 t b := by
  have hk : SrtAt lt l1 mid t ∧ SrtAt lt l1 t b := by
    obtain ⟨P, X1, X2, Y1, Y2, Q, rfl, rfl, h1, h2, h3, h4, h5, s1, s2, _⟩ := h
    refine ⟨?_, ?_⟩
    · have := SrtAt.of (P := P ++ (X1 ++ Y1)) (Q := Y2 ++ Q) (List.pairwise_append.1 s1).2.1 (a := mid) (by simp; omega) (b := t) (by simp; omega)
      simpa using this
    · have := SrtAt.of (P := P ++ (X1 ++ Y1) ++ X2) (Q := Q) (List.pairwise_append.1 s2).2.1 (a := t) (by simp; omega) (b := b) (by simp; omega)
      simpa using this
  have h4 : mid ≤ t := hk.1.1
  exact ⟨k.keep hk.1 (.inr (Nat.le_refl _)), k.keep hk.2 (.inr h4)⟩
theorem Sym.fin (o : Ord lt) {l l1 l2 l3 : List α} {a s mid t b : Nat} (h : Sym lt l l1 a s mid t b) (k1 : Mg lt l1 l2 a mid) (k2 : Mg lt l2 l3 mid b) : Mg lt l l3 a b := by
  obtain ⟨P, X1, X2, Y1, Y2, Q, hl, hl1, h1, h2, h3, h4, h5, s1, s2, c1, c2⟩ := h
  obtain ⟨P', S, S1, Q', p1, p2, p3, p4, p5, p6, p7⟩ := k1
  obtain ⟨e1, e2, e3⟩ := cut_eq (p1.symm.trans hl1) (by omega) (by simp; omega)
  subst e1; subst e2; subst e3
  obtain ⟨P2, T, S2, Q2, q1, q2, q3, q4, q5, q6, q7⟩ := k2
  have e4 : P2 ++ T ++ Q2 = (P' ++ S1) ++ (X2 ++ Y2) ++ Q := by rw [← q1, p2]; simp
  obtain ⟨e1, e2, e3⟩ := cut_eq e4 (by simp at p4 p5 ⊢; omega) (by simp at p4 p5 ⊢; omega)
  subst e1; subst e2; subst e3
  refine ⟨P', (X1 ++ X2) ++ (Y1 ++ Y2), S1 ++ S2, Q2, hl, by rw [q2]; simp, h1, by simp; omega, by simp at p5 q5 ⊢; omega, ?_, ?_⟩
  · refine Stb.trans (b := (X1 ++ Y1) ++ (X2 ++ Y2)) (fun c => ?_) (p6.app q6)
    simp only [List.filter_append, List.append_assoc]
    have : X2.filter (eqv lt c) = [] ∨ Y1.filter (eqv lt c) = [] := by
      rcases hX : X2.filter (eqv lt c) with _ | ⟨x, r⟩
      · exact .inl rfl
      · refine .inr (List.filter_eq_nil_iff.2 fun y hy hc => ?_)
        have hx : x ∈ X2.filter (eqv lt c) := by rw [hX]; simp
        obtain ⟨hx1, hx2⟩ := List.mem_filter.1 hx
        have := eqv_lt o hc hx2
        rw [c1 y hy x hx1] at this
        cases this
    rcases this with h | h <;> simp [h]
  · refine List.pairwise_append.2 ⟨p7, q7, fun x hx y hy => ?_⟩
    have hx' := Stb.mem o p6 hx
    have hy' := Stb.mem o q6 hy
    have t1 := (List.pairwise_append.1 s1).2.2
    have t2 := (List.pairwise_append.1 s2).2.2
    rcases List.mem_append.1 hx' with hx' | hx' <;> rcases List.mem_append.1 hy' with hy' | hy'
    · exact t1 x hx' y hy'
    · exact c2 y hy' x hx'
    · exact o.asym _ _ (c1 x hx' y hy')
    · exact t2 x hx' y hy'

/-! ### blocks, and twice as great ones -/
/-- Blocks of s in order, all of them. -/
structure All (lt : α → α → Bool) (l0 l : List α) (s n : Nat) : Prop where
  len : l.length = n
  stb : Stb lt l0 l
  blk : ∀ k, k * s < n → SrtAt lt l (k * s) (min ((k + 1) * s) n)
/-- Blocks of s in order ahead of a; b is the end of the next one. -/
structure One (lt : α → α → Bool) (l0 l : List α) (s n a : Nat) : Prop where
  len : l.length = n
  stb : Stb lt l0 l
  top : a ≤ n
  num : ∃ K, a = K * s ∧ ∀ k, k < K → SrtAt lt l (k * s) ((k + 1) * s)
theorem One.start {l : List α} {s n : Nat} (h : l.length = n) : One lt l l s n 0 := ⟨h, Stb.refl l, Nat.zero_le _, 0, by simp, fun k hk => by omega⟩
theorem blk_le {K k s : Nat} (h : k < K) : (k + 1) * s ≤ K * s := Nat.mul_le_mul_right s h
theorem One.step {l0 l l' : List α} {s n a : Nat} (h : One lt l0 l s n a) (hb : a + s ≤ n) (k : Mg lt l l' a (a + s)) : One lt l0 l' s n (a + s) := by
  obtain ⟨h1, h2, h3, K, rfl, h4⟩ := h
  refine ⟨k.len.trans h1, h2.trans k.stb, hb, K + 1, by rw [Nat.succ_mul], fun j hj => ?_⟩
  rcases Nat.lt_or_ge j K with hlt | hge
  · exact k.keep (h4 j hlt) (.inl (blk_le hlt))
  · have : j = K := by omega
    subst this
    rw [Nat.succ_mul]
    exact k.srt
theorem One.fin {l0 l l' : List α} {s n a : Nat} (h : One lt l0 l s n a) (hb : n < a + s) (k : Mg lt l l' a n) : All lt l0 l' s n := by
  obtain ⟨h1, h2, h3, K, rfl, h4⟩ := h
  refine ⟨k.len.trans h1, h2.trans k.stb, fun j hj => ?_⟩
  rcases Nat.lt_or_ge j K with hlt | hge
  · have := blk_le (s := s) hlt
    rw [Nat.min_eq_left (by omega)]
    exact k.keep (h4 j hlt) (.inl this)
  · have h5 : K * s ≤ j * s := Nat.mul_le_mul_right s hge
    rcases Nat.lt_or_ge K j with hlt | hge2
    · have := blk_le (s := s) hlt
      rw [Nat.succ_mul] at this; omega
    · have : j = K := by omega
      subst this
      rw [Nat.succ_mul, Nat.min_eq_right (by omega)]
      exact k.srt
/-- Blocks of s, of which those ahead of a are already two and two together. -/
structure Two (lt : α → α → Bool) (l0 l : List α) (s n a : Nat) : Prop where
  len : l.length = n
  stb : Stb lt l0 l
  top : a ≤ n
  num : ∃ K, a = K * (2 * s) ∧ ∀ k, k < K → SrtAt lt l (k * (2 * s)) ((k + 1) * (2 * s))
  rest : ∀ k, a ≤ k * s → k * s < n → SrtAt lt l (k * s) (min ((k + 1) * s) n)
theorem Two.start {l0 l : List α} {s n : Nat} (h : All lt l0 l s n) : Two lt l0 l s n 0 := ⟨h.len, h.stb, Nat.zero_le _, ⟨0, by simp, fun k hk => by omega⟩, fun k _ hk => h.blk k hk⟩
theorem two_mul' (K s : Nat) : (2 * K) * s = K * (2 * s) := by rw [Nat.mul_comm 2 K, Nat.mul_assoc]
/-- The next two. -/
theorem Two.next {l0 l : List α} {s n a : Nat} (h : Two lt l0 l s n a) (hm : a + s < n) (hs : 0 < s) : SrtAt lt l a (a + s) ∧ SrtAt lt l (a + s) (min (a + 2 * s) n) := by
  obtain ⟨h1, h2, h3, ⟨K, rfl, h4⟩, h5⟩ := h
  have e1 : (2 * K) * s = K * (2 * s) := two_mul' K s
  have e2 : (2 * K + 1) * s = K * (2 * s) + s := by rw [Nat.succ_mul, e1]
  have e3 : (2 * K + 1 + 1) * s = K * (2 * s) + 2 * s := by rw [Nat.succ_mul, e2]; omega
  have k1 := h5 (2 * K) (by rw [e1]; exact Nat.le_refl _) (by rw [e1]; omega)
  have k2 := h5 (2 * K + 1) (by rw [e2]; omega) (by rw [e2]; exact hm)
  rw [e1, e2, Nat.min_eq_left (by omega)] at k1
  rw [e2, e3] at k2
  exact ⟨k1, k2⟩
theorem Two.step {l0 l l' : List α} {s n a : Nat} (h : Two lt l0 l s n a) (hb : a + 2 * s ≤ n) (k : Mg lt l l' a (a + 2 * s)) : Two lt l0 l' s n (a + 2 * s) := by
  obtain ⟨h1, h2, h3, ⟨K, rfl, h4⟩, h5⟩ := h
  refine ⟨k.len.trans h1, h2.trans k.stb, hb, ⟨K + 1, by rw [Nat.succ_mul K], fun j hj => ?_⟩, fun j hj hj2 => k.keep (h5 j (by omega) hj2) (.inr hj)⟩
  rcases Nat.lt_or_ge j K with hlt | hge
  · exact k.keep (h4 j hlt) (.inl (blk_le hlt))
  · have : j = K := by omega
    subst this
    rw [Nat.succ_mul j]
    exact k.srt
theorem Two.fin {l0 l l' : List α} {s n a : Nat} (h : Two lt l0 l s n a) (hb : n < a + 2 * s) (k : Mg lt l l' a n) : All lt l0 l' (2 * s) n := by
  obtain ⟨h1, h2, h3, ⟨K, rfl, h4⟩, h5⟩ := h
  exact One.fin ⟨h1, h2, h3, K, rfl, h4⟩ hb k
theorem Two.done {l0 l : List α} {s n a : Nat} (h : Two lt l0 l s n a) (hb : n < a + 2 * s) (hm : ¬ a + s < n) : All lt l0 l (2 * s) n := by
  refine h.fin hb (Mg.self ?_)
  obtain ⟨h1, h2, h3, ⟨K, rfl, h4⟩, h5⟩ := h
  rcases Nat.lt_or_ge (K * (2 * s)) n with hlt | hge
  · have k1 := h5 (2 * K) (by rw [two_mul']; exact Nat.le_refl _) (by rw [two_mul']; exact hlt)
    rw [Nat.succ_mul (2 * K), two_mul', Nat.min_eq_right (by omega)] at k1
    exact k1
  · have : K * (2 * s) = n := by omega
    rw [this]
    exact ⟨Nat.le_refl _, by omega, fun i j hi hij hj => by omega⟩
theorem All.fin {l0 l : List α} {s n : Nat} (h : All lt l0 l s n) (hs : ¬ s < n) : Srt lt l ∧ Stb lt l0 l := by
  refine ⟨?_, h.stb⟩
  rcases Nat.lt_or_ge 0 n with hlt | hge
  · have k := h.blk 0 (by omega)
    rw [Nat.zero_add, Nat.zero_mul, Nat.one_mul, Nat.min_eq_right (by omega)] at k
    have : SrtAt lt ([] ++ l ++ []) 0 n := by simpa using k
    exact this.srt rfl (by simp; exact h.len.symm)
  · have : l = [] := List.eq_nil_of_length_eq_zero (by have := h.len; omega)
    rw [this]; exact List.Pairwise.nil
end
end Go.Proofs.Ytdgmbopdommnhaa.P
