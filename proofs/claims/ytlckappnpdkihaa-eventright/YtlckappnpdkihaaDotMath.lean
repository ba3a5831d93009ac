/- The plain mathematics of layer 6 (dotset): dots in order, sets of them, the one right way to write a set. -/
namespace Go.Proofs.Ytlckappnpdkihaa.D
set_option linter.unusedVariables false
set_option linter.unusedSimpArgs false

abbrev Dot := Int × Int
def may (d : Dot) : Bool := decide (0 ≤ d.1 ∧ d.1 < 8 ∧ 1 ≤ d.2 ∧ d.2 ≤ 96)
def bef (a b : Dot) : Bool := decide (a.1 < b.1 ∨ a.1 = b.1 ∧ a.2 < b.2)
theorem may_iff {d : Dot} : may d = true ↔ 0 ≤ d.1 ∧ d.1 < 8 ∧ 1 ≤ d.2 ∧ d.2 ≤ 96 := by simp [may]
theorem bef_iff {a b : Dot} : bef a b = true ↔ a.1 < b.1 ∨ a.1 = b.1 ∧ a.2 < b.2 := by simp [bef]

/-! ### right sets -/
/-- The dot at i of More, and the one ahead of it, are as they should be. -/
def ok1 (U : Nat → Int) (M : List Dot) (i : Nat) : Bool :=
  may (M.getD i (0, 0)) && decide (U (M.getD i (0, 0)).1.toNat + 1 < (M.getD i (0, 0)).2) && (decide (i = 0) || bef (M.getD (i - 1) (0, 0)) (M.getD i (0, 0)))
def upok (U : Nat → Int) (k : Nat) : Bool := decide (0 ≤ U k ∧ U k ≤ 96)
def rt (U : Nat → Int) (M : List Dot) : Bool := (List.range 8).all (upok U) && (List.range M.length).all (ok1 U M)

theorem rt_iff {U : Nat → Int} {M : List Dot} : rt U M = true ↔ (∀ k, k < 8 → 0 ≤ U k ∧ U k ≤ 96) ∧ ∀ i, i < M.length → ok1 U M i = true := by
  simp [rt, upok]
theorem rt_up {U : Nat → Int} {M : List Dot} {k : Nat} (hk : k < 8) (h : ¬ (0 ≤ U k ∧ U k ≤ 96)) : rt U M = false := by
  cases e : rt U M with
  | false => rfl
  | true => exact absurd ((rt_iff.1 e).1 k hk) h
theorem rt_more {U : Nat → Int} {M : List Dot} {i : Nat} (hi : i < M.length) (h : ok1 U M i = false) : rt U M = false := by
  cases e : rt U M with
  | false => rfl
  | true => rw [(rt_iff.1 e).2 i hi] at h; cases h
theorem rt_yes {U : Nat → Int} {M : List Dot} (h1 : ∀ k, k < 8 → 0 ≤ U k ∧ U k ≤ 96) (h2 : ∀ i, i < M.length → ok1 U M i = true) : rt U M = true := rt_iff.2 ⟨h1, h2⟩

/-- A dot's place among all. -/
def key (d : Dot) : Int := d.1 * 96 + d.2 - 1
theorem key_bef {a b : Dot} (ha : may a = true) (hb : may b = true) (h : bef a b = true) : key a < key b := by
  rw [may_iff] at ha hb; rw [bef_iff] at h; unfold key; omega
theorem key_may {a : Dot} (ha : may a = true) : 0 ≤ key a ∧ key a < 768 := by rw [may_iff] at ha; unfold key; omega
theorem key_inj {a b : Dot} (ha : may a = true) (hb : may b = true) (h : key a = key b) : a = b := by
  rw [may_iff] at ha hb; unfold key at h
  obtain ⟨a1, a2⟩ := a; obtain ⟨b1, b2⟩ := b
  simp at *; omega

theorem ok1_parts {U : Nat → Int} {M : List Dot} {i : Nat} (hi : i < M.length) (h : ok1 U M i = true) :
    may M[i] = true ∧ U M[i].1.toNat + 1 < M[i].2 ∧ (0 < i → bef (M.getD (i - 1) (0, 0)) M[i] = true) := by
  unfold ok1 at h
  simp only [List.getD_eq_getElem?_getD, List.getElem?_eq_getElem hi, Option.getD_some, Bool.and_eq_true, Bool.or_eq_true, decide_eq_true_eq] at h
  refine ⟨h.1.1, h.1.2, fun h0 => ?_⟩
  rcases h.2 with h2 | h2
  · omega
  · simpa [List.getD_eq_getElem?_getD] using h2

theorem rt_key {U : Nat → Int} {M : List Dot} (h : rt U M = true) : ∀ i (hi : i < M.length), (i : Int) ≤ key M[i] := by
  have h2 := (rt_iff.1 h).2
  intro i
  induction i with
  | zero => intro hi; have := (key_may (ok1_parts hi (h2 0 hi)).1).1; omega
  | succ i ih =>
    intro hi
    have h3 := ok1_parts hi (h2 _ hi)
    have h4 := ok1_parts (Nat.lt_of_succ_lt hi) (h2 i (by omega))
    have h5 := h3.2.2 (by omega)
    rw [Nat.add_sub_cancel, List.getD_eq_getElem?_getD, List.getElem?_eq_getElem (by omega), Option.getD_some] at h5
    have := key_bef h4.1 h3.1 h5
    have := ih (by omega)
    omega
theorem rt_len {U : Nat → Int} {M : List Dot} (h : rt U M = true) : M.length ≤ 768 := by
  rcases Nat.lt_or_ge 768 M.length with h1 | h1
  · have := rt_key h 768 h1
    have := (key_may (ok1_parts h1 ((rt_iff.1 h).2 768 h1)).1).2
    omega
  · exact h1
theorem rt_may {U : Nat → Int} {M : List Dot} (h : rt U M = true) {d : Dot} (hd : d ∈ M) : may d = true ∧ U d.1.toNat + 1 < d.2 := by
  obtain ⟨i, hi, rfl⟩ := List.mem_iff_getElem.1 hd
  have := ok1_parts hi ((rt_iff.1 h).2 i hi)
  exact ⟨this.1, this.2.1⟩

/-- Strictly in order. -/
def Ord (l : List Dot) : Prop := l.Pairwise fun a b => key a < key b
theorem rt_ord {U : Nat → Int} {M : List Dot} (h : rt U M = true) : Ord M := by
  have h2 := (rt_iff.1 h).2
  have step : ∀ i (hi : i + 1 < M.length), key M[i] < key M[i + 1] := fun i hi => by
    have h3 := ok1_parts hi (h2 _ hi)
    have h4 := ok1_parts (Nat.lt_of_succ_lt hi) (h2 i (by omega))
    have h5 := h3.2.2 (by omega)
    rw [Nat.add_sub_cancel, List.getD_eq_getElem?_getD, List.getElem?_eq_getElem (by omega), Option.getD_some] at h5
    exact key_bef h4.1 h3.1 h5
  refine List.pairwise_iff_getElem.2 fun i j hi hj hij => ?_
  obtain ⟨k, rfl⟩ : ∃ k, j = i + 1 + k := ⟨j - (i + 1), by omega⟩
  clear hij
  induction k with
  | zero => exact step i hj
  | succ k ih => exact Int.lt_trans (ih (by omega)) (step (i + 1 + k) hj)
theorem ord_eq : ∀ {l m : List Dot}, Ord l → Ord m → (∀ d, d ∈ l ↔ d ∈ m) → l = m := by
  intro l
  induction l with
  | nil =>
    intro m _ _ h
    cases m with
    | nil => rfl
    | cons b m => exact absurd ((h b).2 (by simp)) (by simp)
  | cons a l ih =>
    intro m hl hm h
    cases m with
    | nil => exact absurd ((h a).1 (by simp)) (by simp)
    | cons b m =>
      have hl' := List.pairwise_cons.1 hl
      have hm' := List.pairwise_cons.1 hm
      have hab : a = b := by
        rcases List.mem_cons.1 ((h a).1 (by simp)) with e | e
        · exact e
        · rcases List.mem_cons.1 ((h b).2 (by simp)) with e' | e'
          · exact e'.symm
          · have := hm'.1 a e; have := hl'.1 b e'; omega
      subst hab
      congr 1
      refine ih hl'.2 hm'.2 fun d => ⟨fun hd => ?_, fun hd => ?_⟩
      · rcases List.mem_cons.1 ((h d).1 (List.mem_cons_of_mem _ hd)) with e | e
        · subst e; have := hl'.1 d hd; omega
        · exact e
      · rcases List.mem_cons.1 ((h d).2 (List.mem_cons_of_mem _ hd)) with e | e
        · subst e; have := hm'.1 d hd; omega
        · exact e

/-! ### what is in a set -/
def has (U : Nat → Int) (M : List Dot) (d : Dot) : Bool := may d && rt U M && (decide (d.2 ≤ U d.1.toNat) || M.contains d)
theorem has_no {U : Nat → Int} {M : List Dot} {d : Dot} (h : may d = false ∨ rt U M = false) : has U M d = false := by
  rcases h with h | h <;> simp [has, h]
theorem has_yes {U : Nat → Int} {M : List Dot} {d : Dot} (h1 : may d = true) (h2 : rt U M = true) : has U M d = (decide (d.2 ≤ U d.1.toNat) || M.contains d) := by simp [has, h1, h2]
theorem has_may {U : Nat → Int} {M : List Dot} {d : Dot} (h : has U M d = true) : may d = true := by
  cases e : may d with
  | true => rfl
  | false => simp [has, e] at h

/-! ### all dots in order -/
def dt (k : Nat) : Dot := (((k / 96 : Nat) : Int), ((k % 96 : Nat) : Int) + 1)
theorem dt_at (n i : Nat) (hi : i < 96) : dt (n * 96 + i) = ((n : Int), (i : Int) + 1) := by
  unfold dt
  have h1 : (n * 96 + i) / 96 = n := by omega
  have h2 : (n * 96 + i) % 96 = i := by omega
  rw [h1, h2]
theorem dt_key (k : Nat) : key (dt k) = k := by unfold key dt; simp; omega
theorem dt_may {k : Nat} (hk : k < 768) : may (dt k) = true := by rw [may_iff]; unfold dt; simp; omega
def pre (S : Dot → Bool) (k : Nat) : List Dot := ((List.range k).map dt).filter S
theorem pre_zero (S : Dot → Bool) : pre S 0 = [] := rfl
theorem pre_yes {S : Dot → Bool} {k : Nat} (h : S (dt k) = true) : pre S (k + 1) = pre S k ++ [dt k] := by simp [pre, List.range_succ, h]
theorem pre_no {S : Dot → Bool} {k : Nat} (h : S (dt k) = false) : pre S (k + 1) = pre S k := by simp [pre, List.range_succ, h]
theorem pre_len (S : Dot → Bool) (k : Nat) : (pre S k).length ≤ k := by
  have := List.length_filter_le S ((List.range k).map dt); simpa [pre] using this
theorem mem_pre {S : Dot → Bool} {k : Nat} (hk : k ≤ 768) {d : Dot} : d ∈ pre S k ↔ may d = true ∧ key d < k ∧ S d = true := by
  simp only [pre, List.mem_filter, List.mem_map, List.mem_range]
  constructor
  · rintro ⟨⟨j, hj, rfl⟩, h⟩
    exact ⟨dt_may (by omega), by rw [dt_key]; omega, h⟩
  · rintro ⟨h1, h2, h3⟩
    have := key_may h1
    refine ⟨⟨(key d).toNat, by omega, key_inj (dt_may (by omega)) h1 (by rw [dt_key]; omega)⟩, h3⟩
theorem pre_ord (S : Dot → Bool) (k : Nat) : Ord (pre S k) := by
  unfold Ord pre
  refine List.Pairwise.filter _ ?_
  rw [List.pairwise_map]
  refine (List.pairwise_lt_range (n := k)).imp ?_
  intro a b h
  rw [dt_key, dt_key]; omega
theorem pre_congr {S T : Dot → Bool} {k : Nat} (hk : k ≤ 768) (h : ∀ d, may d = true → S d = T d) : pre S k = pre T k := by
  unfold pre
  refine List.filter_congr fun d hd => ?_
  obtain ⟨j, hj, rfl⟩ := List.mem_map.1 hd
  exact h _ (dt_may (by have := List.mem_range.1 hj; omega))
def lst (S : Dot → Bool) : List Dot := pre S 768
theorem mem_lst {S : Dot → Bool} {d : Dot} : d ∈ lst S ↔ may d = true ∧ S d = true := by
  unfold lst
  rw [mem_pre (Nat.le_refl _)]
  constructor
  · exact fun h => ⟨h.1, h.2.2⟩
  · exact fun h => ⟨h.1, by have := key_may h.1; omega, h.2⟩
theorem lst_congr {S T : Dot → Bool} (h : ∀ d, may d = true → S d = T d) : lst S = lst T := pre_congr (Nat.le_refl _) h
theorem lst_len (S : Dot → Bool) : (lst S).length ≤ 768 := pre_len S 768

/-! ### the right set of what is in it -/
/-- How many of a node's first dots are there. -/
def run (S : Dot → Bool) (n : Nat) : Nat → Nat
  | 0 => 0
  | k + 1 => if run S n k = k ∧ S ((n : Int), (k : Int) + 1) = true then k + 1 else run S n k
def gap (S : Dot → Bool) (n : Nat) : Nat := run S n 96
theorem run_le (S : Dot → Bool) (n k : Nat) : run S n k ≤ k := by
  induction k with
  | zero => exact Nat.le_refl _
  | succ k ih => rw [run]; split <;> omega
theorem run_all (S : Dot → Bool) (n k : Nat) : ∀ j, j < run S n k → S ((n : Int), (j : Int) + 1) = true := by
  induction k with
  | zero => intro j hj; simp [run] at hj
  | succ k ih =>
    intro j hj
    rw [run] at hj
    split at hj
    · next h =>
      rcases Nat.lt_or_ge j k with h1 | h1
      · exact ih j (by omega)
      · obtain rfl : j = k := by omega
        exact h.2
    · exact ih j hj
theorem run_stop (S : Dot → Bool) (n k : Nat) (h : run S n k < k) : S ((n : Int), (run S n k : Int) + 1) = false := by
  induction k with
  | zero => omega
  | succ k ih =>
    rw [run] at h ⊢
    split at h
    · omega
    · next h1 =>
      rw [if_neg h1]
      have := run_le S n k
      rcases Nat.lt_or_ge (run S n k) k with h2 | h2
      · exact ih h2
      · have e : run S n k = k := by omega
        rw [e]
        cases hs : S ((n : Int), (k : Int) + 1) with
        | false => rfl
        | true => exact absurd ⟨e, hs⟩ h1
theorem gap_le (S : Dot → Bool) (n : Nat) : gap S n ≤ 96 := run_le S n 96
theorem gap_all {S : Dot → Bool} {n j : Nat} (h : j < gap S n) : S ((n : Int), (j : Int) + 1) = true := run_all S n 96 j h
theorem gap_stop {S : Dot → Bool} {n : Nat} (h : gap S n < 96) : S ((n : Int), (gap S n : Int) + 1) = false := run_stop S n 96 h
theorem gap_is {S : Dot → Bool} {n m : Nat} (hm : m ≤ 96) (h1 : ∀ j, j < m → S ((n : Int), (j : Int) + 1) = true) (h2 : m < 96 → S ((n : Int), (m : Int) + 1) = false) : gap S n = m := by
  have := gap_le S n
  rcases Nat.lt_trichotomy (gap S n) m with h | h | h
  · have := gap_stop (S := S) (n := n) (by omega); rw [h1 _ h] at this; cases this
  · exact h
  · have := gap_all h; rw [h2 (by omega)] at this; cases this
theorem gap_congr {S T : Dot → Bool} {n : Nat} (hn : n < 8) (h : ∀ d, may d = true → S d = T d) : gap S n = gap T n := by
  have := gap_le T n
  refine gap_is this (fun j hj => ?_) fun hj => ?_
  · rw [h _ (by rw [may_iff]; simp; omega)]; exact gap_all hj
  · rw [h _ (by rw [may_iff]; simp; omega)]; exact gap_stop hj

def cU (S : Dot → Bool) (n : Nat) : Int := gap S n
/-- Is a dot beyond the gap? -/
def far (S : Dot → Bool) (d : Dot) : Bool := decide ((gap S d.1.toNat : Int) < d.2)
def cM (S : Dot → Bool) : List Dot := (lst S).filter (far S)
theorem cM_len (S : Dot → Bool) : (cM S).length ≤ 768 := Nat.le_trans (List.length_filter_le _ _) (lst_len S)
theorem cU_congr {S T : Dot → Bool} {n : Nat} (hn : n < 8) (h : ∀ d, may d = true → S d = T d) : cU S n = cU T n := by unfold cU; rw [gap_congr hn h]
theorem cM_congr {S T : Dot → Bool} (h : ∀ d, may d = true → S d = T d) : cM S = cM T := by
  unfold cM
  rw [lst_congr h]
  refine List.filter_congr fun d hd => ?_
  have := may_iff.1 (mem_lst.1 hd).1
  unfold far
  rw [gap_congr (by omega) h]
theorem mem_cM {S : Dot → Bool} {d : Dot} : d ∈ cM S ↔ may d = true ∧ S d = true ∧ (gap S d.1.toNat : Int) < d.2 := by
  simp [cM, mem_lst, far, and_assoc]
theorem cM_ord (S : Dot → Bool) : Ord (cM S) := List.Pairwise.filter _ (pre_ord S 768)
theorem ord_rt {U : Nat → Int} {M : List Dot} (h1 : ∀ k, k < 8 → 0 ≤ U k ∧ U k ≤ 96) (h2 : Ord M) (h3 : ∀ d ∈ M, may d = true ∧ U d.1.toNat + 1 < d.2) : rt U M = true := by
  refine rt_yes h1 fun i hi => ?_
  have h4 := h3 M[i] (List.getElem_mem hi)
  unfold ok1
  simp only [List.getD_eq_getElem?_getD, List.getElem?_eq_getElem hi, Option.getD_some, h4.1, Bool.true_and, Bool.and_eq_true, Bool.or_eq_true, decide_eq_true_eq]
  refine ⟨h4.2, ?_⟩
  rcases Nat.eq_zero_or_pos i with h0 | h0
  · exact .inl h0
  · right
    rw [List.getElem?_eq_getElem (by omega), Option.getD_some]
    have h5 := List.pairwise_iff_getElem.1 h2 (i - 1) i (by omega) hi (by omega)
    have h6 := h3 M[i - 1] (List.getElem_mem (by omega))
    have a := may_iff.1 h4.1
    have b := may_iff.1 h6.1
    rw [bef_iff]
    unfold key at h5
    omega
theorem cl_rt (S : Dot → Bool) : rt (cU S) (cM S) = true := by
  refine ord_rt (fun k hk => ?_) (cM_ord S) fun d hd => ?_
  · have := gap_le S k; unfold cU; omega
  · obtain ⟨h1, h2, h3⟩ := mem_cM.1 hd
    refine ⟨h1, ?_⟩
    have h4 := may_iff.1 h1
    have := gap_le S d.1.toNat
    unfold cU
    rcases Int.lt_or_eq_of_le (show (gap S d.1.toNat : Int) + 1 ≤ d.2 by omega) with h5 | h5
    · exact h5
    · have h6 := gap_stop (S := S) (n := d.1.toNat) (by omega)
      have e : (((d.1.toNat : Nat) : Int), (gap S d.1.toNat : Int) + 1) = d := by
        obtain ⟨a, b⟩ := d; simp at *; omega
      rw [e, h2] at h6; cases h6
theorem cl_has (S : Dot → Bool) (d : Dot) : has (cU S) (cM S) d = (may d && S d) := by
  cases hm : may d with
  | false => simp [has, hm]
  | true =>
    rw [has_yes hm (cl_rt S)]
    have h4 := may_iff.1 hm
    have hg := gap_le S d.1.toNat
    by_cases h : d.2 ≤ (gap S d.1.toNat : Int)
    · have h5 := gap_all (S := S) (n := d.1.toNat) (j := (d.2 - 1).toNat) (by omega)
      have e : (((d.1.toNat : Nat) : Int), (((d.2 - 1).toNat : Nat) : Int) + 1) = d := by
        obtain ⟨a, b⟩ := d; simp at *; omega
      rw [e] at h5
      simp [cU, h, h5]
    · cases hs : S d with
      | true =>
        have : d ∈ cM S := mem_cM.2 ⟨hm, hs, by omega⟩
        simp [this]
      | false =>
        have h6 : ¬ d ∈ cM S := fun hd => by have := (mem_cM.1 hd).2.1; rw [hs] at this; cases this
        simp [cU, h, h6]
/-- A right set is the one of what is in it. -/
theorem rt_cl {U : Nat → Int} {M : List Dot} (h : rt U M = true) : (∀ k, k < 8 → cU (has U M) k = U k) ∧ cM (has U M) = M := by
  have h1 := (rt_iff.1 h).1
  have hin : ∀ k, k < 8 → gap (has U M) k = (U k).toNat := fun k hk => by
    have := h1 k hk
    refine gap_is (by omega) (fun j hj => ?_) fun hj => ?_
    · rw [has_yes (by rw [may_iff]; simp; omega) h]
      simp; left; omega
    · cases e : has U M ((k : Int), ((U k).toNat : Int) + 1) with
      | false => rfl
      | true =>
        rw [has_yes (by rw [may_iff]; simp; omega) h] at e
        simp at e
        rcases e with e | e
        · omega
        · have := (rt_may h e).2; simp at this; omega
  refine ⟨fun k hk => by have := h1 k hk; unfold cU; rw [hin k hk]; omega, ord_eq (cM_ord _) (rt_ord h) fun d => ?_⟩
  rw [mem_cM]
  constructor
  · rintro ⟨h2, h3, h4⟩
    have h5 := may_iff.1 h2
    rw [hin _ (by omega)] at h4
    rw [has_yes h2 h] at h3
    simp at h3
    rcases h3 with h3 | h3
    · have := h1 d.1.toNat (by omega); omega
    · exact h3
  · intro hd
    obtain ⟨h2, h3⟩ := rt_may h hd
    have h5 := may_iff.1 h2
    refine ⟨h2, by rw [has_yes h2 h]; simp [hd], ?_⟩
    rw [hin _ (by omega)]
    have := h1 d.1.toNat (by omega); omega
end Go.Proofs.Ytlckappnpdkihaa.D
