/- The plain mathematics of layer 2 (vint): a number's bytes, and the number that bytes are. | The plain mathematics of layer 6 (dotset): dots in order, sets of them, the one right way to write a set. | The plain mathematics of layer 6: a set's bytes. | More of layer 6's mathematics: how many; with one dot more. -/

section
namespace Go.Proofs.Ytfllebfegngdhaa.V

/-- A number's bytes. -/
def enc (n : Int) : List Int := if 128 ≤ n then (n % 128 + 128) :: enc (n / 128) else [n]
termination_by n.toNat
decreasing_by omega

theorem enc_big {n : Int} (h : 128 ≤ n) : enc n = (n % 128 + 128) :: enc (n / 128) := by rw [enc, if_pos h]
theorem enc_small {n : Int} (h : ¬ 128 ≤ n) : enc n = [n] := by rw [enc, if_neg h]

theorem enc_pos (n : Int) : 0 < (enc n).length := by rw [enc]; split <;> simp
theorem enc_len (k : Nat) : ∀ n : Int, n < 128 ^ (k + 1) → (enc n).length ≤ k + 1 := by
  induction k with
  | zero => intro n h; rw [enc_small (by simp at h; omega)]; simp
  | succ k ih =>
    intro n h
    by_cases hb : 128 ≤ n
    · rw [enc_big hb]
      have : n / 128 < 128 ^ (k + 1) := by
        have e : (128 : Int) ^ (k + 1 + 1) = 128 ^ (k + 1) * 128 := Int.pow_succ 128 (k + 1)
        omega
      have := ih _ this
      simp; omega
    · rw [enc_small hb]; simp
theorem enc_len6 {n : Int} (h : n ≤ 1099511627776) : (enc n).length ≤ 6 := enc_len 5 n (by simp; omega)
theorem enc_byt (k : Nat) : ∀ n : Int, 0 ≤ n → n < 128 ^ (k + 1) → ∀ b ∈ enc n, 0 ≤ b ∧ b < 256 := by
  induction k with
  | zero =>
    intro n h0 h b hb
    simp at h
    rw [enc_small (by omega)] at hb
    simp at hb; omega
  | succ k ih =>
    intro n h0 h b hb
    by_cases hn : 128 ≤ n
    · rw [enc_big hn] at hb
      have : n / 128 < 128 ^ (k + 1) := by
        have e : (128 : Int) ^ (k + 1 + 1) = 128 ^ (k + 1) * 128 := Int.pow_succ 128 (k + 1)
        omega
      rcases List.mem_cons.1 hb with rfl | hb
      · omega
      · exact ih _ (by omega) this b hb
    · rw [enc_small hn] at hb
      simp at hb; omega
theorem enc_byt6 {n : Int} (h0 : 0 ≤ n) (h : n ≤ 1099511627776) : ∀ b ∈ enc n, 0 ≤ b ∧ b < 256 := enc_byt 5 n h0 (by simp; omega)

/-- What a reader makes of bytes: the number, how many bytes it is, the error. (k: how many bytes it may still have; i: how many it has; n: what they come to.) -/
def num : Nat → List Int → Nat → Int → Int × Nat × Int
  | 0, _, _, _ => (0, 0, 4)
  | _ + 1, [], _, _ => (0, 0, 3)
  | k + 1, c :: t, i, n =>
    if c < 128 then (if 1099511627776 < n + c % 128 * 128 ^ i ∨ c = 0 ∧ 0 < i then (0, 0, 4) else (n + c % 128 * 128 ^ i, i + 1, 0))
    else num k t (i + 1) (n + c % 128 * 128 ^ i)
def int (l : List Int) : Int × Nat × Int := num 6 l 0 0

theorem num_nil (k i : Nat) (n : Int) (l : List Int) (h : l.length ≤ i) : num (k + 1) (l.drop i) i n = (0, 0, 3) := by
  rw [List.drop_eq_nil_of_le h]; rfl
theorem num_at {k i : Nat} {n : Int} {l : List Int} (h : i < l.length) : num (k + 1) (l.drop i) i n =
    if l[i] < 128 then (if 1099511627776 < n + l[i] % 128 * 128 ^ i ∨ l[i] = 0 ∧ 0 < i then (0, 0, 4) else (n + l[i] % 128 * 128 ^ i, i + 1, 0))
    else num k (l.drop (i + 1)) (i + 1) (n + l[i] % 128 * 128 ^ i) := by
  rw [List.drop_eq_getElem_cons h]; rfl

/-! What a round of the reading loop comes to (ch: the byte at i). -/
theorem st_more {l : List Int} {i : Nat} {n ch : Int} (HV : int l = num (6 - i) (l.drop i) i n) (h6 : i < 6) (hi : i < l.length) (hc : ch = l[i]) (h : 128 ≤ ch) :
    int l = num (6 - (i + 1)) (l.drop (i + 1)) (i + 1) (n + ch % 128 * 128 ^ i) := by
  subst hc
  rw [HV, show 6 - i = (6 - (i + 1)) + 1 by omega, num_at hi, if_neg (by omega)]
theorem st_bad {l : List Int} {i : Nat} {n ch : Int} (HV : int l = num (6 - i) (l.drop i) i n) (h6 : i < 6) (hi : i < l.length) (hc : ch = l[i]) (h : ch < 128)
    (hb : 1099511627776 < n + ch % 128 * 128 ^ i ∨ ch = 0 ∧ 0 < i) : int l = (0, 0, 4) := by
  subst hc
  rw [HV, show 6 - i = (6 - (i + 1)) + 1 by omega, num_at hi, if_pos h, if_pos hb]
theorem st_good {l : List Int} {i : Nat} {n ch : Int} (HV : int l = num (6 - i) (l.drop i) i n) (h6 : i < 6) (hi : i < l.length) (hc : ch = l[i]) (h : ch < 128)
    (hb : ¬ (1099511627776 < n + ch % 128 * 128 ^ i ∨ ch = 0 ∧ 0 < i)) : int l = (n + ch % 128 * 128 ^ i, i + 1, 0) := by
  subst hc
  rw [HV, show 6 - i = (6 - (i + 1)) + 1 by omega, num_at hi, if_pos h, if_neg hb]
theorem st_short {l : List Int} {i : Nat} {n : Int} (HV : int l = num (6 - i) (l.drop i) i n) (h6 : i < 6) (hi : l.length ≤ i) : int l = (0, 0, 3) := by
  rw [HV, show 6 - i = (6 - (i + 1)) + 1 by omega, num_nil _ _ _ _ hi]
theorem st_long {l : List Int} {n : Int} {i : Nat} (HV : int l = num (6 - i) (l.drop i) i n) (h6 : 6 ≤ i) : int l = (0, 0, 4) := by
  rw [HV, show 6 - i = 0 by omega]; rfl
theorem st_pow {i : Nat} : (2 : Int) ^ (7 * i) = 128 ^ i := by rw [Int.pow_mul]; rfl
theorem st_bound {i : Nat} {n ch : Int} (hn : n < 128 ^ i) : n + ch % 128 * 128 ^ i < 128 ^ (i + 1) := by
  have h1 : (0 : Int) < 128 ^ i := Int.pow_pos (by decide)
  have h2 : (128 : Int) ^ (i + 1) = 128 * 128 ^ i := by rw [Int.pow_succ, Int.mul_comm]
  have h3 : ch % 128 * 128 ^ i ≤ 127 * 128 ^ i := Int.mul_le_mul_of_nonneg_right (by omega) (by omega)
  rw [h2]; omega
theorem st_q0 {i : Nat} {ch : Int} : 0 ≤ ch % 128 * 128 ^ i := Int.mul_nonneg (by omega) (Int.le_of_lt (Int.pow_pos (by decide)))
theorem pow_le6 {i : Nat} {n : Int} (hi : i ≤ 6) (h : n < 128 ^ i) : n < 4398046511104 := by
  rcases i with _ | _ | _ | _ | _ | _ | _ | i
  all_goals first | omega | (simp at h; omega)

theorem p128 (i : Nat) : (0 : Int) < 128 ^ i := Int.pow_pos (by decide)

theorem num_size (k : Nat) : ∀ (l : List Int) (i : Nat) (n : Int), (num k l i n).2.1 ≤ i + l.length ∧ ((num k l i n).2.2 = 0 → i < (num k l i n).2.1) ∧ ((num k l i n).2.2 ≠ 0 → (num k l i n).1 = 0 ∧ (num k l i n).2.1 = 0) ∧
    ((num k l i n).2.2 = 0 ∨ (num k l i n).2.2 = 3 ∨ (num k l i n).2.2 = 4) := by
  induction k with
  | zero => intro l i n; simp [num]
  | succ k ih =>
    intro l i n
    cases l with
    | nil => simp [num]
    | cons c t =>
      rw [num]
      split
      · split
        · simp
        · simp
      · have := ih t (i + 1) (n + c % 128 * 128 ^ i)
        refine ⟨by have := this.1; simp; omega, fun h => by have := this.2.1 h; omega, this.2.2.1, this.2.2.2⟩
theorem int_size (l : List Int) : (int l).2.1 ≤ l.length := by have := (num_size 6 l 0 0).1; unfold int; omega
theorem int_pos (l : List Int) (h : (int l).2.2 = 0) : 0 < (int l).2.1 := by have := (num_size 6 l 0 0).2.1; unfold int at *; have := this h; omega
theorem int_bad (l : List Int) (h : (int l).2.2 ≠ 0) : (int l).1 = 0 ∧ (int l).2.1 = 0 := (num_size 6 l 0 0).2.2.1 h
theorem int_err (l : List Int) : (int l).2.2 = 0 ∨ (int l).2.2 = 3 ∨ (int l).2.2 = 4 := (num_size 6 l 0 0).2.2.2

theorem num_enc (k : Nat) : ∀ (m : Int) (r : List Int) (i : Nat) (n : Int), 0 ≤ m → (enc m).length ≤ k → n + m * 128 ^ i ≤ 1099511627776 → (m = 0 → i = 0) →
    num k (enc m ++ r) i n = (n + m * 128 ^ i, i + (enc m).length, 0) := by
  induction k with
  | zero => intro m r i n _ h; have := enc_pos m; omega
  | succ k ih =>
    intro m r i n h0 hl ht hz
    by_cases hb : 128 ≤ m
    · rw [enc_big hb] at hl ⊢
      have e1 : (m % 128 + 128) % 128 = m % 128 := by omega
      have e2 : n + m % 128 * 128 ^ i + m / 128 * 128 ^ (i + 1) = n + m * 128 ^ i := by
        have : (128 : Int) ^ (i + 1) = 128 ^ i * 128 := Int.pow_succ 128 i
        rw [this]
        have h3 : m = m / 128 * 128 + m % 128 := by omega
        have h4 : m / 128 * ((128 : Int) ^ i * 128) = m / 128 * 128 * 128 ^ i := by rw [Int.mul_comm ((128 : Int) ^ i) 128, ← Int.mul_assoc]
        rw [h4]
        have h5 : m * (128 : Int) ^ i = m / 128 * 128 * 128 ^ i + m % 128 * 128 ^ i := by rw [← Int.add_mul]; congr 1
        omega
      rw [List.cons_append, num, if_neg (by omega), e1, ih (m / 128) r (i + 1) _ (by omega) (by simp at hl; omega) (by omega) (by omega), e2]
      simp; omega
    · rw [enc_small hb]
      have e1 : m % 128 = m := by omega
      rw [List.cons_append, num, if_pos (by omega), e1, if_neg (by
        rintro (h | ⟨h1, h2⟩)
        · omega
        · have := hz h1; omega)]
      simp
/-- What was put is read, whatever stands behind it. -/
theorem int_enc {m : Int} (h0 : 0 ≤ m) (h1 : m ≤ 1099511627776) (r : List Int) : int (enc m ++ r) = (m, (enc m).length, 0) := by
  have := num_enc 6 m r 0 0 h0 (enc_len6 h1) (by simp; omega) (fun _ => rfl)
  unfold int
  rw [this]; simp

theorem num_back (k : Nat) : ∀ (l : List Int) (i : Nat) (n : Int), (∀ b ∈ l, 0 ≤ b ∧ b < 256) → (num k l i n).2.2 = 0 →
    ∃ m r, l = enc m ++ r ∧ (num k l i n).2.1 = i + (enc m).length ∧ (num k l i n).1 = n + m * 128 ^ i ∧ 0 ≤ m ∧ (0 < i → m ≠ 0) ∧ n + m * 128 ^ i ≤ 1099511627776 := by
  induction k with
  | zero => intro l i n _ h; simp [num] at h
  | succ k ih =>
    intro l i n hb h
    cases l with
    | nil => simp [num] at h
    | cons c t =>
      have hc := hb c (by simp)
      rw [num] at h ⊢
      by_cases h1 : c < 128
      · rw [if_pos h1] at h ⊢
        by_cases h2 : 1099511627776 < n + c % 128 * 128 ^ i ∨ c = 0 ∧ 0 < i
        · rw [if_pos h2] at h; simp at h
        · rw [if_neg h2]
          have e : c % 128 = c := by omega
          rw [e] at h2 ⊢
          refine ⟨c, t, ?_, ?_, rfl, hc.1, ?_, ?_⟩
          · rw [enc_small (by omega)]; rfl
          · rw [enc_small (by omega)]; rfl
          · intro hi hz; exact h2 (.inr ⟨hz, hi⟩)
          · have := fun h => h2 (.inl h); omega
      · rw [if_neg h1] at h ⊢
        obtain ⟨m, r, rfl, h3, h4, h5, h6, h7⟩ := ih t (i + 1) _ (fun b hb' => hb b (List.mem_cons_of_mem _ hb')) h
        have hm : m ≠ 0 := h6 (by omega)
        have e0 : c % 128 = c - 128 := by omega
        have e2 : n + c % 128 * 128 ^ i + m * 128 ^ (i + 1) = n + (m * 128 + (c - 128)) * 128 ^ i := by
          have h8 : (128 : Int) ^ (i + 1) = 128 ^ i * 128 := Int.pow_succ 128 i
          rw [h8, e0, Int.add_mul, Int.mul_comm ((128 : Int) ^ i) 128, ← Int.mul_assoc]
          omega
        have e3 : enc (m * 128 + (c - 128)) = c :: enc m := by
          rw [enc_big (by omega), show (m * 128 + (c - 128)) % 128 + 128 = c by omega, show (m * 128 + (c - 128)) / 128 = m by omega]
        refine ⟨m * 128 + (c - 128), r, by rw [e3]; rfl, ?_, by rw [h4, e2], by omega, by omega, by rw [← e2]; exact h7⟩
        rw [h3, e3]; simp; omega
/-- What is read is put back as it was. -/
theorem int_back {l : List Int} (hb : ∀ b ∈ l, 0 ≤ b ∧ b < 256) (h : (int l).2.2 = 0) :
    l = enc (int l).1 ++ l.drop (int l).2.1 ∧ (int l).2.1 = (enc (int l).1).length ∧ 0 ≤ (int l).1 ∧ (int l).1 ≤ 1099511627776 := by
  obtain ⟨m, r, e, h1, h2, h3, _, h4⟩ := num_back 6 l 0 0 hb h
  have h1' : (int l).2.1 = (enc m).length := by unfold int; rw [h1]; simp
  have h2' : (int l).1 = m := by unfold int; rw [h2]; simp
  rw [h2', h1']
  refine ⟨?_, rfl, h3, by simpa using h4⟩
  conv => lhs; rw [e]
  rw [e]; simp

/-- Numbers one behind the other. -/
def encs (l : List Int) : List Int := l.flatMap enc
theorem encs_snoc (l : List Int) (n : Int) : encs (l ++ [n]) = encs l ++ enc n := by simp [encs]
theorem encs_cons (l : List Int) (n : Int) : encs (n :: l) = enc n ++ encs l := by simp [encs]
theorem encs_len (l : List Int) (h : ∀ n ∈ l, 0 ≤ n ∧ n ≤ 1099511627776) : (encs l).length ≤ 6 * l.length := by
  induction l with
  | nil => simp [encs]
  | cons n l ih =>
    rw [encs_cons, List.length_append, List.length_cons]
    have h1 := enc_len6 (h n (by simp)).2
    have h2 := ih fun m hm => h m (by simp [hm])
    omega
theorem encs_byt (l : List Int) (h : ∀ n ∈ l, 0 ≤ n ∧ n ≤ 1099511627776) : ∀ b ∈ encs l, 0 ≤ b ∧ b < 256 := by
  induction l with
  | nil => simp [encs]
  | cons n l ih =>
    intro b hb
    rw [encs_cons] at hb
    rcases List.mem_append.1 hb with h1 | h1
    · exact enc_byt6 (h n (by simp)).1 (h n (by simp)).2 b h1
    · exact ih (fun m hm => h m (by simp [hm])) b h1
theorem int_encs {n : Int} {l M : List Int} (h0 : 0 ≤ n) (h1 : n ≤ 1099511627776) :
    int (encs (n :: l) ++ M) = (n, (enc n).length, 0) ∧ (encs (n :: l) ++ M).drop (enc n).length = encs l ++ M := by
  rw [encs_cons, List.append_assoc]
  exact ⟨int_enc h0 h1 _, by simp⟩
def intS (l : List Int) (x : Int) : Int × List Int × Int := if x = 0 then ((int l).1, l.drop (int l).2.1, (int l).2.2) else (0, l, x)
end Go.Proofs.Ytfllebfegngdhaa.V
end

section
namespace Go.Proofs.Ytfllebfegngdhaa.D
set_option linter.unusedVariables false
set_option linter.unusedSimpArgs false

abbrev Dot := Int × Int
def may (d : Dot) : Bool := decide (0 ≤ d.1 ∧ d.1 < 8 ∧ 1 ≤ d.2 ∧ d.2 ≤ 96)
def bef (a b : Dot) : Bool := decide (a.1 < b.1 ∨ a.1 = b.1 ∧ a.2 < b.2)
theorem may_iff {d : Dot} : may d = true ↔ 0 ≤ d.1 ∧ d.1 < 8 ∧ 1 ≤ d.2 ∧ d.2 ≤ 96 := by simp [may]
theorem bef_iff {a b : Dot} : bef a b = true ↔ a.1 < b.1 ∨ a.1 = b.1 ∧ a.2 < b.2 := by simp [bef]

/-! ### right sets -/
/-- The dot at i of More, and the one ahead of it, are as they should be. -/
def ok1 (U : Nat → Int) (M : List Dot) (i : Nat) : Bool :=
  may (M.getD i (0, 0)) && decide (U (M.getD i (0, 0)).1.toNat + 1 < (M.getD i (0, 0)).2) && (decide (i = 0) || bef (M.getD (i - 1) (0, 0)) (M.getD i (0, 0)))
def upok (U : Nat → Int) (k : Nat) : Bool := decide (0 ≤ U k ∧ U k ≤ 96)
def rt (U : Nat → Int) (M : List Dot) : Bool := (List.range 8).all (upok U) && (List.range M.length).all (ok1 U M)

theorem rt_iff {U : Nat → Int} {M : List Dot} : rt U M = true ↔ (∀ k, k < 8 → 0 ≤ U k ∧ U k ≤ 96) ∧ ∀ i, i < M.length → ok1 U M i = true := by
  simp [rt, upok]
theorem rt_up {U : Nat → Int} {M : List Dot} {k : Nat} (hk : k < 8) (h : ¬ (0 ≤ U k ∧ U k ≤ 96)) : rt U M = false := by
  cases e : rt U M with
  | false => rfl
  | true => exact absurd ((rt_iff.1 e).1 k hk) h
theorem rt_more {U : Nat → Int} {M : List Dot} {i : Nat} (hi : i < M.length) (h : ok1 U M i = false) : rt U M = false := by
  cases e : rt U M with
  | false => rfl
  | true => rw [(rt_iff.1 e).2 i hi] at h; cases h
theorem rt_yes {U : Nat → Int} {M : List Dot} (h1 : ∀ k, k < 8 → 0 ≤ U k ∧ U k ≤ 96) (h2 : ∀ i, i < M.length → ok1 U M i = true) : rt U M = true := rt_iff.2 ⟨h1, h2⟩

/-- A dot's place among all. -/
def key (d : Dot) : Int := d.1 * 96 + d.2 - 1
theorem key_bef {a b : Dot} (ha : may a = true) (hb : may b = true) (h : bef a b = true) : key a < key b := by
  rw [may_iff] at ha hb; rw [bef_iff] at h; unfold key; omega
theorem key_may {a : Dot} (ha : may a = true) : 0 ≤ key a ∧ key a < 768 := by rw [may_iff] at ha; unfold key; omega
theorem key_inj {a b : Dot} (ha : may a = true) (hb : may b = true) (h : key a = key b) : a = b := by
  rw [may_iff] at ha hb; unfold key at h
  obtain ⟨a1, a2⟩ := a; obtain ⟨b1, b2⟩ := b
  simp at *; omega

theorem ok1_parts {U : Nat → Int} {M : List Dot} {i : Nat} (hi : i < M.length) (h : ok1 U M i = true) :
    may M[i] = true ∧ U M[i].1.toNat + 1 < M[i].2 ∧ (0 < i → bef (M.getD (i - 1) (0, 0)) M[i] = true) := by
  unfold ok1 at h
  simp only [List.getD_eq_getElem?_getD, List.getElem?_eq_getElem hi, Option.getD_some, Bool.and_eq_true, Bool.or_eq_true, decide_eq_true_eq] at h
  refine ⟨h.1.1, h.1.2, fun h0 => ?_⟩
  rcases h.2 with h2 | h2
  · omega
  · simpa [List.getD_eq_getElem?_getD] using h2

theorem rt_key {U : Nat → Int} {M : List Dot} (h : rt U M = true) : ∀ i (hi : i < M.length), (i : Int) ≤ key M[i] := by
  have h2 := (rt_iff.1 h).2
  intro i
  induction i with
  | zero => intro hi; have := (key_may (ok1_parts hi (h2 0 hi)).1).1; omega
  | succ i ih =>
    intro hi
    have h3 := ok1_parts hi (h2 _ hi)
    have h4 := ok1_parts (Nat.lt_of_succ_lt hi) (h2 i (by omega))
    have h5 := h3.2.2 (by omega)
    rw [Nat.add_sub_cancel, List.getD_eq_getElem?_getD, List.getElem?_eq_getElem (by omega), Option.getD_some] at h5
    have := key_bef h4.1 h3.1 h5
    have := ih (by omega)
    omega
theorem rt_len {U : Nat → Int} {M : List Dot} (h : rt U M = true) : M.length ≤ 768 := by
  rcases Nat.lt_or_ge 768 M.length with h1 | h1
  · have := rt_key h 768 h1
    have := (key_may (ok1_parts h1 ((rt_iff.1 h).2 768 h1)).1).2
    omega
  · exact h1
theorem rt_may {U : Nat → Int} {M : List Dot} (h : rt U M = true) {d : Dot} (hd : d ∈ M) : may d = true ∧ U d.1.toNat + 1 < d.2 := by
  obtain ⟨i, hi, rfl⟩ := List.mem_iff_getElem.1 hd
  have := ok1_parts hi ((rt_iff.1 h).2 i hi)
  exact ⟨this.1, this.2.1⟩

/-- Strictly in order. -/
def Ord (l : List Dot) : Prop := l.Pairwise fun a b => key a < key b
theorem rt_ord {U : Nat → Int} {M : List Dot} (h : rt U M = true) : Ord M := by
  have h2 := (rt_iff.1 h).2
  have step : ∀ i (hi : i + 1 < M.length), key M[i] < key M[i + 1] := fun i hi => by
    have h3 := ok1_parts hi (h2 _ hi)
    have h4 := ok1_parts (Nat.lt_of_succ_lt hi) (h2 i (by omega))
    have h5 := h3.2.2 (by omega)
    rw [Nat.add_sub_cancel, List.getD_eq_getElem?_getD, List.getElem?_eq_getElem (by omega), Option.getD_some] at h5
    exact key_bef h4.1 h3.1 h5
  refine List.pairwise_iff_getElem.2 fun i j hi hj hij => ?_
  obtain ⟨k, rfl⟩ : ∃ k, j = i + 1 + k := ⟨j - (i + 1), by omega⟩
  clear hij
  induction k with
  | zero => exact step i hj
  | succ k ih => exact Int.lt_trans (ih (by omega)) (step (i + 1 + k) hj)
theorem ord_eq : ∀ {l m : List Dot}, Ord l → Ord m → (∀ d, d ∈ l ↔ d ∈ m) → l = m := by
  intro l
  induction l with
  | nil =>
    intro m _ _ h
    cases m with
    | nil => rfl
    | cons b m => exact absurd ((h b).2 (by simp)) (by simp)
  | cons a l ih =>
    intro m hl hm h
    cases m with
    | nil => exact absurd ((h a).1 (by simp)) (by simp)
    | cons b m =>
      have hl' := List.pairwise_cons.1 hl
      have hm' := List.pairwise_cons.1 hm
      have hab : a = b := by
        rcases List.mem_cons.1 ((h a).1 (by simp)) with e | e
        · exact e
        · rcases List.mem_cons.1 ((h b).2 (by simp)) with e' | e'
          · exact e'.symm
          · have := hm'.1 a e; have := hl'.1 b e'; omega
      subst hab
      congr 1
      refine ih hl'.2 hm'.2 fun d => ⟨fun hd => ?_, fun hd => ?_⟩
      · rcases List.mem_cons.1 ((h d).1 (List.mem_cons_of_mem _ hd)) with e | e
        · subst e; have := hl'.1 d hd; omega
        · exact e
      · rcases List.mem_cons.1 ((h d).2 (List.mem_cons_of_mem _ hd)) with e | e
        · subst e; have := hm'.1 d hd; omega
        · exact e

/-! ### what is in a set -/
def has (U : Nat → Int) (M : List Dot) (d : Dot) : Bool := may d && rt U M && (decide (d.2 ≤ U d.1.toNat) || M.contains d)
theorem has_no {U : Nat → Int} {M : List Dot} {d : Dot} (h : may d = false ∨ rt U M = false) : has U M d = false := by
  rcases h with h | h <;> simp [has, h]
theorem has_yes {U : Nat → Int} {M : List Dot} {d : Dot} (h1 : may d = true) (h2 : rt U M = true) : has U M d = (decide (d.2 ≤ U d.1.toNat) || M.contains d) := by simp [has, h1, h2]
theorem has_may {U : Nat → Int} {M : List Dot} {d : Dot} (h : has U M d = true) : may d = true := by
  cases e : may d with
  | true => rfl
  | false => simp [has, e] at h

/-! ### all dots in order -/
def dt (k : Nat) : Dot := (((k / 96 : Nat) : Int), ((k % 96 : Nat) : Int) + 1)
theorem dt_at (n i : Nat) (hi : i < 96) : dt (n * 96 + i) = ((n : Int), (i : Int) + 1) := by
  unfold dt
  have h1 : (n * 96 + i) / 96 = n := by omega
  have h2 : (n * 96 + i) % 96 = i := by omega
  rw [h1, h2]
theorem dt_key (k : Nat) : key (dt k) = k := by unfold key dt; simp; omega
theorem dt_may {k : Nat} (hk : k < 768) : may (dt k) = true := by rw [may_iff]; unfold dt; simp; omega
def pre (S : Dot → Bool) (k : Nat) : List Dot := ((List.range k).map dt).filter S
theorem pre_zero (S : Dot → Bool) : pre S 0 = [] := rfl
theorem pre_yes {S : Dot → Bool} {k : Nat} (h : S (dt k) = true) : pre S (k + 1) = pre S k ++ [dt k] := by simp [pre, List.range_succ, h]
theorem pre_no {S : Dot → Bool} {k : Nat} (h : S (dt k) = false) : pre S (k + 1) = pre S k := by simp [pre, List.range_succ, h]
theorem pre_len (S : Dot → Bool) (k : Nat) : (pre S k).length ≤ k := by
  have := List.length_filter_le S ((List.range k).map dt); simpa [pre] using this
theorem mem_pre {S : Dot → Bool} {k : Nat} (hk : k ≤ 768) {d : Dot} : d ∈ pre S k ↔ may d = true ∧ key d < k ∧ S d = true := by
  simp only [pre, List.mem_filter, List.mem_map, List.mem_range]
  constructor
  · rintro ⟨⟨j, hj, rfl⟩, h⟩
    exact ⟨dt_may (by omega), by rw [dt_key]; omega, h⟩
  · rintro ⟨h1, h2, h3⟩
    have := key_may h1
    refine ⟨⟨(key d).toNat, by omega, key_inj (dt_may (by omega)) h1 (by rw [dt_key]; omega)⟩, h3⟩
theorem pre_ord (S : Dot → Bool) (k : Nat) : Ord (pre S k) := by
  unfold Ord pre
  refine List.Pairwise.filter _ ?_
  rw [List.pairwise_map]
  refine (List.pairwise_lt_range (n := k)).imp ?_
  intro a b h
  rw [dt_key, dt_key]; omega
theorem pre_congr {S T : Dot → Bool} {k : Nat} (hk : k ≤ 768) (h : ∀ d, may d = true → S d = T d) : pre S k = pre T k := by
  unfold pre
  refine List.filter_congr fun d hd => ?_
  obtain ⟨j, hj, rfl⟩ := List.mem_map.1 hd
  exact h _ (dt_may (by have := List.mem_range.1 hj; omega))
def lst (S : Dot → Bool) : List Dot := pre S 768
theorem mem_lst {S : Dot → Bool} {d : Dot} : d ∈ lst S ↔ may d = true ∧ S d = true := by
  unfold lst
  rw [mem_pre (Nat.le_refl _)]
  constructor
  · exact fun h => ⟨h.1, h.2.2⟩
  · exact fun h => ⟨h.1, by have := key_may h.1; omega, h.2⟩
theorem lst_congr {S T : Dot → Bool} (h : ∀ d, may d = true → S d = T d) : lst S = lst T := pre_congr (Nat.le_refl _) h
theorem lst_len (S : Dot → Bool) : (lst S).length ≤ 768 := pre_len S 768

/-! ### the right set of what is in it -/
/-- How many of a node's first dots are there. -/
def run (S : Dot → Bool) (n : Nat) : Nat → Nat
  | 0 => 0
  | k + 1 => if run S n k = k ∧ S ((n : Int), (k : Int) + 1) = true then k + 1 else run S n k
def gap (S : Dot → Bool) (n : Nat) : Nat := run S n 96
theorem run_le (S : Dot → Bool) (n k : Nat) : run S n k ≤ k := by
  induction k with
  | zero => exact Nat.le_refl _
  | succ k ih => rw [run]; split <;> omega
theorem run_all (S : Dot → Bool) (n k : Nat) : ∀ j, j < run S n k → S ((n : Int), (j : Int) + 1) = true := by
  induction k with
  | zero => intro j hj; simp [run] at hj
  | succ k ih =>
    intro j hj
    rw [run] at hj
    split at hj
    · next h =>
      rcases Nat.lt_or_ge j k with h1 | h1
      · exact ih j (by omega)
      · obtain rfl : j = k := by omega
        exact h.2
    · exact ih j hj
theorem run_stop (S : Dot → Bool) (n k : Nat) (h : run S n k < k) : S ((n : Int), (run S n k : Int) + 1) = false := by
  induction k with
  | zero => omega
  | succ k ih =>
    rw [run] at h ⊢
    split at h
    · omega
    · next h1 =>
      rw [if_neg h1]
      have := run_le S n k
      rcases Nat.lt_or_ge (run S n k) k with h2 | h2
      · exact ih h2
      · have e : run S n k = k := by omega
        rw [e]
        cases hs : S ((n : Int), (k : Int) + 1) with
        | false => rfl
        | true => exact absurd ⟨e, hs⟩ h1
theorem gap_le (S : Dot → Bool) (n : Nat) : gap S n ≤ 96 := run_le S n 96
theorem gap_all {S : Dot → Bool} {n j : Nat} (h : j < gap S n) : S ((n : Int), (j : Int) + 1) = true := run_all S n 96 j h
theorem gap_stop {S : Dot → Bool} {n : Nat} (h : gap S n < 96) : S ((n : Int), (gap S n : Int) + 1) = false := run_stop S n 96 h
theorem gap_is {S : Dot → Bool} {n m : Nat} (hm : m ≤ 96) (h1 : ∀ j, j < m → S ((n : Int), (j : Int) + 1) = true) (h2 : m < 96 → S ((n : Int), (m : Int) + 1) = false) : gap S n = m := by
  have := gap_le S n
  rcases Nat.lt_trichotomy (gap S n) m with h | h | h
  · have := gap_stop (S := S) (n := n) (by omega); rw [h1 _ h] at this; cases this
  · exact h
  · have := gap_all h; rw [h2 (by omega)] at this; cases this
theorem gap_congr {S T : Dot → Bool} {n : Nat} (hn : n < 8) (h : ∀ d, may d = true → S d = T d) : gap S n = gap T n := by
  have := gap_le T n
  refine gap_is this (fun j hj => ?_) fun hj => ?_
  · rw [h _ (by rw [may_iff]; simp; omega)]; exact gap_all hj
  · rw [h _ (by rw [may_iff]; simp; omega)]; exact gap_stop hj

def cU (S : Dot → Bool) (n : Nat) : Int := gap S n
/-- Is a dot beyond the gap? -/
def far (S : Dot → Bool) (d : Dot) : Bool := decide ((gap S d.1.toNat : Int) < d.2)
def cM (S : Dot → Bool) : List Dot := (lst S).filter (far S)
theorem cM_len (S : Dot → Bool) : (cM S).length ≤ 768 := Nat.le_trans (List.length_filter_le _ _) (lst_len S)
theorem cU_congr {S T : Dot → Bool} {n : Nat} (hn : n < 8) (h : ∀ d, may d = true → S d = T d) : cU S n = cU T n := by unfold cU; rw [gap_congr hn h]
theorem cM_congr {S T : Dot → Bool} (h : ∀ d, may d = true → S d = T d) : cM S = cM T := by
  unfold cM
  rw [lst_congr h]
  refine List.filter_congr fun d hd => ?_
  have := may_iff.1 (mem_lst.1 hd).1
  unfold far
  rw [gap_congr (by omega) h]
theorem mem_cM {S : Dot → Bool} {d : Dot} : d ∈ cM S ↔ may d = true ∧ S d = true ∧ (gap S d.1.toNat : Int) < d.2 := by
  simp [cM, mem_lst, far, and_assoc]
theorem cM_ord (S : Dot → Bool) : Ord (cM S) := List.Pairwise.filter _ (pre_ord S 768)
theorem ord_rt {U : Nat → Int} {M : List Dot} (h1 : ∀ k, k < 8 → 0 ≤ U k ∧ U k ≤ 96) (h2 : Ord M) (h3 : ∀ d ∈ M, may d = true ∧ U d.1.toNat + 1 < d.2) : rt U M = true := by
  refine rt_yes h1 fun i hi => ?_
  have h4 := h3 M[i] (List.getElem_mem hi)
  unfold ok1
  simp only [List.getD_eq_getElem?_getD, List.getElem?_eq_getElem hi, Option.getD_some, h4.1, Bool.true_and, Bool.and_eq_true, Bool.or_eq_true, decide_eq_true_eq]
  refine ⟨h4.2, ?_⟩
  rcases Nat.eq_zero_or_pos i with h0 | h0
  · exact .inl h0
  · right
    rw [List.getElem?_eq_getElem (by omega), Option.getD_some]
    have h5 := List.pairwise_iff_getElem.1 h2 (i - 1) i (by omega) hi (by omega)
    have h6 := h3 M[i - 1] (List.getElem_mem (by omega))
    have a := may_iff.1 h4.1
    have b := may_iff.1 h6.1
    rw [bef_iff]
    unfold key at h5
    omega
theorem cl_rt (S : Dot → Bool) : rt (cU S) (cM S) = true := by
  refine ord_rt (fun k hk => ?_) (cM_ord S) fun d hd => ?_
  · have := gap_le S k; unfold cU; omega
  · obtain ⟨h1, h2, h3⟩ := mem_cM.1 hd
    refine ⟨h1, ?_⟩
    have h4 := may_iff.1 h1
    have := gap_le S d.1.toNat
    unfold cU
    rcases Int.lt_or_eq_of_le (show (gap S d.1.toNat : Int) + 1 ≤ d.2 by omega) with h5 | h5
    · exact h5
    · have h6 := gap_stop (S := S) (n := d.1.toNat) (by omega)
      have e : (((d.1.toNat : Nat) : Int), (gap S d.1.toNat : Int) + 1) = d := by
        obtain ⟨a, b⟩ := d; simp at *; omega
      rw [e, h2] at h6; cases h6
theorem cl_has (S : Dot → Bool) (d : Dot) : has (cU S) (cM S) d = (may d && S d) := by
  cases hm : may d with
  | false => simp [has, hm]
  | true =>
    rw [has_yes hm (cl_rt S)]
    have h4 := may_iff.1 hm
    have hg := gap_le S d.1.toNat
    by_cases h : d.2 ≤ (gap S d.1.toNat : Int)
    · have h5 := gap_all (S := S) (n := d.1.toNat) (j := (d.2 - 1).toNat) (by omega)
      have e : (((d.1.toNat : Nat) : Int), (((d.2 - 1).toNat : Nat) : Int) + 1) = d := by
        obtain ⟨a, b⟩ := d; simp at *; omega
      rw [e] at h5
      simp [cU, h, h5]
    · cases hs : S d with
      | true =>
        have : d ∈ cM S := mem_cM.2 ⟨hm, hs, by omega⟩
        simp [this]
      | false =>
        have h6 : ¬ d ∈ cM S := fun hd => by have := (mem_cM.1 hd).2.1; rw [hs] at this; cases this
        simp [cU, h, h6]
/-- A right set is the one of what is in it. -/
theorem rt_cl {U : Nat → Int} {M : List Dot} (h : rt U M = true) : (∀ k, k < 8 → cU (has U M) k = U k) ∧ cM (has U M) = M := by
  have h1 := (rt_iff.1 h).1
  have hin : ∀ k, k < 8 → gap (has U M) k = (U k).toNat := fun k hk => by
    have := h1 k hk
    refine gap_is (by omega) (fun j hj => ?_) fun hj => ?_
    · rw [has_yes (by rw [may_iff]; simp; omega) h]
      simp; left; omega
    · cases e : has U M ((k : Int), ((U k).toNat : Int) + 1) with
      | false => rfl
      | true =>
        rw [has_yes (by rw [may_iff]; simp; omega) h] at e
        simp at e
        rcases e with e | e
        · omega
        · have := (rt_may h e).2; simp at this; omega
  refine ⟨fun k hk => by have := h1 k hk; unfold cU; rw [hin k hk]; omega, ord_eq (cM_ord _) (rt_ord h) fun d => ?_⟩
  rw [mem_cM]
  constructor
  · rintro ⟨h2, h3, h4⟩
    have h5 := may_iff.1 h2
    rw [hin _ (by omega)] at h4
    rw [has_yes h2 h] at h3
    simp at h3
    rcases h3 with h3 | h3
    · have := h1 d.1.toNat (by omega); omega
    · exact h3
  · intro hd
    obtain ⟨h2, h3⟩ := rt_may h hd
    have h5 := may_iff.1 h2
    refine ⟨h2, by rw [has_yes h2 h]; simp [hd], ?_⟩
    rw [hin _ (by omega)]
    have := h1 d.1.toNat (by omega); omega
end Go.Proofs.Ytfllebfegngdhaa.D
end

section
namespace Go.Proofs.Ytfllebfegngdhaa.D
set_option linter.unusedVariables false
set_option linter.unusedSimpArgs false

def encU (U : Nat → Int) : Nat → List Int
  | 0 => []
  | k + 1 => encU U k ++ V.enc (U k)
def encM (M : List Dot) : List Int := M.flatMap fun d => V.enc d.1 ++ V.enc d.2
/-- A set's bytes. -/
def encS (U : Nat → Int) (M : List Dot) : List Int := encU U 8 ++ V.enc (M.length : Int) ++ encM M
theorem enc_one {n : Int} (h : n ≤ 96) : V.enc n = [n] := V.enc_small (by omega)
theorem encU_len {U : Nat → Int} (h : ∀ k, k < 8 → 0 ≤ U k ∧ U k ≤ 96) : ∀ k, k ≤ 8 → (encU U k).length = k
  | 0, _ => rfl
  | k + 1, hk => by
    have := h k (by omega)
    unfold encU
    rw [enc_one this.2, List.length_append, encU_len h k (by omega)]; rfl
theorem encM_snoc (M : List Dot) (d : Dot) : encM (M ++ [d]) = encM M ++ (V.enc d.1 ++ V.enc d.2) := by simp [encM]
theorem encM_len {M : List Dot} (h : ∀ d ∈ M, may d = true) : (encM M).length = 2 * M.length := by
  induction M with
  | nil => rfl
  | cons d M ih =>
    have hd := may_iff.1 (h d (by simp))
    have : encM (d :: M) = V.enc d.1 ++ V.enc d.2 ++ encM M := rfl
    rw [this, enc_one (by omega), enc_one hd.2.2.2, List.length_append, ih (fun x hx => h x (List.mem_cons_of_mem _ hx))]
    simp; omega
theorem len_enc {n : Nat} (h : n ≤ 768) : (V.enc (n : Int)).length ≤ 2 := V.enc_len 1 _ (by simp; omega)
theorem encS_len {U : Nat → Int} {M : List Dot} (h : rt U M = true) : (encS U M).length ≤ 2000 := by
  have h1 := encU_len (rt_iff.1 h).1 8 (by omega)
  have h2 := encM_len (M := M) (fun d hd => (rt_may h hd).1)
  have h3 := rt_len h
  have h4 := len_enc h3
  unfold encS
  simp [h1, h2]
  omega
/-- What Put answers: the bytes, the error. -/
def putB (U : Nat → Int) (M : List Dot) : List Int := if rt U M then encS U M else []
def putE (U : Nat → Int) (M : List Dot) : Int := if rt U M then 0 else 2
end Go.Proofs.Ytfllebfegngdhaa.D
end

section
namespace Go.Proofs.Ytfllebfegngdhaa.D
set_option linter.unusedVariables false
set_option linter.unusedSimpArgs false

def sumU (U : Nat → Int) : Nat → Int
  | 0 => 0
  | k + 1 => sumU U k + U k
theorem sumU_in {U : Nat → Int} (h : ∀ k, k < 8 → 0 ≤ U k ∧ U k ≤ 96) : ∀ k, k ≤ 8 → 0 ≤ sumU U k ∧ sumU U k ≤ 96 * k
  | 0, _ => by simp [sumU]
  | k + 1, hk => by have := sumU_in h k (by omega); have := h k (by omega); unfold sumU; omega
/-- How many dots, as the program counts them. -/
def cnt (U : Nat → Int) (M : List Dot) : Int := if rt U M then (M.length : Int) + sumU U 8 else 0
/-- What Add answers: the set, the error. -/
def add (U : Nat → Int) (M : List Dot) (d : Dot) : (Nat → Int) × List Dot × Int :=
  if may d = false then (fun _ => 0, [], 2) else if has U M d = true then (fun _ => 0, [], 9) else (cU (fun x => if x = d then true else has U M x), cM (fun x => if x = d then true else has U M x), 0)
def join (U : Nat → Int) (M : List Dot) (V : Nat → Int) (L : List Dot) : Dot → Bool := fun d => if has V L d then true else has U M d
def less (U : Nat → Int) (M : List Dot) (V : Nat → Int) (L : List Dot) : Dot → Bool := fun d => if has V L d then false else has U M d

/-! the count is right -/
theorem low_len (f : Nat → Int) (k : Nat) (hf : ∀ j, j < k → 0 ≤ f j ∧ f j ≤ 96) : ((((List.range (k * 96)).map dt).filter fun d => decide (d.2 ≤ f d.1.toNat)).length : Int) = sumU f k := by
  induction k with
  | zero => simp [sumU]
  | succ k ih =>
    have e : List.range ((k + 1) * 96) = List.range (k * 96) ++ (List.range 96).map (k * 96 + ·) := by rw [Nat.succ_mul, List.range_add]
    rw [e, List.map_append, List.filter_append, List.length_append, Int.natCast_add, ih (fun j hj => hf j (by omega))]
    show sumU f k + _ = sumU f k + f k
    congr 1
    have h1 := hf k (by omega)
    obtain ⟨m, hm⟩ := Int.eq_ofNat_of_zero_le h1.1
    rw [hm]
    have hm' : m ≤ 96 := by omega
    have e2 : ∀ l : List Nat, (∀ i ∈ l, i < 96) → ((l.map (k * 96 + ·)).map dt).filter (fun d => decide (d.2 ≤ f d.1.toNat)) = ((l.filter (fun i => decide (i < m))).map (k * 96 + ·)).map dt := by
      intro l hl
      rw [List.map_map, List.map_map, List.filter_map]
      congr 1
      refine List.filter_congr fun i hi => ?_
      have := hl i hi
      simp only [Function.comp, dt_at k i this]
      rw [Bool.eq_iff_iff]
      simp [hm]
      omega
    rw [e2 _ (fun i hi => List.mem_range.1 hi), List.length_map, List.length_map]
    have e3 : (List.range 96).filter (fun i => decide (i < m)) = List.range m := by
      have : (96 : Nat) = m + (96 - m) := by omega
      rw [this, List.range_add, List.filter_append]
      have f1 : (List.range m).filter (fun i => decide (i < m)) = List.range m := List.filter_eq_self.2 (by simp)
      have f2 : ((List.range (96 - m)).map (m + ·)).filter (fun i => decide (i < m)) = [] := List.filter_eq_nil_iff.2 (by simp)
      rw [f1, f2, List.append_nil]
    rw [e3]
    simp
theorem all_split (M : List Dot) (hM : ∀ d ∈ M, may d = true) (hO : Ord M) : (((List.range 768).map dt).filter fun d => M.contains d) = M := by
  refine ord_eq (pre_ord (fun d => M.contains d) 768) hO fun d => ?_
  have := mem_lst (S := fun d => M.contains d) (d := d)
  unfold lst pre at this
  rw [this]
  constructor
  · exact fun h => by simpa using h.2
  · exact fun h => ⟨hM d h, by simpa using h⟩
theorem filter_or {α : Type} (p q : α → Bool) (hd : ∀ a, p a = true → q a = false) : ∀ l : List α, (l.filter fun a => p a || q a).length = (l.filter p).length + (l.filter q).length
  | [] => rfl
  | a :: l => by
    have ih := filter_or p q hd l
    cases hp : p a with
    | true => have := hd a hp; simp [hp, this, ih]; omega
    | false => cases hq : q a <;> simp [hp, hq, ih]; omega
/-- It counts all dots. -/
theorem cnt_eq (U : Nat → Int) (M : List Dot) : cnt U M = ((lst (has U M)).length : Int) := by
  unfold cnt
  cases h : rt U M with
  | false =>
    have e : lst (has U M) = [] := by
      refine List.eq_nil_iff_forall_not_mem.2 fun d hd => ?_
      have := (mem_lst.1 hd).2
      rw [has_no (.inr h)] at this; cases this
    rw [e]; rfl
  | true =>
    have hU := (rt_iff.1 h).1
    have hM := fun d hd => (rt_may h (d := d) hd)
    rw [if_pos rfl]
    have e : lst (has U M) = ((List.range 768).map dt).filter (fun d => decide (d.2 ≤ U d.1.toNat) || M.contains d) := by
      unfold lst pre
      refine List.filter_congr fun d hd => ?_
      obtain ⟨j, hj, rfl⟩ := List.mem_map.1 hd
      exact has_yes (dt_may (by have := List.mem_range.1 hj; omega)) h
    rw [e, filter_or _ _ (fun d hd => by
      cases hc : M.contains d with
      | false => rfl
      | true =>
        have := (hM d (by simpa using hc)).2
        simp at hd
        omega)]
    rw [all_split M (fun d hd => (hM d hd).1) (rt_ord h), Int.natCast_add, low_len U 8 hU]
    omega
/-- What both have is the one's, and the other's alone. -/
theorem lst_both (S T : Dot → Bool) : (lst (fun d => if T d then true else S d)).length = (lst S).length + (lst (fun d => if S d then false else T d)).length := by
  have e : lst (fun d => if T d then true else S d) = lst (fun d => S d || (if S d then false else T d)) := lst_congr fun d _ => by cases S d <;> cases T d <;> rfl
  rw [e]
  unfold lst pre
  exact filter_or S (fun d => if S d then false else T d) (fun d hd => by simp [hd]) _
end Go.Proofs.Ytfllebfegngdhaa.D
end

