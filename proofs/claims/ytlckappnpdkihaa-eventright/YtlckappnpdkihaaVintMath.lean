/- The plain mathematics of layer 2 (vint): a number's bytes, and the number that bytes are. -/
namespace Go.Proofs.Ytlckappnpdkihaa.V

/-- A number's bytes. -/
def enc (n : Int) : List Int := if 128 ≤ n then (n % 128 + 128) :: enc (n / 128) else [n]
termination_by n.toNat
decreasing_by omega

theorem enc_big {n : Int} (h : 128 ≤ n) : enc n = (n % 128 + 128) :: enc (n / 128) := by rw [enc, if_pos h]
theorem enc_small {n : Int} (h : ¬ 128 ≤ n) : enc n = [n] := by rw [enc, if_neg h]

theorem enc_pos (n : Int) : 0 < (enc n).length := by rw [enc]; split <;> simp
theorem enc_len (k : Nat) : ∀ n : Int, n < 128 ^ (k + 1) → (enc n).length ≤ k + 1 := by
  induction k with
  | zero => intro n h; rw [enc_small (by simp at h; omega)]; simp
  | succ k ih =>
    intro n h
    by_cases hb : 128 ≤ n
    · rw [enc_big hb]
      have : n / 128 < 128 ^ (k + 1) := by
        have e : (128 : Int) ^ (k + 1 + 1) = 128 ^ (k + 1) * 128 := Int.pow_succ 128 (k + 1)
        omega
      have := ih _ this
      simp; omega
    · rw [enc_small hb]; simp
theorem enc_len6 {n : Int} (h : n ≤ 1099511627776) : (enc n).length ≤ 6 := enc_len 5 n (by simp; omega)
theorem enc_byt (k : Nat) : ∀ n : Int, 0 ≤ n → n < 128 ^ (k + 1) → ∀ b ∈ enc n, 0 ≤ b ∧ b < 256 := by
  induction k with
  | zero =>
    intro n h0 h b hb
    simp at h
    rw [enc_small (by omega)] at hb
    simp at hb; omega
  | succ k ih =>
    intro n h0 h b hb
    by_cases hn : 128 ≤ n
    · rw [enc_big hn] at hb
      have : n / 128 < 128 ^ (k + 1) := by
        have e : (128 : Int) ^ (k + 1 + 1) = 128 ^ (k + 1) * 128 := Int.pow_succ 128 (k + 1)
        omega
      rcases List.mem_cons.1 hb with rfl | hb
      · omega
      · exact ih _ (by omega) this b hb
    · rw [enc_small hn] at hb
      simp at hb; omega
theorem enc_byt6 {n : Int} (h0 : 0 ≤ n) (h : n ≤ 1099511627776) : ∀ b ∈ enc n, 0 ≤ b ∧ b < 256 := enc_byt 5 n h0 (by simp; omega)

/-- What a reader makes of bytes: the number, how many bytes it is, the error. (k: how many bytes it may still have; i: how many it has; n: what they come to.) -/
def num : Nat → List Int → Nat → Int → Int × Nat × Int
  | 0, _, _, _ => (0, 0, 4)
  | _ + 1, [], _, _ => (0, 0, 3)
  | k + 1, c :: t, i, n =>
    if c < 128 then (if 1099511627776 < n + c % 128 * 128 ^ i ∨ c = 0 ∧ 0 < i then (0, 0, 4) else (n + c % 128 * 128 ^ i, i + 1, 0))
    else num k t (i + 1) (n + c % 128 * 128 ^ i)
def int (l : List Int) : Int × Nat × Int := num 6 l 0 0

theorem num_nil (k i : Nat) (n : Int) (l : List Int) (h : l.length ≤ i) : num (k + 1) (l.drop i) i n = (0, 0, 3) := by
  rw [List.drop_eq_nil_of_le h]; rfl
theorem num_at {k i : Nat} {n : Int} {l : List Int} (h : i < l.length) : num (k + 1) (l.drop i) i n =
    if l[i] < 128 then (if 1099511627776 < n + l[i] % 128 * 128 ^ i ∨ l[i] = 0 ∧ 0 < i then (0, 0, 4) else (n + l[i] % 128 * 128 ^ i, i + 1, 0))
    else num k (l.drop (i + 1)) (i + 1) (n + l[i] % 128 * 128 ^ i) := by
  rw [List.drop_eq_getElem_cons h]; rfl

/-! What a round of the reading loop comes to (ch: the byte at i). -/
theorem st_more {l : List Int} {i : Nat} {n ch : Int} (HV : int l = num (6 - i) (l.drop i) i n) (h6 : i < 6) (hi : i < l.length) (hc : ch = l[i]) (h : 128 ≤ ch) :
    int l = num (6 - (i + 1)) (l.drop (i + 1)) (i + 1) (n + ch % 128 * 128 ^ i) := by
  subst hc
  rw [HV, show 6 - i = (6 - (i + 1)) + 1 by omega, num_at hi, if_neg (by omega)]
theorem st_bad {l : List Int} {i : Nat} {n ch : Int} (HV : int l = num (6 - i) (l.drop i) i n) (h6 : i < 6) (hi : i < l.length) (hc : ch = l[i]) (h : ch < 128)
    (hb : 1099511627776 < n + ch % 128 * 128 ^ i ∨ ch = 0 ∧ 0 < i) : int l = (0, 0, 4) := by
  subst hc
  rw [HV, show 6 - i = (6 - (i + 1)) + 1 by omega, num_at hi, if_pos h, if_pos hb]
theorem st_good {l : List Int} {i : Nat} {n ch : Int} (HV : int l = num (6 - i) (l.drop i) i n) (h6 : i < 6) (hi : i < l.length) (hc : ch = l[i]) (h : ch < 128)
    (hb : ¬ (1099511627776 < n + ch % 128 * 128 ^ i ∨ ch = 0 ∧ 0 < i)) : int l = (n + ch % 128 * 128 ^ i, i + 1, 0) := by
  subst hc
  rw [HV, show 6 - i = (6 - (i + 1)) + 1 by omega, num_at hi, if_pos h, if_neg hb]
theorem st_short {l : List Int} {i : Nat} {n : Int} (HV : int l = num (6 - i) (l.drop i) i n) (h6 : i < 6) (hi : l.length ≤ i) : int l = (0, 0, 3) := by
  rw [HV, show 6 - i = (6 - (i + 1)) + 1 by omega, num_nil _ _ _ _ hi]
theorem st_long {l : List Int} {n : Int} {i : Nat} (HV : int l = num (6 - i) (l.drop i) i n) (h6 : 6 ≤ i) : int l = (0, 0, 4) := by
  rw [HV, show 6 - i = 0 by omega]; rfl
theorem st_pow {i : Nat} : (2 : Int) ^ (7 * i) = 128 ^ i := by rw [Int.pow_mul]; rfl
theorem st_bound {i : Nat} {n ch : Int} (hn : n < 128 ^ i) : n + ch % 128 * 128 ^ i < 128 ^ (i + 1) := by
  have h1 : (0 : Int) < 128 ^ i := Int.pow_pos (by decide)
  have h2 : (128 : Int) ^ (i + 1) = 128 * 128 ^ i := by rw [Int.pow_succ, Int.mul_comm]
  have h3 : ch % 128 * 128 ^ i ≤ 127 * 128 ^ i := Int.mul_le_mul_of_nonneg_right (by omega) (by omega)
  rw [h2]; omega
theorem st_q0 {i : Nat} {ch : Int} : 0 ≤ ch % 128 * 128 ^ i := Int.mul_nonneg (by omega) (Int.le_of_lt (Int.pow_pos (by decide)))
theorem pow_le6 {i : Nat} {n : Int} (hi : i ≤ 6) (h : n < 128 ^ i) : n < 4398046511104 := by
  rcases i with _ | _ | _ | _ | _ | _ | _ | i
  all_goals first | omega | (simp at h; omega)

theorem p128 (i : Nat) : (0 : Int) < 128 ^ i := Int.pow_pos (by decide)

theorem num_size (k : Nat) : ∀ (l : List Int) (i : Nat) (n : Int), (num k l i n).2.1 ≤ i + l.length ∧ ((num k l i n).2.2 = 0 → i < (num k l i n).2.1) ∧ ((num k l i n).2.2 ≠ 0 → (num k l i n).1 = 0 ∧ (num k l i n).2.1 = 0) ∧
    ((num k l i n).2.2 = 0 ∨ (num k l i n).2.2 = 3 ∨ (num k l i n).2.2 = 4) := by
  induction k with
  | zero => intro l i n; simp [num]
  | succ k ih =>
    intro l i n
    cases l with
    | nil => simp [num]
    | cons c t =>
      rw [num]
      split
      · split
        · simp
        · simp
      · have := ih t (i + 1) (n + c % 128 * 128 ^ i)
        refine ⟨by have := this.1; simp; omega, fun h => by have := this.2.1 h; omega, this.2.2.1, this.2.2.2⟩
theorem int_size (l : List Int) : (int l).2.1 ≤ l.length := by have := (num_size 6 l 0 0).1; unfold int; omega
theorem int_pos (l : List Int) (h : (int l).2.2 = 0) : 0 < (int l).2.1 := by have := (num_size 6 l 0 0).2.1; unfold int at *; have := this h; omega
theorem int_bad (l : List Int) (h : (int l).2.2 ≠ 0) : (int l).1 = 0 ∧ (int l).2.1 = 0 := (num_size 6 l 0 0).2.2.1 h
theorem int_err (l : List Int) : (int l).2.2 = 0 ∨ (int l).2.2 = 3 ∨ (int l).2.2 = 4 := (num_size 6 l 0 0).2.2.2

theorem num_enc (k : Nat) : ∀ (m : Int) (r : List Int) (i : Nat) (n : Int), 0 ≤ m → (enc m).length ≤ k → n + m * 128 ^ i ≤ 1099511627776 → (m = 0 → i = 0) →
    num k (enc m ++ r) i n = (n + m * 128 ^ i, i + (enc m).length, 0) := by
  induction k with
  | zero => intro m r i n _ h; have := enc_pos m; omega
  | succ k ih =>
    intro m r i n h0 hl ht hz
    by_cases hb : 128 ≤ m
    · rw [enc_big hb] at hl ⊢
      have e1 : (m % 128 + 128) % 128 = m % 128 := by omega
      have e2 : n + m % 128 * 128 ^ i + m / 128 * 128 ^ (i + 1) = n + m * 128 ^ i := by
        have : (128 : Int) ^ (i + 1) = 128 ^ i * 128 := Int.pow_succ 128 i
        rw [this]
        have h3 : m = m / 128 * 128 + m % 128 := by omega
        have h4 : m / 128 * ((128 : Int) ^ i * 128) = m / 128 * 128 * 128 ^ i := by rw [Int.mul_comm ((128 : Int) ^ i) 128, ← Int.mul_assoc]
        rw [h4]
        have h5 : m * (128 : Int) ^ i = m / 128 * 128 * 128 ^ i + m % 128 * 128 ^ i := by rw [← Int.add_mul]; congr 1
        omega
      rw [List.cons_append, num, if_neg (by omega), e1, ih (m / 128) r (i + 1) _ (by omega) (by simp at hl; omega) (by omega) (by omega), e2]
      simp; omega
    · rw [enc_small hb]
      have e1 : m % 128 = m := by omega
      rw [List.cons_append, num, if_pos (by omega), e1, if_neg (by
        rintro (h | ⟨h1, h2⟩)
        · omega
        · have := hz h1; omega)]
      simp
/-- What was put is read, whatever stands behind it. -/
theorem int_enc {m : Int} (h0 : 0 ≤ m) (h1 : m ≤ 1099511627776) (r : List Int) : int (enc m ++ r) = (m, (enc m).length, 0) := by
  have := num_enc 6 m r 0 0 h0 (enc_len6 h1) (by simp; omega) (fun _ => rfl)
  unfold int
  rw [this]; simp

theorem num_back (k : Nat) : ∀ (l : List Int) (i : Nat) (n : Int), (∀ b ∈ l, 0 ≤ b ∧ b < 256) → (num k l i n).2.2 = 0 →
    ∃ m r, l = enc m ++ r ∧ (num k l i n).2.1 = i + (enc m).length ∧ (num k l i n).1 = n + m * 128 ^ i ∧ 0 ≤ m ∧ (0 < i → m ≠ 0) ∧ n + m * 128 ^ i ≤ 1099511627776 := by
  induction k with
  | zero => intro l i n _ h; simp [num] at h
  | succ k ih =>
    intro l i n hb h
    cases l with
    | nil => simp [num] at h
    | cons c t =>
      have hc := hb c (by simp)
      rw [num] at h ⊢
      by_cases h1 : c < 128
      · rw [if_pos h1] at h ⊢
        by_cases h2 : 1099511627776 < n + c % 128 * 128 ^ i ∨ c = 0 ∧ 0 < i
        · rw [if_pos h2] at h; simp at h
        · rw [if_neg h2]
          have e : c % 128 = c := by omega
          rw [e] at h2 ⊢
          refine ⟨c, t, ?_, ?_, rfl, hc.1, ?_, ?_⟩
          · rw [enc_small (by omega)]; rfl
          · rw [enc_small (by omega)]; rfl
          · intro hi hz; exact h2 (.inr ⟨hz, hi⟩)
          · have := fun h => h2 (.inl h); omega
      · rw [if_neg h1] at h ⊢
        obtain ⟨m, r, rfl, h3, h4, h5, h6, h7⟩ := ih t (i + 1) _ (fun b hb' => hb b (List.mem_cons_of_mem _ hb')) h
        have hm : m ≠ 0 := h6 (by omega)
        have e0 : c % 128 = c - 128 := by omega
        have e2 : n + c % 128 * 128 ^ i + m * 128 ^ (i + 1) = n + (m * 128 + (c - 128)) * 128 ^ i := by
          have h8 : (128 : Int) ^ (i + 1) = 128 ^ i * 128 := Int.pow_succ 128 i
          rw [h8, e0, Int.add_mul, Int.mul_comm ((128 : Int) ^ i) 128, ← Int.mul_assoc]
          omega
        have e3 : enc (m * 128 + (c - 128)) = c :: enc m := by
          rw [enc_big (by omega), show (m * 128 + (c - 128)) % 128 + 128 = c by omega, show (m * 128 + (c - 128)) / 128 = m by omega]
        refine ⟨m * 128 + (c - 128), r, by rw [e3]; rfl, ?_, by rw [h4, e2], by omega, by omega, by rw [← e2]; exact h7⟩
        rw [h3, e3]; simp; omega
/-- What is read is put back as it was. -/
theorem int_back {l : List Int} (hb : ∀ b ∈ l, 0 ≤ b ∧ b < 256) (h : (int l).2.2 = 0) :
    l = enc (int l).1 ++ l.drop (int l).2.1 ∧ (int l).2.1 = (enc (int l).1).length ∧ 0 ≤ (int l).1 ∧ (int l).1 ≤ 1099511627776 := by
  obtain ⟨m, r, e, h1, h2, h3, _, h4⟩ := num_back 6 l 0 0 hb h
  have h1' : (int l).2.1 = (enc m).length := by unfold int; rw [h1]; simp
  have h2' : (int l).1 = m := by unfold int; rw [h2]; simp
  rw [h2', h1']
  refine ⟨?_, rfl, h3, by simpa using h4⟩
  conv => lhs; rw [e]
  rw [e]; simp

/-- Numbers one behind the other. -/
def encs (l : List Int) : List Int := l.flatMap enc
theorem encs_snoc (l : List Int) (n : Int) : encs (l ++ [n]) = encs l ++ enc n := by simp [encs]
theorem encs_cons (l : List Int) (n : Int) : encs (n :: l) = enc n ++ encs l := by simp [encs]
theorem encs_len (l : List Int) (h : ∀ n ∈ l, 0 ≤ n ∧ n ≤ 1099511627776) : (encs l).length ≤ 6 * l.length := by
  induction l with
  | nil => simp [encs]
  | cons n l ih =>
    rw [encs_cons, List.length_append, List.length_cons]
    have h1 := enc_len6 (h n (by simp)).2
    have h2 := ih fun m hm => h m (by simp [hm])
    omega
theorem encs_byt (l : List Int) (h : ∀ n ∈ l, 0 ≤ n ∧ n ≤ 1099511627776) : ∀ b ∈ encs l, 0 ≤ b ∧ b < 256 := by
  induction l with
  | nil => simp [encs]
  | cons n l ih =>
    intro b hb
    rw [encs_cons] at hb
    rcases List.mem_append.1 hb with h1 | h1
    · exact enc_byt6 (h n (by simp)).1 (h n (by simp)).2 b h1
    · exact ih (fun m hm => h m (by simp [hm])) b h1
theorem int_encs {n : Int} {l M : List Int} (h0 : 0 ≤ n) (h1 : n ≤ 1099511627776) :
    int (encs (n :: l) ++ M) = (n, (enc n).length, 0) ∧ (encs (n :: l) ++ M).drop (enc n).length = encs l ++ M := by
  rw [encs_cons, List.append_assoc]
  exact ⟨int_enc h0 h1 _, by simp⟩
end Go.Proofs.Ytlckappnpdkihaa.V
