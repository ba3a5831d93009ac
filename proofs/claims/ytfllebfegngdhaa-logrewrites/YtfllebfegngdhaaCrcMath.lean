/- Layer 3 (crc): the mathematics of the register, in natural numbers. -/
import Derived.Test.YtfllebfegngdhaaRows
namespace Go.Proofs.Ytfllebfegngdhaa

namespace C
/-- One turn of the register. -/
def t1 (r : Nat) : Nat := if r % 2 = 1 then (r / 2) ^^^ 3988292384 else r / 2
/-- So many turns. -/
def tn : Nat → Nat → Nat
  | 0, r => r
  | n + 1, r => tn n (t1 r)
/-- A byte more. -/
def up (r c : Nat) : Nat := tn 8 (r ^^^ c)
/-- Bytes more. -/
def run (r : Nat) : List Nat → Nat
  | [] => r
  | c :: l => run (up r c) l
/-- A sum with bytes behind. -/
def more (s : Nat) (l : List Nat) : Nat := run (s ^^^ 4294967295) l ^^^ 4294967295

theorem half_xor (a b : Nat) : (a ^^^ b) / 2 = (a / 2) ^^^ (b / 2) := by
  apply Nat.eq_of_testBit_eq
  intro i
  simp [Nat.testBit_div_two, Nat.testBit_xor]
theorem odd_xor (a b : Nat) : (a ^^^ b) % 2 = (a % 2 + b % 2) % 2 := by
  have h := congrArg (fun p : Bool => p.toNat) (Nat.testBit_xor a b 0)
  simp only [Nat.testBit_zero] at h
  have ha := Nat.mod_two_eq_zero_or_one a
  have hb := Nat.mod_two_eq_zero_or_one b
  have hc := Nat.mod_two_eq_zero_or_one (a ^^^ b)
  rcases ha with ha | ha <;> rcases hb with hb | hb <;> rcases hc with hc | hc <;> simp [ha, hb, hc] at h ⊢
theorem t1_xor (a b : Nat) : t1 (a ^^^ b) = t1 a ^^^ t1 b := by
  unfold t1
  rw [odd_xor, half_xor]
  have ha := Nat.mod_two_eq_zero_or_one a
  have hb := Nat.mod_two_eq_zero_or_one b
  rcases ha with ha | ha <;> rcases hb with hb | hb <;> simp [ha, hb]
  · rw [Nat.xor_assoc]
  · rw [Nat.xor_assoc, Nat.xor_assoc, Nat.xor_comm 3988292384 (b / 2)]
  · rw [Nat.xor_assoc (a / 2), Nat.xor_comm 3988292384, Nat.xor_assoc, Nat.xor_self, Nat.xor_zero]
theorem t1_lt {r : Nat} (h : r < 4294967296) : t1 r < 4294967296 := by
  unfold t1
  split
  · exact Nat.xor_lt_two_pow (n := 32) (by omega) (by omega)
  · omega
theorem t1_zero {r : Nat} (h : r < 4294967296) (hz : t1 r = 0) : r = 0 := by
  unfold t1 at hz
  split at hz
  · have e : r / 2 = 3988292384 := by
      have := congrArg (· ^^^ 3988292384) hz
      simpa [Nat.xor_assoc] using this
    omega
  · omega
theorem tn_xor (n : Nat) : ∀ a b : Nat, tn n (a ^^^ b) = tn n a ^^^ tn n b := by
  induction n with
  | zero => intro a b; rfl
  | succ n ih => intro a b; show tn n (t1 (a ^^^ b)) = _; rw [t1_xor, ih]; rfl
theorem tn_lt (n : Nat) : ∀ {r : Nat}, r < 4294967296 → tn n r < 4294967296 := by
  induction n with
  | zero => intro r h; exact h
  | succ n ih => intro r h; exact ih (t1_lt h)
theorem tn_zero (n : Nat) : ∀ {r : Nat}, r < 4294967296 → tn n r = 0 → r = 0 := by
  induction n with
  | zero => intro r _ h; exact h
  | succ n ih => intro r h hz; exact t1_zero h (ih (t1_lt h) hz)
theorem xor_lt {a b : Nat} (ha : a < 4294967296) (hb : b < 4294967296) : a ^^^ b < 4294967296 := Nat.xor_lt_two_pow (n := 32) ha hb
theorem xor_eq0 {a b : Nat} (h : a ^^^ b = 0) : a = b := by
  have := congrArg (· ^^^ b) h
  simpa [Nat.xor_assoc] using this
theorem xor_cancel {a b c : Nat} (h : a ^^^ c = b ^^^ c) : a = b := by
  have := congrArg (· ^^^ c) h
  simpa [Nat.xor_assoc] using this
theorem xor_cancel' {a b c : Nat} (h : c ^^^ a = c ^^^ b) : a = b := by
  rw [Nat.xor_comm c, Nat.xor_comm c] at h
  exact xor_cancel h
theorem tn_inj {n a b : Nat} (ha : a < 4294967296) (hb : b < 4294967296) (h : tn n a = tn n b) : a = b := by
  apply xor_eq0
  apply tn_zero n (xor_lt ha hb)
  rw [tn_xor, h, Nat.xor_self]
theorem up_lt {r c : Nat} (hr : r < 4294967296) (hc : c < 256) : up r c < 4294967296 := tn_lt 8 (xor_lt hr (by omega))
theorem up_inj {r s c : Nat} (hr : r < 4294967296) (hs : s < 4294967296) (hc : c < 256) (h : up r c = up s c) : r = s :=
  xor_cancel (tn_inj (xor_lt hr (by omega)) (xor_lt hs (by omega)) h)
theorem up_inj' {r c d : Nat} (hr : r < 4294967296) (hc : c < 256) (hd : d < 256) (h : up r c = up r d) : c = d :=
  xor_cancel' (tn_inj (xor_lt hr (by omega)) (xor_lt hr (by omega)) h)
theorem run_lt {l : List Nat} : ∀ {r : Nat}, r < 4294967296 → (∀ c ∈ l, c < 256) → run r l < 4294967296 := by
  induction l with
  | nil => intro r h _; exact h
  | cons c l ih => intro r h hl; exact ih (up_lt h (hl c (by simp))) fun d hd => hl d (by simp [hd])
theorem run_inj {l : List Nat} : ∀ {r s : Nat}, r < 4294967296 → s < 4294967296 → (∀ c ∈ l, c < 256) → run r l = run s l → r = s := by
  induction l with
  | nil => intro r s _ _ _ h; exact h
  | cons c l ih => intro r s hr hs hl h; exact up_inj hr hs (hl c (by simp)) (ih (up_lt hr (hl c (by simp))) (up_lt hs (hl c (by simp))) (fun d hd => hl d (by simp [hd])) h)
theorem run_app (l m : List Nat) : ∀ r : Nat, run r (l ++ m) = run (run r l) m := by
  induction l with
  | nil => intro r; rfl
  | cons c l ih => intro r; exact ih _
theorem more_lt {s : Nat} {l : List Nat} (hs : s < 4294967296) (hl : ∀ c ∈ l, c < 256) : more s l < 4294967296 := xor_lt (run_lt (xor_lt hs (by omega)) hl) (by omega)
theorem more_app (s : Nat) (l m : List Nat) : more s (l ++ m) = more (more s l) m := by
  unfold more
  rw [run_app, Nat.xor_assoc (run _ l), Nat.xor_self, Nat.xor_zero]
theorem more_nil (s : Nat) : more s [] = s := by
  unfold more run
  rw [Nat.xor_assoc, Nat.xor_self, Nat.xor_zero]

/-- One byte turned turns the sum. -/
theorem turn_one {s c d : Nat} {l m : List Nat} (hs : s < 4294967296) (hl : ∀ c ∈ l, c < 256) (hm : ∀ c ∈ m, c < 256) (hc : c < 256) (hd : d < 256) (hne : c ≠ d) :
    more s (l ++ c :: m) ≠ more s (l ++ d :: m) := by
  intro h
  have h := xor_cancel h
  rw [run_app, run_app] at h
  have h1 := run_lt (xor_lt hs (b := 4294967295) (by omega)) hl
  exact hne (up_inj' h1 hc hd (run_inj (up_lt h1 hc) (up_lt h1 hd) hm h))

theorem no_rest : ∀ d, d < 256 → 0 < d → tn 8 d ≠ d := by decide +kernel
/-- Two unlike bytes in each other's place turn the sum. -/
theorem turn_two {s c d : Nat} {l m : List Nat} (hs : s < 4294967296) (hl : ∀ c ∈ l, c < 256) (hm : ∀ c ∈ m, c < 256) (hc : c < 256) (hd : d < 256) (hne : c ≠ d) :
    more s (l ++ c :: d :: m) ≠ more s (l ++ d :: c :: m) := by
  intro h
  have h := xor_cancel h
  rw [run_app, run_app] at h
  have h1 := run_lt (xor_lt hs (b := 4294967295) (by omega)) hl
  revert h h1
  generalize run (s ^^^ 4294967295) l = r
  intro h h1
  have h2 : up (up r c) d = up (up r d) c := run_inj (up_lt (up_lt h1 hc) hd) (up_lt (up_lt h1 hd) hc) hm h
  have h3 : up r c ^^^ d = up r d ^^^ c := tn_inj (xor_lt (up_lt h1 hc) (by omega)) (xor_lt (up_lt h1 hd) (by omega)) h2
  unfold up at h3
  rw [tn_xor, tn_xor, Nat.xor_assoc, Nat.xor_assoc] at h3
  have h4 := xor_cancel' h3
  have h5 : tn 8 (c ^^^ d) = c ^^^ d := by
    rw [tn_xor]
    have e : tn 8 c ^^^ d ^^^ (d ^^^ tn 8 d) = tn 8 d ^^^ c ^^^ (d ^^^ tn 8 d) := congrArg (fun x => x ^^^ (d ^^^ tn 8 d)) h4
    have e1 : tn 8 c ^^^ d ^^^ (d ^^^ tn 8 d) = tn 8 c ^^^ tn 8 d := by rw [← Nat.xor_assoc, Nat.xor_assoc (tn 8 c), Nat.xor_self, Nat.xor_zero]
    have e2 : tn 8 d ^^^ c ^^^ (d ^^^ tn 8 d) = c ^^^ d := by
      rw [Nat.xor_comm d, Nat.xor_comm (tn 8 d) c, ← Nat.xor_assoc, Nat.xor_assoc c, Nat.xor_self, Nat.xor_zero]
    rw [e1, e2] at e
    exact e
  have hlt : c ^^^ d < 256 := Nat.xor_lt_two_pow (n := 8) hc hd
  exact no_rest _ hlt (Nat.pos_of_ne_zero fun e => hne (xor_eq0 e)) h5

theorem t1_dbl (x : Nat) : t1 (2 * x) = x := by
  unfold t1
  rw [if_neg (by omega)]
  omega
theorem tn_dbl (n : Nat) : ∀ x : Nat, tn n (2 ^ n * x) = x := by
  induction n with
  | zero => intro x; simp [tn]
  | succ n ih => intro x; show tn n (t1 _) = x; rw [show 2 ^ (n + 1) * x = 2 * (2 ^ n * x) by rw [Nat.pow_succ, Nat.mul_comm (2 ^ n) 2, Nat.mul_assoc], t1_dbl, ih]
theorem tn_add (m : Nat) : ∀ n r : Nat, tn (n + m) r = tn m (tn n r) := by
  intro n
  induction n with
  | zero => intro r; simp [tn]
  | succ n ih => intro r; rw [show n + 1 + m = (n + m) + 1 by omega]; exact ih _
/-- A register of four bytes, turned. -/
theorem four (r a b c d : Nat) : up (up (up (up r a) b) c) d = tn 32 (r ^^^ a ^^^ (256 * b) ^^^ (65536 * c) ^^^ (16777216 * d)) := by
  unfold up
  have e1 : tn 32 (r ^^^ a ^^^ (256 * b) ^^^ (65536 * c) ^^^ (16777216 * d)) = tn 32 r ^^^ tn 32 a ^^^ tn 24 b ^^^ tn 16 c ^^^ tn 8 d := by
    rw [tn_xor, tn_xor, tn_xor, tn_xor]
    rw [show tn 32 (256 * b) = tn 24 (tn 8 (256 * b)) from tn_add 24 8 _, show tn 32 (65536 * c) = tn 16 (tn 16 (65536 * c)) from tn_add 16 16 _, show tn 32 (16777216 * d) = tn 8 (tn 24 (16777216 * d)) from tn_add 8 24 _]
    rw [show (256 : Nat) = 2 ^ 8 by decide, show (65536 : Nat) = 2 ^ 16 by decide, show (16777216 : Nat) = 2 ^ 24 by decide, tn_dbl, tn_dbl, tn_dbl]
  rw [e1]
  simp only [tn_xor, ← tn_add]

theorem split4 (s : Nat) (h : s < 4294967296) : (s % 256) ^^^ (256 * (s / 256 % 256)) ^^^ (65536 * (s / 65536 % 256)) ^^^ (16777216 * (s / 16777216 % 256)) = s := by
  have j (i x y : Nat) (hy : y < 2 ^ i) : y ^^^ (2 ^ i * x) = 2 ^ i * x + y := by
    rw [Nat.two_pow_add_eq_or_of_lt hy]
    apply Nat.eq_of_testBit_eq
    intro k
    rw [Nat.testBit_xor, Nat.testBit_or, Nat.testBit_two_pow_mul]
    by_cases hk : i ≤ k
    · have : y.testBit k = false := Nat.testBit_lt_two_pow (Nat.lt_of_lt_of_le hy (Nat.pow_le_pow_right (by omega) hk))
      simp [this]
    · simp [hk]
  rw [show (256 : Nat) * (s / 256 % 256) = 2 ^ 8 * (s / 256 % 256) by simp, j 8 _ _ (by omega)]
  rw [show (65536 : Nat) * (s / 65536 % 256) = 2 ^ 16 * (s / 65536 % 256) by simp, j 16 _ _ (by omega)]
  rw [show (16777216 : Nat) * (s / 16777216 % 256) = 2 ^ 24 * (s / 16777216 % 256) by simp, j 24 _ _ (by omega)]
  omega

theorem frame4 (q s a b c d : Nat) (e : a ^^^ b ^^^ c ^^^ d = s) : s ^^^ q ^^^ a ^^^ b ^^^ c ^^^ d = q := by
  rw [Nat.xor_comm s, ← e]
  have k1 : q ^^^ (a ^^^ b ^^^ c ^^^ d) ^^^ a ^^^ b ^^^ c ^^^ d = q ^^^ ((a ^^^ b ^^^ c ^^^ d) ^^^ (a ^^^ b ^^^ c ^^^ d)) := by simp only [Nat.xor_assoc]
  rw [k1, Nat.xor_self, Nat.xor_zero]
/-- Bytes with their sum behind them all have one sum. -/
theorem frames (q : Nat) (hq : 4294967295 = q) (l : List Nat) (hl : ∀ c ∈ l, c < 256) :
    more 0 (l ++ [more 0 l % 256, more 0 l / 256 % 256, more 0 l / 65536 % 256, more 0 l / 16777216 % 256]) = tn 32 q ^^^ q := by
  have hlt : more 0 l < 4294967296 := more_lt (by omega) hl
  rw [more_app]
  revert hlt
  generalize more 0 l = s
  intro hlt
  have e := frame4 q s _ _ _ _ (split4 s hlt)
  show run (s ^^^ 4294967295) [_, _, _, _] ^^^ 4294967295 = _
  rw [hq]
  show up (up (up (up (s ^^^ q) _) _) _) _ ^^^ q = _
  rw [four, e]
end C
end Go.Proofs.Ytfllebfegngdhaa
