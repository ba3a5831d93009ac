/- Layer 5 (mix): the mathematics, in natural numbers. -/
import Derived.Test.YtdgmbopdommnhaaRows
namespace Go.Proofs.Ytdgmbopdommnhaa

namespace X
/-- A number changed by itself shifted (d is two to the power of the shift), times a factor. -/
def one (d f x : Nat) : Nat := ((x ^^^ (x / d)) * f) % 18446744073709551616
/-- Stirred. -/
def stir (x : Nat) : Nat :=
  let y := one 134217728 10723151780598845931 (one 1073741824 13787848793156543929 x)
  y ^^^ (y / 2147483648)
/-- A byte more. -/
def up (x c : Nat) : Nat := ((x ^^^ c) * 1099511628211) % 18446744073709551616
/-- Bytes more. -/
def run (x : Nat) : List Nat → Nat
  | [] => x
  | c :: l => run (up x c) l
def hash (l : List Nat) : Nat := stir (run 14695981039346656037 l)
/-- So many bytes of a number, the lowest first. -/
def low : Nat → Nat → List Nat
  | 0, _ => []
  | n + 1, x => x % 256 :: low n (x / 256)
/-- A number modulo 2^64. -/
def un (n : Int) : Nat := (n % 18446744073709551616).toNat
def weight (node work : Int) (salt : Nat) : Nat := hash (low 8 (un node) ++ low 8 (un work) ++ low 8 salt)
def next (s : Nat) : Nat := (s + 11400714819323198485) % 18446744073709551616
def draw (s : Nat) (n : Int) : Nat := if n ≤ 0 then 0 else stir (next s) % n.toNat

theorem xor_lt {a b : Nat} (ha : a < 18446744073709551616) (hb : b < 18446744073709551616) : a ^^^ b < 18446744073709551616 := Nat.xor_lt_two_pow (n := 64) ha hb
theorem one_lt (d f x : Nat) : one d f x < 18446744073709551616 := Nat.mod_lt _ (by omega)
theorem stir_lt (x : Nat) : stir x < 18446744073709551616 := xor_lt (one_lt _ _ _) (by have := one_lt 134217728 10723151780598845931 (one 1073741824 13787848793156543929 x); omega)
theorem up_lt (x c : Nat) : up x c < 18446744073709551616 := Nat.mod_lt _ (by omega)
theorem next_lt (s : Nat) : next s < 18446744073709551616 := Nat.mod_lt _ (by omega)
theorem hash_lt (l : List Nat) : hash l < 18446744073709551616 := stir_lt _
theorem run_more {l : List Nat} {i s r : Nat} (hi : i < l.length) (H : run s l = run r (l.drop i)) : run s l = run (up r l[i]) (l.drop (i + 1)) := by
  rw [H, List.drop_eq_getElem_cons hi]; rfl
theorem run_end {l : List Nat} {i s r : Nat} (hi : ¬ i < l.length) (H : run s l = run r (l.drop i)) : run s l = r := by
  rw [H, List.drop_eq_nil_of_le (by omega)]; rfl
theorem low_len (n : Nat) : ∀ x : Nat, (low n x).length = n := by
  induction n with
  | zero => intro x; rfl
  | succ n ih => intro x; simp [low, ih]
theorem low_small (n : Nat) : ∀ x : Nat, ∀ c ∈ low n x, c < 256 := by
  induction n with
  | zero => intro x c hc; simp [low] at hc
  | succ n ih =>
    intro x c hc
    rcases List.mem_cons.1 hc with rfl | hc
    · omega
    · exact ih _ c hc
theorem un_lt (n : Int) : un n < 18446744073709551616 := by unfold un; omega
theorem low_more {l : List Nat} {i m : Nat} (hi : i < 8) {pre : List Nat} (H : l = pre ++ low (8 - i) m) : l = (pre ++ [m % 256]) ++ low (8 - (i + 1)) (m / 256) := by
  rw [H, show 8 - i = (8 - (i + 1)) + 1 by omega]; simp [low]
theorem draw_lt (s : Nat) (n : Int) (h : 0 < n) : (draw s n : Int) < n := by
  unfold draw
  rw [if_neg (by omega)]
  have := Nat.mod_lt (stir (next s)) (y := n.toNat) (by omega)
  omega
end X
end Go.Proofs.Ytdgmbopdommnhaa
