/- Layer 5: u64 sums and products, what stirs, as natural numbers. -/
import Derived.Test.YtdgmbopdommnhaaNby
import Derived.Test.YtdgmbopdommnhaaMixMath
import Derived.Laws.BitsAll
namespace Go.Proofs.Ytdgmbopdommnhaa
open Go.ChangeShapes Go.WideShapes Go.ChangeAt Go.RowKit

theorem X.wrap (a f : Nat) : IntKind.u64.wrap ((a : Int) * (f : Int)) = ((a * f % 18446744073709551616 : Nat) : Int) := by
  rw [show IntKind.u64.wrap ((a : Int) * (f : Int)) = ((a : Int) * (f : Int)) % 18446744073709551616 by simp [IntKind.wrap, IntKind.bits, IntKind.signed]]
  simp
theorem X.wrapAdd (a f : Nat) : IntKind.u64.wrap ((a : Int) + (f : Int)) = (((a + f) % 18446744073709551616 : Nat) : Int) := by
  rw [show IntKind.u64.wrap ((a : Int) + (f : Int)) = ((a : Int) + (f : Int)) % 18446744073709551616 by simp [IntKind.wrap, IntKind.bits, IntKind.signed]]
  simp
theorem X.part (d x : Nat) (hx : x < 18446744073709551616) : bits .xor .u64 (x : Int) ((x : Int) / (d : Int)) = ((x ^^^ (x / d) : Nat) : Int) := by
  have := Nat.div_le_self x d
  rw [show (x : Int) / (d : Int) = ((x / d : Nat) : Int) by simp, u64_xor_nat x _ hx (by omega)]
theorem X.step (d f x : Nat) (hx : x < 18446744073709551616) : IntKind.u64.wrap (bits .xor .u64 (x : Int) ((x : Int) / (d : Int)) * (f : Int)) = ((X.one d f x : Nat) : Int) := by
  rw [X.part d x hx, X.wrap]
  rfl
theorem X.all (x : Nat) (hx : x < 18446744073709551616) (a b c f g : Int) (ha : 1073741824 = a) (hb : 134217728 = b) (hc : 2147483648 = c) (hf : 13787848793156543929 = f) (hg : 10723151780598845931 = g) :
    bits .xor .u64 (IntKind.u64.wrap (bits .xor .u64 (IntKind.u64.wrap (bits .xor .u64 (x : Int) ((x : Int) / a) * f)) (IntKind.u64.wrap (bits .xor .u64 (x : Int) ((x : Int) / a) * f) / b) * g))
      (IntKind.u64.wrap (bits .xor .u64 (IntKind.u64.wrap (bits .xor .u64 (x : Int) ((x : Int) / a) * f)) (IntKind.u64.wrap (bits .xor .u64 (x : Int) ((x : Int) / a) * f) / b) * g) / c) = ((X.stir x : Nat) : Int) := by
  obtain rfl : a = ((1073741824 : Nat) : Int) := ha.symm
  obtain rfl : b = ((134217728 : Nat) : Int) := hb.symm
  obtain rfl : c = ((2147483648 : Nat) : Int) := hc.symm
  obtain rfl : f = ((13787848793156543929 : Nat) : Int) := hf.symm
  obtain rfl : g = ((10723151780598845931 : Nat) : Int) := hg.symm
  rw [X.step _ _ x hx, X.step _ _ _ (X.one_lt _ _ _), X.part _ _ (X.one_lt _ _ _)]
  rfl

end Go.Proofs.Ytdgmbopdommnhaa
