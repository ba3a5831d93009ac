/- Layer 12, the program's: the comparison of two nodes by what they weigh, the heavier first. -/
import Derived.Test.YtdgmbopdommnhaaSiMem
import Derived.Test.YtdgmbopdommnhaaRnkMath
import Derived.Test.YtdgmbopdommnhaaMixTP
import Derived.Test.YtdgmbopdommnhaaFam
namespace Go.Proofs.Ytdgmbopdommnhaa.Rk
set_option linter.unusedVariables false
set_option linter.unusedSimpArgs false
open Go.ChangeShapes Go.WideShapes Go.ChangeAt Go.RowKit

/-- What the comparison has captured: the variable that holds the weight's function, and what that has captured: the workload, the salt. -/
structure Cap where
  b : Nat
  gk : Nat
  gs : Nat
  n : Nat
  k : Int
  s : Nat
  hs : s < 18446744073709551616
def Cap.off (p : Cap) (g : Nat) : Prop := p.b ≠ g ∧ p.gk ≠ g ∧ p.gs ≠ g
/-- How much a node weighs. -/
def Cap.wg (p : Cap) (x : Fin p.n) : Nat := R.wgt p.k p.s x.val
/-- What is ahead of what. -/
def ltI (p : Cap) (x y : Fin p.n) : Bool := R.lt p.k p.s x.val y.val
theorem ordI (p : Cap) : P.Ord (ltI p) := ⟨fun a => (R.ord p.k p.s).irr _, fun a b => (R.ord p.k p.s).asym _ _, fun a b c => (R.ord p.k p.s).neg _ _ _⟩
/-- What a comparison comes to. -/
def cmpI (p : Cap) (x y : Fin p.n) : Int := if (p.wg y : Int) < (p.wg x : Int) then -1 else if (p.wg x : Int) < (p.wg y : Int) then 1 else 0
theorem cmpI_neg (p : Cap) (x y : Fin p.n) : decide (cmpI p x y < 0) = ltI p x y := by
  unfold cmpI ltI R.lt Cap.wg
  by_cases h : R.wgt p.k p.s y.val < R.wgt p.k p.s x.val
  · have h' : ((R.wgt p.k p.s y.val : Nat) : Int) < (R.wgt p.k p.s x.val : Nat) := by omega
    simp [h, h']
  · have h' : ¬ ((R.wgt p.k p.s y.val : Nat) : Int) < (R.wgt p.k p.s x.val : Nat) := by omega
    by_cases k : ((R.wgt p.k p.s x.val : Nat) : Int) < (R.wgt p.k p.s y.val : Nat) <;> simp [h, h', k]
/-- The weight's function. -/
abbrev wgV (p : Cap) : Value := .func (.func 16) #[] #[.pointer (some ⟨p.gk, 0, none⟩), .pointer (some ⟨p.gs, 0, none⟩)]
def CmpAt (w : World) (p : Cap) : Prop := Blo w p.b 45 #[wgV p] ∧ Blo w p.gk 3 #[.int .i64 p.k] ∧ Blo w p.gs 23 #[.int .u64 (p.s : Int)]
theorem CmpAt.new {w w' : World} {p : Cap} (h : CmpAt w p) (hb : Grows w w') : CmpAt w' p := ⟨Blo.new h.1 hb, Blo.new h.2.1 hb, Blo.new h.2.2 hb⟩
theorem CmpAt.gb {w w' : World} {p : Cap} {g : Nat} (h : CmpAt w p) (hb : w.grownBy w' (some g)) (hg : p.off g) : CmpAt w' p :=
  ⟨Blo.grown h.1 hb (fun e => hg.1 (by injection e)), Blo.grown h.2.1 hb (fun e => hg.2.1 (by injection e)), Blo.grown h.2.2 hb (fun e => hg.2.2 (by injection e))⟩
abbrev cmpV (p : Cap) : Value := .func (.func 21) #[] #[.pointer (some ⟨p.b, 0, none⟩)]

set_option maxRecDepth 100000 in
theorem isnan_any (x : Int) (w : World) : Calls Try.prog 28 #[.int .u64 x] w fun e w' => e = .returned (.bool false) ∧ w = w' := by
  have h1 : (x != x) = false := by simp
  go_enter Try.func28, Try.ntmps28
  go_wp2
  go_ret
  exact ⟨rfl, rfl⟩
set_option maxRecDepth 100000 in
set_option maxHeartbeats 2000000 in
theorem compare_any (x y : Int) (w : World) : Calls Try.prog 22 #[.int .u64 x, .int .u64 y] w fun e w' => e = .returned (.int .i64 (if x < y then -1 else if y < x then 1 else 0)) ∧ w = w' := by
  have h1 := isnan_any x w
  have h2 := isnan_any y w
  by_cases a : x < y
  · have HC : Hid ((if x < y then (-1 : Int) else if y < x then 1 else 0) = -1) := Lib.hid (by rw [if_pos a])
    rw [HC.out]
    go_enter Try.func22, Try.ntmps22
    go_wp2_with fail
    refine h1.mono ?_
    rintro e w1 ⟨rfl, rfl⟩
    go_wp2_with fail
    refine h2.mono ?_
    rintro e w1 ⟨rfl, rfl⟩
    go_wp2
    go_ret
    exact ⟨rfl, rfl⟩
  · by_cases b : y < x
    · have HC : Hid ((if x < y then (-1 : Int) else if y < x then 1 else 0) = 1) := Lib.hid (by rw [if_neg a, if_pos b])
      rw [HC.out]
      go_enter Try.func22, Try.ntmps22
      go_wp2_with fail
      refine h1.mono ?_
      rintro e w1 ⟨rfl, rfl⟩
      go_wp2_with fail
      refine h2.mono ?_
      rintro e w1 ⟨rfl, rfl⟩
      go_wp2
      go_ret
      exact ⟨rfl, rfl⟩
    · have HC : Hid ((if x < y then (-1 : Int) else if y < x then 1 else 0) = 0) := Lib.hid (by rw [if_neg a, if_neg b])
      rw [HC.out]
      go_enter Try.func22, Try.ntmps22
      go_wp2_with fail
      refine h1.mono ?_
      rintro e w1 ⟨rfl, rfl⟩
      go_wp2_with fail
      refine h2.mono ?_
      rintro e w1 ⟨rfl, rfl⟩
      go_wp2
      go_ret
      exact ⟨rfl, rfl⟩
set_option maxRecDepth 100000 in
set_option maxHeartbeats 4000000 in
theorem weigh_any (p : Cap) (x : Int) (w : World) (hp : CmpAt w p) : Calls Try.prog 16 #[.int .i64 x, .pointer (some ⟨p.gk, 0, none⟩), .pointer (some ⟨p.gs, 0, none⟩)] w fun e w' => e = .returned (.int .u64 ((X.weight x p.k p.s : Nat) : Int)) ∧ Below w.heap.size w w' := by
  obtain ⟨_, h1, h2⟩ := hp
  have HW := Lib.hid (fun W => weight_any x p.k p.s W p.hs)
  have c1 := h1.cell 0
  have c2 := h2.cell 0
  simp at c1 c2
  generalize X.weight x p.k p.s = q at *
  generalize p.k = k at *
  generalize p.s = s at *
  generalize p.gk = a at *
  generalize p.gs = b at *
  go_enter Try.func16, Try.ntmps16
  go_wp2_with fail
  refine (HW.out _).mono ?_
  rintro e w1 ⟨rfl, hb⟩
  go_wp2
  go_ret
  exact ⟨rfl, hb⟩
set_option maxRecDepth 100000 in
set_option maxHeartbeats 4000000 in
theorem by1_any (p : Cap) (x y : Fin p.n) (w : World) (hp : CmpAt w p) : Calls Try.prog 21 #[vI x, vI y, .pointer (some ⟨p.b, 0, none⟩)] w fun e w' => e = .returned (.int .i64 (cmpI p x y)) ∧ Below w.heap.size w w' := by
  have HC0 : Hid (∀ W, Grows w W → W.cell? ⟨p.b, 0, none⟩ = some (wgV p)) := Lib.hid (fun W h => by have := (hp.new h).1.cell 0; simpa using this)
  have HX : Hid (∀ W, Grows w W → Calls Try.prog 16 #[vI x, .pointer (some ⟨p.gk, 0, none⟩), .pointer (some ⟨p.gs, 0, none⟩)] W fun e w' => e = .returned (.int .u64 (p.wg x : Int)) ∧ Below W.heap.size W w') := Lib.hid (fun W h => weigh_any p _ W (hp.new h))
  have HY : Hid (∀ W, Grows w W → Calls Try.prog 16 #[vI y, .pointer (some ⟨p.gk, 0, none⟩), .pointer (some ⟨p.gs, 0, none⟩)] W fun e w' => e = .returned (.int .u64 (p.wg y : Int)) ∧ Below W.heap.size W w') := Lib.hid (fun W h => weigh_any p _ W (hp.new h))
  have HC : Hid (∀ W, Calls Try.prog 22 #[.int .u64 (p.wg y : Int), .int .u64 (p.wg x : Int)] W fun e w' => e = .returned (.int .i64 (cmpI p x y)) ∧ W = w') := Lib.hid (fun W => compare_any _ _ W)
  clear hp
  unfold vI wgV at *
  generalize (p.wg x : Int) = a at *
  generalize (p.wg y : Int) = b at *
  generalize cmpI p x y = z at *
  generalize ((x.val : Nat) : Int) = i at *
  generalize ((y.val : Nat) : Int) = j at *
  generalize p.b = q at *
  generalize p.gk = gk at *
  generalize p.gs = gs at *
  go_enter Try.func21, Try.ntmps21
  go_wp2_with fail
  refine wp_fam (n := 7) (size := 13) (D := [6, 7, 8, 9, 10, 11, 12]) [(6, isV (.func (.func 16) #[] #[.pointer (some ⟨gk, 0, none⟩), .pointer (some ⟨gs, 0, none⟩)])), (7, isV (.int .i64 j)), (8, isV (.int .u64 b)), (9, isV (.func (.func 16) #[] #[.pointer (some ⟨gk, 0, none⟩), .pointer (some ⟨gs, 0, none⟩)])), (10, isV (.int .i64 i)), (11, isV (.int .u64 a)), (12, isV (.int .i64 z))] (by kernel_rfl) (by rfl) (by kernel_rfl) ?_ ?_
  · simp only [List.take_succ_cons, List.take_zero, famAll]
    repeat' apply And.intro
    · intro f V hg hl
      simp [Oper.looksAt, Op.operands, Call.operands, famAt, famOf, isV] at hl
      have hc := HC0.out V hg
      simp [famWants, boolIs_bool, boolIs_undef, execOp, rho, go_sem, hl, hc, famUpon, famOf, isV, Grows.refl]
    · intro f V hg hl
      simp [Oper.looksAt, Op.operands, Call.operands, famAt, famOf, isV] at hl
      simp [famWants, boolIs_bool, boolIs_undef, execOp, rho, go_sem, hl, famUpon, famOf, isV, Grows.refl]
    · intro f V hg hl
      simp [Oper.looksAt, Op.operands, Call.operands, famAt, famOf, isV] at hl
      simp [famWants, boolIs_bool, boolIs_undef, execOp, rho, go_sem, hl, famUpon, famOf, isV, Grows.refl]
      refine (HY.out V hg).mono ?_
      rintro e w'' ⟨rfl, hb'⟩
      exact ⟨rfl, hb'⟩
    · intro f V hg hl
      simp [Oper.looksAt, Op.operands, Call.operands, famAt, famOf, isV] at hl
      have hc := HC0.out V hg
      simp [famWants, boolIs_bool, boolIs_undef, execOp, rho, go_sem, hl, hc, famUpon, famOf, isV, Grows.refl]
    · intro f V hg hl
      simp [Oper.looksAt, Op.operands, Call.operands, famAt, famOf, isV] at hl
      simp [famWants, boolIs_bool, boolIs_undef, execOp, rho, go_sem, hl, famUpon, famOf, isV, Grows.refl]
    · intro f V hg hl
      simp [Oper.looksAt, Op.operands, Call.operands, famAt, famOf, isV] at hl
      simp [famWants, boolIs_bool, boolIs_undef, execOp, rho, go_sem, hl, famUpon, famOf, isV, Grows.refl]
      refine (HX.out V hg).mono ?_
      rintro e w'' ⟨rfl, hb'⟩
      exact ⟨rfl, hb'⟩
    · intro f V hg hl
      simp [Oper.looksAt, Op.operands, Call.operands, famAt, famOf, isV] at hl
      simp [famWants, boolIs_bool, boolIs_undef, execOp, rho, go_sem, hl, famUpon, famOf, isV, Grows.refl]
      refine (HC.out V).mono ?_
      rintro e w'' ⟨rfl, rfl⟩
      exact ⟨rfl, Below.refl _ _⟩
    · trivial
  · intro u V hgV hu
    have e12 : u 12 = .int .i64 z := hu 12 (by decide)
    simp only [List.drop_succ_cons, List.drop_zero, fill, Act.put, List.setIfInBounds_toArray, List.set_cons_zero, List.set_cons_succ, e12]
    clear hu HX HY HC HC0 e12
    go_wp2
    go_ret
    exact ⟨rfl, hgV⟩
end Go.Proofs.Ytdgmbopdommnhaa.Rk
