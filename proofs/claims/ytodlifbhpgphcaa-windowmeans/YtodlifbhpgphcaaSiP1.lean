/- Layer 10, the program's: the comparison of two places by the numbers of the events that stand there, the greater first. -/
import Derived.Test.YtodlifbhpgphcaaSiMem
import Derived.Test.YtodlifbhpgphcaaWinMath
import Derived.Test.YtodlifbhpgphcaaFam
namespace Go.Proofs.Ytodlifbhpgphcaa
set_option linter.unusedVariables false
set_option linter.unusedSimpArgs false
open Go.ChangeShapes Go.WideShapes Go.ChangeAt Go.RowKit

/-- What the comparison has captured: the variable that holds the events, and how these lie. -/
structure Cap where
  b : Nat
  T : Nat → Prop
  A : Option Addr
  n : Nat
  c : Nat
  l : List EvV
  hn : l.length = n
def Cap.off (p : Cap) (g : Nat) : Prop := p.b ≠ g ∧ ¬ p.T g
def Cap.ev (p : Cap) (x : Fin p.n) : EvV := p.l[x.val]'(by rw [p.hn]; exact x.isLt)
/-- What is ahead of what. -/
def ltI (p : Cap) (x y : Fin p.n) : Bool := ltQ (p.ev x) (p.ev y)
theorem ordI (p : Cap) : P.Ord (ltI p) := ⟨fun a => ordQ.irr _, fun a b => ordQ.asym _ _, fun a b c => ordQ.neg _ _ _⟩
/-- What a comparison comes to. -/
def cmpI (p : Cap) (x y : Fin p.n) : Int := if (p.ev y).F 1 < (p.ev x).F 1 then -1 else if (p.ev x).F 1 < (p.ev y).F 1 then 1 else 0
theorem cmpI_neg (p : Cap) (x y : Fin p.n) : decide (cmpI p x y < 0) = ltI p x y := by
  unfold cmpI ltI ltQ
  by_cases h : (p.ev y).F 1 < (p.ev x).F 1
  · simp [h]
  · by_cases k : (p.ev x).F 1 < (p.ev y).F 1 <;> simp [h, k]
def CmpAt (w : World) (p : Cap) : Prop := Blo w p.b 22 #[.slice p.A p.n p.c] ∧ ERds w p.T p.A p.l
theorem CmpAt.new {w w' : World} {p : Cap} (h : CmpAt w p) (hb : Grows w w') : CmpAt w' p := ⟨Blo.new h.1 hb, h.2.new hb⟩
theorem CmpAt.gb {w w' : World} {p : Cap} {g : Nat} (h : CmpAt w p) (hb : w.grownBy w' (some g)) (hg : p.off g) : CmpAt w' p :=
  ⟨Blo.grown h.1 hb (fun e => hg.1 (by injection e)), ⟨h.2.1.grown hb (fun b hb _ e => hg.2 (by injection e with e; exact e ▸ hb)), fun e he => (h.2.2 e he).grown hb (fun b hb _ e => hg.2 (by injection e with e; exact e ▸ hb))⟩⟩
abbrev cmpV (p : Cap) : Value := .func (.func 30) #[] #[.pointer (some ⟨p.b, 0, none⟩)]

set_option maxRecDepth 100000 in
theorem isnan_any (x : Int) (w : World) : Calls Try.prog 38 #[.int .i64 x] w fun e w' => e = .returned (.bool false) ∧ w = w' := by
  have h1 : (x != x) = false := by simp
  go_enter Try.func38, Try.ntmps38
  go_wp2
  go_ret
  exact ⟨rfl, rfl⟩
set_option maxRecDepth 100000 in
set_option maxHeartbeats 2000000 in
theorem compare_any (x y : Int) (w : World) : Calls Try.prog 31 #[.int .i64 x, .int .i64 y] w fun e w' => e = .returned (.int .i64 (if x < y then -1 else if y < x then 1 else 0)) ∧ w = w' := by
  have h1 := isnan_any x w
  have h2 := isnan_any y w
  by_cases a : x < y
  · have HC : Hid ((if x < y then (-1 : Int) else if y < x then 1 else 0) = -1) := Lib.hid (by rw [if_pos a])
    rw [HC.out]
    go_enter Try.func31, Try.ntmps31
    go_wp2_with fail
    refine h1.mono ?_
    rintro e w1 ⟨rfl, rfl⟩
    go_wp2_with fail
    refine h2.mono ?_
    rintro e w1 ⟨rfl, rfl⟩
    go_wp2
    go_ret
    exact ⟨rfl, rfl⟩
  · by_cases b : y < x
    · have HC : Hid ((if x < y then (-1 : Int) else if y < x then 1 else 0) = 1) := Lib.hid (by rw [if_neg a, if_pos b])
      rw [HC.out]
      go_enter Try.func31, Try.ntmps31
      go_wp2_with fail
      refine h1.mono ?_
      rintro e w1 ⟨rfl, rfl⟩
      go_wp2_with fail
      refine h2.mono ?_
      rintro e w1 ⟨rfl, rfl⟩
      go_wp2
      go_ret
      exact ⟨rfl, rfl⟩
    · have HC : Hid ((if x < y then (-1 : Int) else if y < x then 1 else 0) = 0) := Lib.hid (by rw [if_neg a, if_neg b])
      rw [HC.out]
      go_enter Try.func31, Try.ntmps31
      go_wp2_with fail
      refine h1.mono ?_
      rintro e w1 ⟨rfl, rfl⟩
      go_wp2_with fail
      refine h2.mono ?_
      rintro e w1 ⟨rfl, rfl⟩
      go_wp2
      go_ret
      exact ⟨rfl, rfl⟩
set_option maxRecDepth 100000 in
set_option maxHeartbeats 4000000 in
theorem by1_any (p : Cap) (x y : Fin p.n) (w : World) (hp : CmpAt w p) : Calls Try.prog 30 #[vI x, vI y, .pointer (some ⟨p.b, 0, none⟩)] w fun e w' => e = .returned (.int .i64 (cmpI p x y)) ∧ Below w.heap.size w w' := by
  obtain ⟨h0, hr⟩ := hp
  have hx : x.val < p.l.length := by rw [p.hn]; exact x.isLt
  have hy : y.val < p.l.length := by rw [p.hn]; exact y.isLt
  obtain ⟨ad, hA, _, _, x0, x1, _⟩ := hr.cells hx
  obtain ⟨ad', hA', _, _, y0, y1, _⟩ := hr.cells hy
  rw [hA] at hA'
  injection hA' with hA'
  subst hA'
  have hc := fun W => compare_any ((p.ev y).F 1) ((p.ev x).F 1) W
  have hq : (if (p.ev y).F 1 < (p.ev x).F 1 then (-1 : Int) else if (p.ev x).F 1 < (p.ev y).F 1 then 1 else 0) = cmpI p x y := rfl
  rw [hq] at hc
  clear hq
  have e1 : p.l[x.val] = p.ev x := rfl
  have e2 : p.l[y.val] = p.ev y := rfl
  rw [e1] at x1
  rw [e2] at y1
  clear e1 e2 x0 y0 hr
  have hcl := h0.cell 0
  rw [hA] at hcl
  simp at hcl
  have hxn := x.isLt
  have hyn := y.isLt
  unfold vI
  generalize (p.ev x).F 1 = a at *
  generalize (p.ev y).F 1 = b at *
  generalize cmpI p x y = z at *
  generalize x.val = i at *
  generalize y.val = j at *
  generalize p.b = q at *
  generalize p.n = n at *
  have HC := Lib.hid hc
  clear hc hA h0
  go_enter Try.func30, Try.ntmps30
  go_wp2_with fail
  go_quiet (first | (go_at_call 31; exact quiet_same (HC.out _)))
  go_wp2
  go_ret
  exact ⟨rfl, below_drewN (Below.refl _ _) _⟩
end Go.Proofs.Ytodlifbhpgphcaa
