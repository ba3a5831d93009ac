/- Layer 6: a set laid open as bits: mark, wipe, has. -/
import Derived.Test.YtedcgfcmhaeldaaDotRow
import Derived.Test.YtedcgfcmhaeldaaFam
import Derived.IntWalk
import Derived.Laws.BitsAllLaws
namespace Go.Proofs.Ytedcgfcmhaeldaa
set_option linter.unusedVariables false
set_option linter.unusedSimpArgs false
open Go.ChangeShapes Go.WideShapes Go.ChangeAt Go.RowKit

def W64 : Nat := 18446744073709551616
/-- Sixteen words. -/
abbrev wcs (X : Nat → Nat) : Array Value := #[.int .u64 (X 0 : Int), .int .u64 (X 1 : Int), .int .u64 (X 2 : Int), .int .u64 (X 3 : Int), .int .u64 (X 4 : Int), .int .u64 (X 5 : Int), .int .u64 (X 6 : Int), .int .u64 (X 7 : Int),
  .int .u64 (X 8 : Int), .int .u64 (X 9 : Int), .int .u64 (X 10 : Int), .int .u64 (X 11 : Int), .int .u64 (X 12 : Int), .int .u64 (X 13 : Int), .int .u64 (X 14 : Int), .int .u64 (X 15 : Int)]
theorem wcs_at (X : Nat → Nat) {k : Nat} (hk : k < 16) : (wcs X)[k]? = some (.int .u64 (X k : Int)) := by
  rcases k with _ | _ | _ | _ | _ | _ | _ | _ | _ | _ | _ | _ | _ | _ | _ | _ | k
  all_goals first | rfl | omega
def updN (X : Nat → Nat) (k x : Nat) : Nat → Nat := fun j => if j = k then x else X j
theorem wcs_set (X : Nat → Nat) {k : Nat} (hk : k < 16) (x : Nat) : (wcs X).setIfInBounds k (.int .u64 (x : Int)) = wcs (updN X k x) := by
  rcases k with _ | _ | _ | _ | _ | _ | _ | _ | _ | _ | _ | _ | _ | _ | _ | _ | k
  all_goals first | omega | simp [updN]
/-- The words say which dots are in. -/
def Says (X : Nat → Nat) (S : D.Dot → Bool) : Prop := (∀ j, j < 16 → X j < W64) ∧ ∀ n s : Nat, n < 8 → 1 ≤ s → s ≤ 96 → (X (n * 2 + s / 64)).testBit (s % 64) = S ((n : Int), (s : Int))
/-- A set laid open at block g. -/
def Opn (w : World) (g : Nat) (S : D.Dot → Bool) : Prop := ∃ X, Blo w g 117 (wcs X) ∧ Says X S
theorem Opn.lt {w : World} {g : Nat} {S : D.Dot → Bool} (h : Opn w g S) : g < w.heap.size := by obtain ⟨X, h, _⟩ := h; exact h.lt
theorem Opn.keep {w w' : World} {g : Nat} {S : D.Dot → Bool} (h : Opn w g S) (hk : w'.heap[g]? = w.heap[g]?) : Opn w' g S := by obtain ⟨X, h, hs⟩ := h; exact ⟨X, h.keep hk, hs⟩
theorem Opn.new {w w' : World} {g : Nat} {S : D.Dot → Bool} (h : Opn w g S) (hb : Below w.heap.size w w') : Opn w' g S := h.keep (hb.block g h.lt)
/-- A dot put in, or taken out. -/
def turn (b : Bool) (S : D.Dot → Bool) (d : D.Dot) : D.Dot → Bool := fun x => if x = d then b else S x

theorem says_set {X : Nat → Nat} {S : D.Dot → Bool} {n s y : Nat} {b : Bool} (h : Says X S) (hn : n < 8) (h1 : 1 ≤ s) (h2 : s ≤ 96) (hy : y < W64) (hb : ∀ t, t < 64 → y.testBit t = if t = s % 64 then b else (X (n * 2 + s / 64)).testBit t) :
    Says (updN X (n * 2 + s / 64) y) (turn b S ((n : Int), (s : Int))) := by
  refine ⟨fun j hj => ?_, fun m t hm k1 k2 => ?_⟩
  · unfold updN
    split
    · exact hy
    · exact h.1 j hj
  · unfold turn updN
    by_cases e : m * 2 + t / 64 = n * 2 + s / 64
    · rw [if_pos e, hb _ (by omega)]
      have hmn : m = n := by omega
      by_cases e2 : t % 64 = s % 64
      · have : t = s := by omega
        subst hmn; subst this
        simp
      · rw [if_neg e2, ← e, h.2 m t hm k1 k2, if_neg]
        intro h3
        simp at h3
        omega
    · rw [if_neg e, h.2 m t hm k1 k2, if_neg]
      intro h3
      simp at h3
      obtain ⟨rfl, rfl⟩ : m = n ∧ t = s := by omega
      exact e rfl
theorem or_bit {x k : Nat} (hk : k < 64) (hx : x < W64) : (x ||| 2 ^ k) < W64 ∧ ∀ t, t < 64 → (x ||| 2 ^ k).testBit t = if t = k then true else x.testBit t := by
  have e : W64 = 2 ^ 64 := by decide
  rw [e] at *
  refine ⟨Nat.or_lt_two_pow hx (Nat.pow_lt_pow_right (by decide) hk), fun t _ => ?_⟩
  rw [Nat.testBit_or, Nat.testBit_two_pow]
  by_cases h : k = t
  · subst h; simp
  · simp [h, Ne.symm h]
theorem andNot_bit {x k : Nat} (hk : k < 64) (hx : x < W64) : (x &&& (18446744073709551615 - 2 ^ k)) < W64 ∧ ∀ t, t < 64 → (x &&& (18446744073709551615 - 2 ^ k)).testBit t = if t = k then false else x.testBit t := by
  have e : W64 = 2 ^ 64 := by decide
  rw [e] at *
  refine ⟨Nat.lt_of_le_of_lt Nat.and_le_left hx, fun t ht => ?_⟩
  have e2 : 18446744073709551615 - 2 ^ k = 2 ^ 64 - (2 ^ k + 1) := by rw [show (2 : Nat) ^ 64 = 18446744073709551616 by decide]; omega
  rw [Nat.testBit_and, e2, Nat.testBit_two_pow_sub_succ (Nat.pow_lt_pow_right (by decide) hk), Nat.testBit_two_pow]
  by_cases h : k = t
  · subst h; simp
  · simp [h, Ne.symm h, ht]
/-- The words' own arithmetic. -/
theorem u64_or_bit {x k : Nat} (hk : k < 64) (hx : x < W64) : bits .or .u64 (x : Int) ((2 ^ k : Nat) : Int) = ((x ||| 2 ^ k : Nat) : Int) := u64_or_nat x (2 ^ k) hx (by have := Nat.pow_lt_pow_right (a := 2) (by decide) hk; simpa using this)
theorem u64_not_bit {x k : Nat} (hk : k < 64) (hx : x < W64) : bits .andNot .u64 (x : Int) ((2 ^ k : Nat) : Int) = ((x &&& (18446744073709551615 - 2 ^ k) : Nat) : Int) := u64_andNot_nat x (2 ^ k) hx (by have := Nat.pow_lt_pow_right (a := 2) (by decide) hk; simpa using this)

theorem s_wrap {s : Nat} (h : s ≤ 96) : IntKind.i64.wrap ((s : Int) / 64) = (s : Int) / 64 := IntWalk.i64_in _ (by omega)
theorem s_mod (s : Nat) : ((s : Int)).tmod 64 = (s : Int) % 64 := by rw [Int.tmod_eq_emod_of_nonneg (by omega)]
theorem s_pow (s : Nat) : IntKind.u64.wrap ((2 : Int) ^ ((s : Int) % 64).toNat) = (2 : Int) ^ (s % 64) := by
  have e : ((s : Int) % 64).toNat = s % 64 := by omega
  have h : (2 : Nat) ^ (s % 64) < 18446744073709551616 := by have := Nat.pow_lt_pow_right (a := 2) (by decide) (show s % 64 < 64 by omega); simpa using this
  rw [e, show (2 : Int) ^ (s % 64) = ((2 ^ (s % 64) : Nat) : Int) by simp]
  generalize (2 : Nat) ^ (s % 64) = p at h
  simp only [IntKind.wrap, IntKind.bits, IntKind.signed]
  simp
  omega
theorem s_shr (x s : Nat) : (x : Int) / 2 ^ (s % 64) = ((x >>> (s % 64) : Nat) : Int) := by rw [Nat.shiftRight_eq_div_pow]; simp

set_option maxHeartbeats 1000000 in
theorem mark_any {g : Nat} {S : D.Dot → Bool} (n s : Nat) (w : World) (h : Opn w g S) (hn : n < 8) (h1 : 1 ≤ s) (h2 : s ≤ 96) :
    Calls Try.prog 64 #[.pointer (some ⟨g, 0, none⟩), .agg #[.int .i64 n, .int .i64 s]] w fun e w' =>
      e = .returned (.tuple #[]) ∧ Opn w' g (turn true S ((n : Int), (s : Int))) ∧ w.grownBy w' (some g) := by
  have hlt := h.lt
  obtain ⟨X, hB, hS⟩ := h
  obtain ⟨w1, hw1⟩ : ∃ W, w.alloc (.cells #[.int .i64 n, .int .i64 s] 39) = W := ⟨_, rfl⟩
  have hb1 : Below w.heap.size w w1 := by rw [← hw1]; exact b_alloc _ _
  have hD : Blo w1 w.heap.size 39 #[.int .i64 n, .int .i64 s] := by rw [← hw1]; exact Blo.made _ _ _
  have hB1 := hB.new hb1
  have K0 : ∀ W, Grows w1 W → W.cell? ⟨w.heap.size, 0, none⟩ = some (.int .i64 n) := fun W hW => by simpa using (hD.new hW).cell 0
  have K1 : ∀ W, Grows w1 W → W.cell? ⟨w.heap.size, 1, none⟩ = some (.int .i64 s) := fun W hW => by simpa using (hD.new hW).cell 1
  have KX : ∀ W, Grows w1 W → W.cell? ⟨g, n * 2 + s / 64, none⟩ = some (.int .u64 (X (n * 2 + s / 64) : Int)) := fun W hW => ((hB1.new hW).cell _).trans (wcs_at X (by omega))
  have HW := Lib.hid hw1
  have hx := hS.1 (n * 2 + s / 64) (by omega)
  have q5 : bits .or .u64 (X (n * 2 + s / 64) : Int) ((2 : Int) ^ (s % 64)) = ((X (n * 2 + s / 64) ||| 2 ^ (s % 64) : Nat) : Int) := by
    have := u64_or_bit (x := X (n * 2 + s / 64)) (k := s % 64) (by omega) hx
    simpa using this
  obtain ⟨y1, y2⟩ := or_bit (x := X (n * 2 + s / 64)) (k := s % 64) (by omega) hx
  have HS := Lib.hid (says_set (b := true) hS hn h1 h2 y1 y2)
  have nI : (n : Int) < 8 := by omega
  have sI : (s : Int) / 64 < 2 := by omega
  have q0 : (0 : Int) ≤ (s : Int) / 64 := by omega
  have q1 := s_wrap h2
  have q2 := s_mod s
  have q3 := s_pow s
  have q4 : ((s : Int) / 64).toNat = s / 64 := by omega
  generalize X (n * 2 + s / 64) ||| 2 ^ (s % 64) = Y at *
  clear hw1 y1 y2 hx hS
  go_enter Try.func64, Try.ntmps64
  go_wp2_with fail
  rw [HW.out]
  refine wp_fam (n := 20) (size := 24) (D := [4, 5, 6, 7, 8, 9, 10, 11, 12, 13, 14, 15, 16, 17, 18, 19, 20, 21, 22, 23]) [(4, isV (.pointer (some ⟨g, 0, none⟩))), (5, isV (.pointer (some ⟨w.heap.size, 0, none⟩))), (6, isV (.int .i64 n)), (7, isV (.pointer (some ⟨w.heap.size, 1, none⟩))), (8, isV (.int .i64 s)), (9, isV (.int .i64 ((s : Int) / 64))),
    (10, isV (.pointer (some ⟨g, 0, none⟩))), (11, isV (.pointer (some ⟨g, 0, none⟩))), (12, isV (.pointer (some ⟨g, n * 2, none⟩))), (13, isV (.pointer (some ⟨g, n * 2 + s / 64, none⟩))), (14, isV (.int .u64 (X (n * 2 + s / 64) : Int))), (15, isV (.pointer (some ⟨w.heap.size, 1, none⟩))), (16, isV (.int .i64 s)), (17, isV (.int .i64 ((s : Int) % 64))),
    (18, isV (.int .u64 ((2 : Int) ^ (s % 64)))), (19, isV (.int .u64 (Y : Int))), (20, isV (.pointer (some ⟨g, 0, none⟩))), (21, isV (.pointer (some ⟨g, 0, none⟩))), (22, isV (.pointer (some ⟨g, n * 2, none⟩))), (23, isV (.pointer (some ⟨g, n * 2 + s / 64, none⟩)))] (by kernel_rfl) (by rfl) (by kernel_rfl) ?_ ?_
  · simp only [List.take_succ_cons, List.take_zero, famAll]
    repeat' apply And.intro
    all_goals first
      | trivial
      | (intro f V hg hl
         have k0 := K0 V hg
         have k1 := K1 V hg
         have kx := KX V hg
         simp [Oper.looksAt, Op.operands, Call.operands, famAt, famOf, isV] at hl
         simp [famWants, boolIs_bool, boolIs_undef, execOp, rho, go_sem, hl, k0, k1, kx, q0, q1, q2, q3, q4, q5, nI, sI, famUpon, famOf, isV, Grows.refl])
  · intro u V hg hu
    have h19 : u 19 = .int .u64 (Y : Int) := hu 19 (by decide)
    have h23 : u 23 = .pointer (some ⟨g, n * 2 + s / 64, none⟩) := hu 23 (by decide)
    simp only [List.drop_succ_cons, List.drop_zero, fill, Act.put, List.setIfInBounds_toArray, List.set_cons_zero, List.set_cons_succ, h19, h23]
    have kx := KX V hg
    have hV := hB1.new hg
    have fx := hV.frozen (n * 2 + s / 64)
    have gV : w.grownBy V (some g) := gb_below (below_new hb1 hg) _
    clear hu h19 h23 K0 K1 KX q0 q1 q2 q3 q4 q5
    go_wp2
    go_end0
    refine ⟨rfl, ⟨_, ?_, HS.out⟩, gb_set gV (.inl rfl) _⟩
    have := hV.put (n * 2 + s / 64) (.int .u64 (Y : Int))
    rw [wcs_set X (by omega)] at this
    exact this

set_option maxHeartbeats 1000000 in
theorem wipe_any {g : Nat} {S : D.Dot → Bool} (n s : Nat) (w : World) (h : Opn w g S) (hn : n < 8) (h1 : 1 ≤ s) (h2 : s ≤ 96) :
    Calls Try.prog 59 #[.pointer (some ⟨g, 0, none⟩), .agg #[.int .i64 n, .int .i64 s]] w fun e w' =>
      e = .returned (.tuple #[]) ∧ Opn w' g (turn false S ((n : Int), (s : Int))) ∧ w.grownBy w' (some g) := by
  have hlt := h.lt
  obtain ⟨X, hB, hS⟩ := h
  obtain ⟨w1, hw1⟩ : ∃ W, w.alloc (.cells #[.int .i64 n, .int .i64 s] 39) = W := ⟨_, rfl⟩
  have hb1 : Below w.heap.size w w1 := by rw [← hw1]; exact b_alloc _ _
  have hD : Blo w1 w.heap.size 39 #[.int .i64 n, .int .i64 s] := by rw [← hw1]; exact Blo.made _ _ _
  have hB1 := hB.new hb1
  have K0 : ∀ W, Grows w1 W → W.cell? ⟨w.heap.size, 0, none⟩ = some (.int .i64 n) := fun W hW => by simpa using (hD.new hW).cell 0
  have K1 : ∀ W, Grows w1 W → W.cell? ⟨w.heap.size, 1, none⟩ = some (.int .i64 s) := fun W hW => by simpa using (hD.new hW).cell 1
  have KX : ∀ W, Grows w1 W → W.cell? ⟨g, n * 2 + s / 64, none⟩ = some (.int .u64 (X (n * 2 + s / 64) : Int)) := fun W hW => ((hB1.new hW).cell _).trans (wcs_at X (by omega))
  have HW := Lib.hid hw1
  have hx := hS.1 (n * 2 + s / 64) (by omega)
  have q5 : bits .andNot .u64 (X (n * 2 + s / 64) : Int) ((2 : Int) ^ (s % 64)) = ((X (n * 2 + s / 64) &&& (18446744073709551615 - 2 ^ (s % 64)) : Nat) : Int) := by
    have := u64_not_bit (x := X (n * 2 + s / 64)) (k := s % 64) (by omega) hx
    simpa using this
  obtain ⟨y1, y2⟩ := andNot_bit (x := X (n * 2 + s / 64)) (k := s % 64) (by omega) hx
  have HS := Lib.hid (says_set (b := false) hS hn h1 h2 y1 y2)
  have nI : (n : Int) < 8 := by omega
  have sI : (s : Int) / 64 < 2 := by omega
  have q0 : (0 : Int) ≤ (s : Int) / 64 := by omega
  have q1 := s_wrap h2
  have q2 := s_mod s
  have q3 := s_pow s
  have q4 : ((s : Int) / 64).toNat = s / 64 := by omega
  generalize X (n * 2 + s / 64) &&& (18446744073709551615 - 2 ^ (s % 64)) = Y at *
  clear hw1 y1 y2 hx hS
  go_enter Try.func59, Try.ntmps59
  go_wp2_with fail
  rw [HW.out]
  refine wp_fam (n := 20) (size := 24) (D := [4, 5, 6, 7, 8, 9, 10, 11, 12, 13, 14, 15, 16, 17, 18, 19, 20, 21, 22, 23]) [(4, isV (.pointer (some ⟨g, 0, none⟩))), (5, isV (.pointer (some ⟨w.heap.size, 0, none⟩))), (6, isV (.int .i64 n)), (7, isV (.pointer (some ⟨w.heap.size, 1, none⟩))), (8, isV (.int .i64 s)), (9, isV (.int .i64 ((s : Int) / 64))),
    (10, isV (.pointer (some ⟨g, 0, none⟩))), (11, isV (.pointer (some ⟨g, 0, none⟩))), (12, isV (.pointer (some ⟨g, n * 2, none⟩))), (13, isV (.pointer (some ⟨g, n * 2 + s / 64, none⟩))), (14, isV (.int .u64 (X (n * 2 + s / 64) : Int))), (15, isV (.pointer (some ⟨w.heap.size, 1, none⟩))), (16, isV (.int .i64 s)), (17, isV (.int .i64 ((s : Int) % 64))),
    (18, isV (.int .u64 ((2 : Int) ^ (s % 64)))), (19, isV (.int .u64 (Y : Int))), (20, isV (.pointer (some ⟨g, 0, none⟩))), (21, isV (.pointer (some ⟨g, 0, none⟩))), (22, isV (.pointer (some ⟨g, n * 2, none⟩))), (23, isV (.pointer (some ⟨g, n * 2 + s / 64, none⟩)))] (by kernel_rfl) (by rfl) (by kernel_rfl) ?_ ?_
  · simp only [List.take_succ_cons, List.take_zero, famAll]
    repeat' apply And.intro
    all_goals first
      | trivial
      | (intro f V hg hl
         have k0 := K0 V hg
         have k1 := K1 V hg
         have kx := KX V hg
         simp [Oper.looksAt, Op.operands, Call.operands, famAt, famOf, isV] at hl
         simp [famWants, boolIs_bool, boolIs_undef, execOp, rho, go_sem, hl, k0, k1, kx, q0, q1, q2, q3, q4, q5, nI, sI, famUpon, famOf, isV, Grows.refl])
  · intro u V hg hu
    have h19 : u 19 = .int .u64 (Y : Int) := hu 19 (by decide)
    have h23 : u 23 = .pointer (some ⟨g, n * 2 + s / 64, none⟩) := hu 23 (by decide)
    simp only [List.drop_succ_cons, List.drop_zero, fill, Act.put, List.setIfInBounds_toArray, List.set_cons_zero, List.set_cons_succ, h19, h23]
    have kx := KX V hg
    have hV := hB1.new hg
    have fx := hV.frozen (n * 2 + s / 64)
    have gV : w.grownBy V (some g) := gb_below (below_new hb1 hg) _
    clear hu h19 h23 K0 K1 KX q0 q1 q2 q3 q4 q5
    go_wp2
    go_end0
    refine ⟨rfl, ⟨_, ?_, HS.out⟩, gb_set gV (.inl rfl) _⟩
    have := hV.put (n * 2 + s / 64) (.int .u64 (Y : Int))
    rw [wcs_set X (by omega)] at this
    exact this

theorem bit_one (x k : Nat) : (((x >>> k) &&& 1 : Nat) : Int) = if x.testBit k then 1 else 0 := by
  have h : x.testBit k = decide (1 &&& (x >>> k) ≠ 0) := by simp [Nat.testBit]
  rw [h, Nat.and_comm, Nat.one_and_eq_mod_two]
  rcases Nat.mod_two_eq_zero_or_one (x >>> k) with e | e <;> simp [e]
theorem u64_bit {x k : Nat} (hx : x < W64) : bits .and .u64 ((x >>> k : Nat) : Int) 1 = if x.testBit k then 1 else 0 := by
  rw [← bit_one]
  exact u64_and_nat (x >>> k) 1 (Nat.lt_of_le_of_lt (Nat.shiftRight_le x k) hx) (by decide)

set_option maxHeartbeats 1000000 in
theorem ohas_any {g : Nat} {S : D.Dot → Bool} (n s : Nat) (w : World) (h : Opn w g S) (hn : n < 8) (h1 : 1 ≤ s) (h2 : s ≤ 96) :
    Calls Try.prog 80 #[.pointer (some ⟨g, 0, none⟩), .agg #[.int .i64 n, .int .i64 s]] w fun e w' => e = .returned (.bool (S ((n : Int), (s : Int)))) ∧ Below w.heap.size w w' := by
  have hlt := h.lt
  obtain ⟨X, hB, hS⟩ := h
  obtain ⟨w1, hw1⟩ : ∃ W, w.alloc (.cells #[.int .i64 n, .int .i64 s] 39) = W := ⟨_, rfl⟩
  have hb1 : Below w.heap.size w w1 := by rw [← hw1]; exact b_alloc _ _
  have hD : Blo w1 w.heap.size 39 #[.int .i64 n, .int .i64 s] := by rw [← hw1]; exact Blo.made _ _ _
  have hB1 := hB.new hb1
  have K0 : ∀ W, Grows w1 W → W.cell? ⟨w.heap.size, 0, none⟩ = some (.int .i64 n) := fun W hW => by simpa using (hD.new hW).cell 0
  have K1 : ∀ W, Grows w1 W → W.cell? ⟨w.heap.size, 1, none⟩ = some (.int .i64 s) := fun W hW => by simpa using (hD.new hW).cell 1
  have KX : ∀ W, Grows w1 W → W.cell? ⟨g, n * 2 + s / 64, none⟩ = some (.int .u64 (X (n * 2 + s / 64) : Int)) := fun W hW => ((hB1.new hW).cell _).trans (wcs_at X (by omega))
  have HW := Lib.hid hw1
  have hx := hS.1 (n * 2 + s / 64) (by omega)
  have hbit := hS.2 n s hn h1 h2
  obtain ⟨b, hb⟩ : ∃ b, b = S ((n : Int), (s : Int)) := ⟨_, rfl⟩
  rw [← hb] at hbit ⊢
  have q5 : bits .and .u64 ((X (n * 2 + s / 64) >>> (s % 64) : Nat) : Int) 1 = if b then 1 else 0 := by rw [u64_bit hx, hbit]
  have q6 := s_shr (X (n * 2 + s / 64)) s
  generalize X (n * 2 + s / 64) >>> (s % 64) = Y at *
  have nI : (n : Int) < 8 := by omega
  have sI : (s : Int) / 64 < 2 := by omega
  have q0 : (0 : Int) ≤ (s : Int) / 64 := by omega
  have q1 := s_wrap h2
  have q2 := s_mod s
  have q4 : ((s : Int) / 64).toNat = s / 64 := by omega
  have q7 : ((s : Int) % 64).toNat = s % 64 := by omega
  clear hw1 hx hS hbit hb
  go_enter Try.func80, Try.ntmps80
  go_wp2_with fail
  rw [HW.out]
  refine wp_fam (n := 17) (size := 22) (D := [5, 6, 7, 8, 9, 10, 11, 12, 13, 14, 15, 16, 17, 18, 19, 20, 21]) [(5, isV (.pointer (some ⟨g, 0, none⟩))), (6, isV (.pointer (some ⟨w.heap.size, 0, none⟩))), (7, isV (.int .i64 n)), (8, isV (.pointer (some ⟨w.heap.size, 1, none⟩))), (9, isV (.int .i64 s)), (10, isV (.int .i64 ((s : Int) / 64))),
    (11, isV (.pointer (some ⟨g, 0, none⟩))), (12, isV (.pointer (some ⟨g, 0, none⟩))), (13, isV (.pointer (some ⟨g, n * 2, none⟩))), (14, isV (.pointer (some ⟨g, n * 2 + s / 64, none⟩))), (15, isV (.int .u64 (X (n * 2 + s / 64) : Int))), (16, isV (.pointer (some ⟨w.heap.size, 1, none⟩))), (17, isV (.int .i64 s)), (18, isV (.int .i64 ((s : Int) % 64))),
    (19, isV (.int .u64 (Y : Int))), (20, isV (.int .u64 (if b then 1 else 0))), (21, isV (.bool b))] (by kernel_rfl) (by rfl) (by kernel_rfl) ?_ ?_
  · simp only [List.take_succ_cons, List.take_zero, famAll]
    repeat' apply And.intro
    all_goals first
      | trivial
      | (intro f V hg hl
         have k0 := K0 V hg
         have k1 := K1 V hg
         have kx := KX V hg
         simp [Oper.looksAt, Op.operands, Call.operands, famAt, famOf, isV] at hl
         simp [famWants, boolIs_bool, boolIs_undef, execOp, rho, go_sem, hl, k0, k1, kx, q0, q1, q2, q4, q5, q6, q7, nI, sI, famUpon, famOf, isV, Grows.refl]
         try (cases b <;> simp [Grows.refl]))
  · intro u V hg hu
    have h21 : u 21 = .bool b := hu 21 (by decide)
    simp only [List.drop_succ_cons, List.drop_zero, fill, Act.put, List.setIfInBounds_toArray, List.set_cons_zero, List.set_cons_succ, h21]
    clear hu h21 K0 K1 KX q0 q1 q2 q4 q5 q6 q7
    go_wp2
    go_ret
    exact ⟨rfl, below_new hb1 hg⟩
end Go.Proofs.Ytedcgfcmhaeldaa
