/- The plain mathematics of layer 1: clamping, sums, products and rounded-up quotients of whole numbers. No program is named here. -/
import Derived.Below
import Derived.Test.YtdppabnhflaoeaaMem

section
namespace Go.Proofs.Ytdppabnhflaoeaa.S

def within (n lo hi : Int) : Int := if hi < n then hi else if n < lo then lo else n
def clamp (n : Int) : Int := within n (-1099511627776) 1099511627776
def add (a b : Int) : Int := clamp (clamp a + clamp b)
def sub (a b : Int) : Int := clamp (clamp a - clamp b)
def mul (a b : Int) : Int := clamp (clamp a * clamp b)
/-- The least whole number that is not below a divided by b, for b above 0. -/
def up (a b : Int) : Int := -((-a) / b)
def cdiv (a b : Int) : Int := up (clamp a) (clamp b)

theorem clamp_bd (n : Int) : -1099511627776 ≤ clamp n ∧ clamp n ≤ 1099511627776 := by
  unfold clamp within; split
  · omega
  · split <;> omega

theorem clamp_id {n : Int} (h : -1099511627776 ≤ n) (k : n ≤ 1099511627776) : clamp n = n := by
  unfold clamp within; rw [if_neg (by omega), if_neg (by omega)]

theorem clamp_hi {n : Int} (h : 1099511627776 ≤ n) : clamp n = 1099511627776 := by
  unfold clamp within; split
  · rfl
  · rw [if_neg (by omega)]; omega

theorem clamp_lo {n : Int} (h : n ≤ -1099511627776) : clamp n = -1099511627776 := by
  unfold clamp within; rw [if_neg (by omega)]; split
  · rfl
  · omega

theorem clamp_mono {a b : Int} (h : a ≤ b) : clamp a ≤ clamp b := by
  unfold clamp within; repeat' split
  all_goals omega

theorem clamp_clamp (n : Int) : clamp (clamp n) = clamp n := clamp_id (clamp_bd n).1 (clamp_bd n).2

theorem clamp_pos {n : Int} (h : 0 < n) : 0 < clamp n := by
  unfold clamp within; repeat' split
  all_goals omega

theorem clamp_neg (n : Int) : clamp (-n) = -clamp n := by
  unfold clamp within; repeat' split
  all_goals omega

theorem clamp_nonneg {n : Int} (h : 0 ≤ n) : 0 ≤ clamp n := by
  unfold clamp within; repeat' split
  all_goals omega

theorem clamp_nonpos {n : Int} (h : n ≤ 0) : clamp n ≤ 0 := by
  unfold clamp within; repeat' split
  all_goals omega

/-- A rounded-up quotient lies where it should. -/
theorem up_spec {a b : Int} (h : 0 < b) : a ≤ up a b * b ∧ up a b * b < a + b := by
  have e : up a b * b = -(b * ((-a) / b)) := by unfold up; rw [Int.neg_mul, Int.mul_comm]
  have h1 : b * ((-a) / b) + (-a) % b = -a := Int.mul_ediv_add_emod (-a) b
  have h2 := Int.emod_nonneg (-a) (show b ≠ 0 by omega)
  have h3 := Int.emod_lt_of_pos (-a) h
  generalize b * ((-a) / b) = t at *
  omega

theorem up_unique {a b q : Int} (h : 0 < b) (h1 : a ≤ q * b) (h2 : q * b < a + b) : up a b = q := by
  obtain ⟨k1, k2⟩ := up_spec (a := a) h
  generalize up a b = u at *
  have l1 : u * b < (q + 1) * b := by rw [Int.add_mul]; omega
  have l2 : q * b < (u + 1) * b := by rw [Int.add_mul]; omega
  have m1 := Int.lt_of_mul_lt_mul_right l1 (by omega)
  have m2 := Int.lt_of_mul_lt_mul_right l2 (by omega)
  omega

theorem up_mono {a c b : Int} (h : 0 < b) (hac : a ≤ c) : up a b ≤ up c b := by
  obtain ⟨k1, k2⟩ := up_spec (a := a) h
  obtain ⟨k3, k4⟩ := up_spec (a := c) h
  generalize up a b = u at *
  generalize up c b = v at *
  have l1 : u * b < (v + 1) * b := by rw [Int.add_mul]; omega
  have m1 := Int.lt_of_mul_lt_mul_right l1 (by omega)
  omega

theorem up_anti {a b c : Int} (h : 0 < b) (hbc : b ≤ c) (ha : 0 ≤ a) : up a c ≤ up a b := by
  obtain ⟨k1, k2⟩ := up_spec (a := a) h
  obtain ⟨k3, k4⟩ := up_spec (a := a) (b := c) (by omega)
  generalize up a b = u at *
  generalize up a c = v at *
  have hu : 0 ≤ u := by
    have l : (-1) * b < u * b := by omega
    have := Int.lt_of_mul_lt_mul_right l (by omega)
    omega
  have l0 : u * b ≤ u * c := Int.mul_le_mul_of_nonneg_left hbc hu
  have l1 : v * c < (u + 1) * c := by rw [Int.add_mul]; omega
  have m1 := Int.lt_of_mul_lt_mul_right l1 (by omega)
  omega

theorem up_bd {a b : Int} (h : 0 < b) (h1 : -1099511627776 ≤ a) (h2 : a ≤ 1099511627776) : -1099511627776 ≤ up a b ∧ up a b ≤ 1099511627776 := by
  obtain ⟨k1, k2⟩ := up_spec (a := a) h
  generalize up a b = u at *
  constructor
  · have l : (-1099511627776 - 1) * b < u * b := by
      have : (1099511627776 : Int) * 1 ≤ 1099511627776 * b := Int.mul_le_mul_of_nonneg_left (by omega) (by omega)
      rw [Int.sub_mul]; omega
    have := Int.lt_of_mul_lt_mul_right l (by omega)
    omega
  · have l : u * b < (1099511627776 + 1) * b := by
      have : (1099511627776 : Int) * 1 ≤ 1099511627776 * b := Int.mul_le_mul_of_nonneg_left (by omega) (by omega)
      rw [Int.add_mul]; omega
    have := Int.lt_of_mul_lt_mul_right l (by omega)
    omega

/-- Go's quotient, raised by one where something is left above 0, is the rounded-up one. -/
theorem up_tdiv_pos {a b : Int} (h : 0 < b) (hr : 0 < a.tmod b) : a.tdiv b + 1 = up a b := by
  have e := Int.mul_tdiv_add_tmod a b
  have k := Int.tmod_lt_of_pos a h
  refine (up_unique h ?_ ?_).symm
  · rw [Int.add_mul, Int.mul_comm]; omega
  · rw [Int.add_mul, Int.mul_comm]; omega

theorem neg_lt_tmod {a b : Int} (h : 0 < b) : -b < a.tmod b := by
  have k := Int.tmod_lt_of_pos (-a) h
  rw [Int.neg_tmod] at k; omega

theorem up_tdiv_neg {a b : Int} (h : 0 < b) (hr : ¬ 0 < a.tmod b) : a.tdiv b = up a b := by
  have e := Int.mul_tdiv_add_tmod a b
  have k := neg_lt_tmod (a := a) h
  refine (up_unique h ?_ ?_).symm
  · rw [Int.mul_comm]; omega
  · rw [Int.mul_comm]; omega

def mag (n : Int) : Int := if n < 0 then -n else n
theorem mag_bd {n : Int} (h0 : -1099511627776 ≤ n) (h1 : n ≤ 1099511627776) : 0 ≤ mag n ∧ mag n ≤ 1099511627776 := by
  unfold mag; split <;> omega
theorem mag_pos {n : Int} (h : n ≠ 0) : 0 < mag n := by unfold mag; split <;> omega
def prodOk (a b : Int) : Bool := decide (mag a ≤ 1099511627776 / mag b)
def prodFar (a b : Int) : Int := if decide (a < 0) != decide (b < 0) then -1099511627776 else 1099511627776

theorem mag_mul_le {a b : Int} (hb : b ≠ 0) (h : prodOk a b = true) : mag a * mag b ≤ 1099511627776 := by
  have h : mag a ≤ 1099511627776 / mag b := by simpa [prodOk] using h
  exact (Int.le_ediv_iff_mul_le (mag_pos hb)).1 h

theorem mag_mul_gt {a b : Int} (hb : b ≠ 0) (h : prodOk a b = false) : 1099511627776 < mag a * mag b := by
  have h : ¬ mag a ≤ 1099511627776 / mag b := by simpa [prodOk] using h
  rw [Int.le_ediv_iff_mul_le (mag_pos hb)] at h; omega

theorem prod_bd {a b : Int} (h : mag a * mag b ≤ 1099511627776) : -1099511627776 ≤ a * b ∧ a * b ≤ 1099511627776 := by
  unfold mag at h
  split at h <;> split at h
  · rw [Int.neg_mul_neg] at h; have := Int.mul_pos_of_neg_of_neg (a := a) (b := b) (by omega) (by omega); omega
  · rw [Int.neg_mul] at h; have := Int.mul_nonneg (a := -a) (b := b) (by omega) (by omega); rw [Int.neg_mul] at this; omega
  · rw [Int.mul_neg] at h; have := Int.mul_nonneg (a := a) (b := -b) (by omega) (by omega); rw [Int.mul_neg] at this; omega
  · have := Int.mul_nonneg (a := a) (b := b) (by omega) (by omega); omega

theorem prodFar_bd (a b : Int) : -1099511627776 ≤ prodFar a b ∧ prodFar a b ≤ 1099511627776 := by
  unfold prodFar; split <;> omega

theorem clamp_far {a b : Int} (h : 1099511627776 < mag a * mag b) : clamp (prodFar a b) = clamp (a * b) := by
  unfold mag at h; unfold prodFar
  split at h <;> split at h
  · rename_i h1 h2
    rw [Int.neg_mul_neg] at h
    rw [if_neg (by simp [h1, h2]), clamp_hi (Int.le_refl _), clamp_hi (by omega)]
  · rename_i h1 h2
    rw [Int.neg_mul] at h
    rw [if_pos (by simp [h1, h2]), clamp_lo (Int.le_refl _), clamp_lo (by omega)]
  · rename_i h1 h2
    rw [Int.mul_neg] at h
    rw [if_pos (by simp [h1, h2]), clamp_lo (Int.le_refl _), clamp_lo (by omega)]
  · rename_i h1 h2
    rw [if_neg (by simp [h1, h2]), clamp_hi (Int.le_refl _), clamp_hi (by omega)]

theorem tdiv_mul_bd {a b : Int} (h : 0 < b) (h1 : -1099511627776 ≤ a) (h2 : a ≤ 1099511627776) (h3 : b ≤ 1099511627776) : -2199023255552 ≤ a.tdiv b * b ∧ a.tdiv b * b ≤ 2199023255552 := by
  have e := Int.mul_tdiv_add_tmod a b
  have k := Int.tmod_lt_of_pos a h
  have l := neg_lt_tmod (a := a) h
  rw [Int.mul_comm] at e; omega

theorem tdiv_lt_iff {a b : Int} : a.tdiv b * b < a ↔ 0 < a.tmod b := by
  have e := Int.mul_tdiv_add_tmod a b
  rw [Int.mul_comm] at e; omega

theorem mul_near {a b A B : Int} (hA : clamp a = A) (hB : clamp b = B) (h : mag A * mag B ≤ 1099511627776) : mul a b = A * B := by
  unfold mul; rw [hA, hB]; exact clamp_id (prod_bd h).1 (prod_bd h).2

theorem mul_far {a b A B : Int} (hA : clamp a = A) (hB : clamp b = B) (h : 1099511627776 < mag A * mag B) : mul a b = prodFar A B := by
  unfold mul; rw [hA, hB, ← clamp_far h]; exact clamp_id (prodFar_bd A B).1 (prodFar_bd A B).2

theorem mag_neg {n : Int} (h : n < 0) : mag n = -n := by unfold mag; rw [if_pos h]
theorem mag_id {n : Int} (h : ¬ n < 0) : mag n = n := by unfold mag; rw [if_neg h]
end Go.Proofs.Ytdppabnhflaoeaa.S
end
