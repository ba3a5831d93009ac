/- The plain mathematics of layer 11: how many replicas there should be next. No program is named here. -/
import Derived.Test.YtdppabnhflaoeaaPolMore
namespace Go.Proofs.Ytdppabnhflaoeaa.K
set_option linter.unusedVariables false
set_option linter.unusedSimpArgs false

/-- The load as it counts; what is carried; how far off; whether that is within the slack. -/
def ld (x : Int) : Int := S.within x 0 1099511627776
def carr (F : Nat → Int) (t : Int) : Int := S.mul t (F 8)
def off (F : Nat → Int) (x t : Int) : Int := if S.sub (ld x) (carr F t) < 0 then -S.sub (ld x) (carr F t) else S.sub (ld x) (carr F t)
def slk (F : Nat → Int) (x t : Int) : Bool := decide (0 < t ∧ S.mul 100 (off F x t) ≤ S.mul (F 9) (carr F t))
/-- What is wanted; whether it may be asked; the next number; the error's. -/
def wnt (F : Nat → Int) (x t : Int) : Int := if slk F x t = true then S.within t (F 6) (F 7) else askN F (ld x)
def ok (F : Nat → Int) (t : Int) : Bool := E.rp F && decide (0 ≤ t ∧ t ≤ 1000)
def stp (F : Nat → Int) (x t : Int) : Int := if ok F t = true then S.within (wnt F x t) (t - F 11) (t + F 10) else 0
def err (F : Nat → Int) (t : Int) : Int := if ok F t = true then 0 else 2
/-- Steps, up to k: how many, and where they end. -/
def run (f : Int → Int) : Nat → Int → Nat × Int
  | 0, t => (0, t)
  | k + 1, t => if f t = t then (0, t) else ((run f k (f t)).1 + 1, (run f k (f t)).2)
def sts (F : Nat → Int) (x t : Int) : Int × Int × Int := if ok F t = true then ((run (stp F x) 1001 t).1, (run (stp F x) 1001 t).2, 0) else (0, 0, 2)
/-- What isn't lowered below what was wished of late. -/
def top (a : Int) : List Int → Int
  | [] => a
  | n :: r => top (if a < n then n else a) r
def stb (l : List Int) (want now : Int) : Int := if now ≤ want then want else if now < top want l then now else top want l

theorem rp_all {F : Nat → Int} (h : E.rp F = true) : 0 ≤ F 6 ∧ F 6 ≤ F 7 ∧ F 7 ≤ 1000 ∧ 1 ≤ F 8 ∧ F 8 ≤ 1073741824 ∧ 0 ≤ F 9 ∧ F 9 ≤ 100 ∧ 1 ≤ F 10 ∧ F 10 ≤ 1000 ∧ 1 ≤ F 11 ∧ F 11 ≤ 1000 := by
  simp [E.rp] at h
  omega
theorem ok_all {F : Nat → Int} {t : Int} (h : ok F t = true) : E.rp F = true ∧ 0 ≤ t ∧ t ≤ 1000 := by
  simp [ok] at h
  exact ⟨h.1, h.2.1, h.2.2⟩
section
variable {F : Nat → Int} {x t : Int}
/-- Whatever the slack: on one side of what is asked a step leads no farther from it, and not beyond it. -/
theorem wnt_lo (h : ok F t = true) (ht : t ≤ askN F (ld x)) : t ≤ wnt F x t ∧ wnt F x t ≤ askN F (ld x) ∨ wnt F x t = t := by
  obtain ⟨hr, h0, h1⟩ := ok_all h
  have ha := ask_lo hr (ld x)
  have hp := rp_all hr
  unfold wnt
  split
  · unfold S.within
    split
    · omega
    · split <;> omega
  · omega
theorem wnt_hi (h : ok F t = true) (ht : askN F (ld x) ≤ t) : askN F (ld x) ≤ wnt F x t ∧ wnt F x t ≤ t ∨ wnt F x t = t := by
  obtain ⟨hr, h0, h1⟩ := ok_all h
  have ha := ask_lo hr (ld x)
  have hp := rp_all hr
  unfold wnt
  split
  · unfold S.within
    split
    · omega
    · split <;> omega
  · omega
theorem stp_lo (h : ok F t = true) (ht : t ≤ askN F (ld x)) : t ≤ stp F x t ∧ stp F x t ≤ askN F (ld x) := by
  obtain ⟨hr, h0, h1⟩ := ok_all h
  have hp := rp_all hr
  have hw := wnt_lo h ht
  unfold stp
  rw [if_pos h]
  unfold S.within
  split
  · omega
  · split <;> omega
theorem stp_hi (h : ok F t = true) (ht : askN F (ld x) ≤ t) : askN F (ld x) ≤ stp F x t ∧ stp F x t ≤ t := by
  obtain ⟨hr, h0, h1⟩ := ok_all h
  have hp := rp_all hr
  have hw := wnt_hi h ht
  unfold stp
  rw [if_pos h]
  unfold S.within
  split
  · omega
  · split <;> omega
theorem stp_ok (h : ok F t = true) : ok F (stp F x t) = true := by
  obtain ⟨hr, h0, h1⟩ := ok_all h
  have ha := ask_lo hr (ld x)
  have hp := rp_all hr
  have hb : 0 ≤ stp F x t ∧ stp F x t ≤ 1000 := by
    rcases Int.le_total t (askN F (ld x)) with g | g
    · have := stp_lo (x := x) h g; omega
    · have := stp_hi (x := x) h g; omega
  unfold ok
  rw [hr]
  simpa using hb
end
/-! ### steps -/
theorem run_le (f : Int → Int) : ∀ k t, (run f k t).1 ≤ k
  | 0, t => by simp [run]
  | k + 1, t => by
    rw [run]
    split
    · exact Nat.zero_le _
    · have := run_le f k (f t); simp; omega
/-- The number behind so many steps. -/
def it (f : Int → Int) : Nat → Int → Int
  | 0, t => t
  | k + 1, t => it f k (f t)
theorem it_succ (f : Int → Int) : ∀ k t, it f (k + 1) t = f (it f k t)
  | 0, t => rfl
  | k + 1, t => by rw [it, it_succ f k (f t)]; rfl
theorem run_it (f : Int → Int) : ∀ k t, (run f k t).2 = it f (run f k t).1 t
  | 0, t => rfl
  | k + 1, t => by
    rw [run]
    split
    · rfl
    · simp only [it]; exact run_it f k (f t)
theorem run_moves (f : Int → Int) : ∀ k t i, i < (run f k t).1 → f (it f i t) ≠ it f i t
  | 0, t, i, h => by simp [run] at h
  | k + 1, t, i, h => by
    rw [run] at h
    split at h
    · simp at h
    · rename_i hne
      cases i with
      | zero => exact hne
      | succ i => simp only [it]; exact run_moves f k (f t) i (by simpa using h)
theorem run_rests (f : Int → Int) : ∀ k t, (run f k t).1 < k → f (it f (run f k t).1 t) = it f (run f k t).1 t
  | 0, t, h => by simp at h
  | k + 1, t, h => by
    rw [run] at h ⊢
    split
    · rename_i he; exact he
    · rename_i hne
      rw [if_neg hne] at h
      simp only [it]
      exact run_rests f k (f t) (by simpa using h)
/-- How it goes on: k rounds behind, t reached. -/
theorem run_go (f : Int → Int) {k : Nat} {t : Int} (h : f t ≠ t) : run f (k + 1) t = ((run f k (f t)).1 + 1, (run f k (f t)).2) := by rw [run, if_neg h]
theorem run_end (f : Int → Int) {k : Nat} {t : Int} (h : f t = t) : run f (k + 1) t = (0, t) := by rw [run, if_pos h]
theorem run_zero (f : Int → Int) (t : Int) : run f 0 t = (0, t) := rfl

section
variable {F : Nat → Int} {x t : Int}
theorem it_ok (h : ok F t = true) : ∀ k, ok F (it (stp F x) k t) = true
  | 0 => h
  | k + 1 => by rw [it_succ]; exact stp_ok (it_ok h k)
theorem it_lo (h : ok F t = true) (ht : t ≤ askN F (ld x)) : ∀ k, it (stp F x) k t ≤ askN F (ld x)
  | 0 => ht
  | k + 1 => by rw [it_succ]; exact (stp_lo (it_ok h k) (it_lo h ht k)).2
theorem it_hi (h : ok F t = true) (ht : askN F (ld x) ≤ t) : ∀ k, askN F (ld x) ≤ it (stp F x) k t
  | 0 => ht
  | k + 1 => by rw [it_succ]; exact (stp_hi (it_ok h k) (it_hi h ht k)).1
/-- So many steps that each lead on lead so far. -/
theorem far_lo (h : ok F t = true) (ht : t ≤ askN F (ld x)) : ∀ k, (∀ i, i < k → stp F x (it (stp F x) i t) ≠ it (stp F x) i t) → t + k ≤ it (stp F x) k t
  | 0, _ => by simp [it]
  | k + 1, hk => by
    have ih := far_lo h ht k (fun i hi => hk i (by omega))
    have h1 := (stp_lo (x := x) (it_ok h k) (it_lo h ht k)).1
    have h2 := hk k (by omega)
    rw [it_succ]
    omega
theorem far_hi (h : ok F t = true) (ht : askN F (ld x) ≤ t) : ∀ k, (∀ i, i < k → stp F x (it (stp F x) i t) ≠ it (stp F x) i t) → it (stp F x) k t + k ≤ t
  | 0, _ => by simp [it]
  | k + 1, hk => by
    have ih := far_hi h ht k (fun i hi => hk i (by omega))
    have h1 := (stp_hi (x := x) (it_ok h k) (it_hi h ht k)).2
    have h2 := hk k (by omega)
    rw [it_succ]
    omega
/-- They rest within 1000. -/
theorem run_1000 (h : ok F t = true) : (run (stp F x) 1001 t).1 ≤ 1000 := by
  obtain ⟨hr, h0, h1⟩ := ok_all h
  have ha := ask_lo hr (ld x)
  have hp := rp_all hr
  have hm := run_moves (stp F x) 1001 t
  generalize (run (stp F x) 1001 t).1 = n at *
  rcases Int.le_total t (askN F (ld x)) with g | g
  · have h2 := far_lo (x := x) h g n hm
    have h3 := it_lo (x := x) h g n
    omega
  · have h2 := far_hi (x := x) h g n hm
    have h3 := it_hi (x := x) h g n
    omega
theorem run_still (h : ok F t = true) : stp F x (run (stp F x) 1001 t).2 = (run (stp F x) 1001 t).2 := by
  rw [run_it]
  exact run_rests _ 1001 t (by have := run_1000 (x := x) h; omega)
/-- A step never turns back. -/
theorem no_turn (h : ok F t = true) (k : Nat) : (t ≤ it (stp F x) k t ∧ it (stp F x) k t ≤ it (stp F x) (k + 1) t ∧ (∀ j, j ≤ k → it (stp F x) j t ≤ it (stp F x) (j + 1) t)) ∨ (it (stp F x) k t ≤ t ∧ it (stp F x) (k + 1) t ≤ it (stp F x) k t ∧ (∀ j, j ≤ k → it (stp F x) (j + 1) t ≤ it (stp F x) j t)) := by
  rcases Int.le_total t (askN F (ld x)) with g | g
  · have a : ∀ j, it (stp F x) j t ≤ it (stp F x) (j + 1) t := fun j => by rw [it_succ]; exact (stp_lo (it_ok h j) (it_lo h g j)).1
    have b : ∀ j, t ≤ it (stp F x) j t := fun j => by
      induction j with
      | zero => exact Int.le_refl _
      | succ j ih => have := a j; omega
    exact .inl ⟨b k, a k, fun j _ => a j⟩
  · have a : ∀ j, it (stp F x) (j + 1) t ≤ it (stp F x) j t := fun j => by rw [it_succ]; exact (stp_hi (it_ok h j) (it_hi h g j)).2
    have b : ∀ j, it (stp F x) j t ≤ t := fun j => by
      induction j with
      | zero => exact Int.le_refl _
      | succ j ih => have := a j; omega
    exact .inr ⟨b k, a k, fun j _ => a j⟩
end
end Go.Proofs.Ytdppabnhflaoeaa.K
