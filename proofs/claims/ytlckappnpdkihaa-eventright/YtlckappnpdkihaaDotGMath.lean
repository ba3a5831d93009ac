/- The plain mathematics of layer 6: what a reader's numbers say, and the set that bytes are. -/
import Derived.Test.YtlckappnpdkihaaDotBMath
import Derived.Test.YtlckappnpdkihaaVintSt
namespace Go.Proofs.Ytlckappnpdkihaa.D
set_option linter.unusedVariables false
set_option linter.unusedSimpArgs false

abbrev St := List Int × Int
def nxt (s : St) : Int × St := V.intS s.1 s.2
/-- How the reader stands behind k numbers, and the number there. -/
def stK (L : List Int) : Nat → St
  | 0 => (L, 0)
  | k + 1 => (nxt (stK L k)).2
def vK (L : List Int) (k : Nat) : Int := (nxt (stK L k)).1
def upTo (L : List Int) (k : Nat) : Nat → Int := fun j => if j < k then vK L j else 0
/-- Failed by x, unless it did before. -/
def failS (x : Int) (s : St) : St := (s.1, if s.2 = 0 then x else s.2)
def cut (n : Int) (s : St) : St := if 768 < n then failS 6 s else s
def rdM : Nat → St → List Dot × St
  | 0, s => ([], s)
  | n + 1, s => if s.2 = 0 then (((nxt s).1, (nxt (nxt s).2).1) :: (rdM n (nxt (nxt s).2).2).1, (rdM n (nxt (nxt s).2).2).2) else ([], s)
def gS (L : List Int) : St := cut (vK L 8) (stK L 9)
def gR (L : List Int) : List Dot × St := rdM (vK L 8).toNat (gS L)
def gU (L : List Int) : Nat → Int := upTo L 8
def gE (L : List Int) : Int := if (gR L).2.2 = 0 then (if (gR L).2.1 ≠ [] ∨ rt (gU L) (gR L).1 = false then 4 else 0) else (gR L).2.2
/-- What Get answers. -/
def getU (L : List Int) : Nat → Int := if gE L = 0 then gU L else fun _ => 0
def getM (L : List Int) : List Dot := if gE L = 0 then (gR L).1 else []

theorem rdM_zero (s : St) : rdM 0 s = ([], s) := rfl
theorem rdM_bad {n : Nat} {s : St} (h : s.2 ≠ 0) : rdM n s = ([], s) := by
  cases n with
  | zero => rfl
  | succ n => unfold rdM; rw [if_neg h]
theorem rdM_more {n : Nat} {s : St} (h : s.2 = 0) : rdM (n + 1) s = (((nxt s).1, (nxt (nxt s).2).1) :: (rdM n (nxt (nxt s).2).2).1, (rdM n (nxt (nxt s).2).2).2) := by
  conv => lhs; unfold rdM
  rw [if_pos h]
theorem rdM_len : ∀ (n : Nat) (s : St), (rdM n s).1.length ≤ n
  | 0, s => by simp [rdM]
  | n + 1, s => by
    unfold rdM
    split
    · have := rdM_len n (nxt (nxt s).2).2
      simp; omega
    · simp
theorem failS_ne {x : Int} (hx : x ≠ 0) (s : St) : (failS x s).2 ≠ 0 := by
  unfold failS
  split
  · exact hx
  · assumption
theorem gS_ok {L : List Int} (h : (gS L).2 = 0) : vK L 8 ≤ 768 := by
  unfold gS cut at h
  split at h
  · exact absurd h (failS_ne (by omega) _)
  · omega
theorem gM_len (L : List Int) : (gR L).1.length ≤ 768 := by
  unfold gR
  by_cases h : (gS L).2 = 0
  · have h1 := gS_ok h
    have h2 := rdM_len (vK L 8).toNat (gS L)
    omega
  · rw [rdM_bad h]; simp
theorem upTo_zero (L : List Int) : upTo L 0 = fun _ => 0 := by funext j; simp [upTo]
theorem upTo_succ (L : List Int) (k : Nat) : (fun j => if j = k then vK L k else upTo L k j) = upTo L (k + 1) := by
  funext j
  unfold upTo
  by_cases h : j = k
  · subst h; simp
  · by_cases h2 : j < k
    · simp [h, h2, show j < k + 1 by omega]
    · simp [h, h2, show ¬ j < k + 1 by omega]
theorem getM_len (L : List Int) : (getM L).length ≤ 768 := by
  unfold getM
  split
  · exact gM_len L
  · simp
/-- The loop: what was read so far, and what the rest comes to. -/
def Sofar (L : List Int) (M : List Dot) (s : St) : Prop := gR L = (M ++ (rdM ((vK L 8).toNat - M.length) s).1, (rdM ((vK L 8).toNat - M.length) s).2)
theorem Sofar.start (L : List Int) : Sofar L [] (gS L) := by unfold Sofar gR; simp
theorem Sofar.more {L : List Int} {M : List Dot} {s : St} (h : Sofar L M s) (hs : s.2 = 0) (hl : M.length < (vK L 8).toNat) : Sofar L (M ++ [((nxt s).1, (nxt (nxt s).2).1)]) (nxt (nxt s).2).2 := by
  unfold Sofar at *
  rw [show (vK L 8).toNat - M.length = ((vK L 8).toNat - (M ++ [((nxt s).1, (nxt (nxt s).2).1)]).length) + 1 by simp; omega, rdM_more hs] at h
  rw [h]
  simp
theorem Sofar.done {L : List Int} {M : List Dot} {s : St} (h : Sofar L M s) (hl : ¬ M.length < (vK L 8).toNat) : gR L = (M, s) := by
  unfold Sofar at h
  rw [show (vK L 8).toNat - M.length = 0 by omega] at h
  simpa [rdM] using h
theorem Sofar.bad {L : List Int} {M : List Dot} {s : St} (h : Sofar L M s) (hs : s.2 ≠ 0) : gR L = (M, s) := by
  unfold Sofar at h
  rw [rdM_bad hs] at h
  simpa using h
end Go.Proofs.Ytlckappnpdkihaa.D
