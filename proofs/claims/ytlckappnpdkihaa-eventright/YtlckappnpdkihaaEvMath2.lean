/- The plain mathematics of layer 7: what is got is put as it was; many events. -/
import Derived.Test.YtlckappnpdkihaaEvMath
namespace Go.Proofs.Ytlckappnpdkihaa.E
set_option linter.unusedVariables false
set_option linter.unusedSimpArgs false
open Go.Proofs.Ytlckappnpdkihaa.D (Dot St nxt rdM failS may bef)

def norm (F : Nat → Int) : Nat → Int := fun j => if j < 13 then F j else 0
theorem norm_at (F : Nat → Int) {k : Nat} (h : k < 13) : norm F k = F k := by unfold norm; rw [if_pos h]
theorem rdF_norm (s : St) : norm (rdF s) = rdF s := by
  funext j
  unfold norm
  by_cases h : j < 13
  · rw [if_pos h]
  · rw [if_neg h]
    unfold rdF
    rw [if_neg (by omega), if_neg (by omega), if_neg (by omega), if_neg h]
theorem rdF_put {F : Nat → Int} {M : List Dot} (R : List Int) (h : right F M = true) : rdF (V.encs (nums F M) ++ R, 0) = norm F := by
  rw [← rdF_norm]
  funext j
  unfold norm
  by_cases hj : j < 13
  · rw [if_pos hj, if_pos hj]; exact (rd_put R h).1 j hj
  · rw [if_neg hj, if_neg hj]
theorem right_norm (F : Nat → Int) (M : List Dot) : right (norm F) M = right F M := by
  have e : rem1 (norm F) M = rem1 F M := by funext i; simp [rem1, norm]
  unfold right rems
  rw [e]
  simp [headOk, kindOk, rp, pz, norm]
theorem nums_norm (F : Nat → Int) (M : List Dot) : nums (norm F) M = nums F M := by simp [nums, numP, norm]

/-- Numbers that were read without a fault are the bytes that were passed. -/
theorem it_back {s : St} (hB : ∀ b ∈ s.1, 0 ≤ b ∧ b < 256) : ∀ k, (itS s k).2 = 0 → s.1 = V.encs ((List.range k).map (itV s)) ++ (itS s k).1 ∧ (∀ b ∈ (itS s k).1, 0 ≤ b ∧ b < 256) ∧ ∀ j, j < k → 0 ≤ itV s j
  | 0, _ => ⟨by simp [itS, V.encs], hB, fun j hj => by omega⟩
  | k + 1, h => by
    have h' : (nxt (itS s k)).2.2 = 0 := h
    obtain ⟨h1, h2, h3⟩ := it_back hB k (D.nxt_ok h')
    obtain ⟨a1, a2, a3⟩ := D.nxt_back h2 h'
    refine ⟨?_, a3, fun j hj => ?_⟩
    · rw [List.range_succ, List.map_append, List.map_cons, List.map_nil, V.encs_snoc, List.append_assoc]
      show s.1 = V.encs ((List.range k).map (itV s)) ++ (V.enc (nxt (itS s k)).1 ++ (nxt (itS s k)).2.1)
      rw [← a1]
      exact h1
    · rcases Nat.lt_or_ge j k with hj' | hj'
      · exact h3 j hj'
      · obtain rfl : j = k := by omega
        exact a2
theorem it_ok {s : St} : ∀ {k : Nat}, (itS s k).2 = 0 → s.2 = 0
  | 0, h => h
  | k + 1, h => it_ok (k := k) (D.nxt_ok h)
theorem failS_ok {x : Int} (hx : x ≠ 0) {s : St} (h : (failS x s).2 = 0) : False := D.failS_ne hx s h
/-- What is read without a fault was put so. -/
theorem rd_back {s : St} (hB : ∀ b ∈ s.1, 0 ≤ b ∧ b < 256) (h : (rdL s).2.2 = 0) : s.1 = V.encs (nums (rdF s) (rdL s).1) ++ (rdL s).2.1 ∧ ∀ b ∈ (rdL s).2.1, 0 ≤ b ∧ b < 256 := by
  have hs4 : (s4 s).2 = 0 := by
    unfold rdL at h
    split at h
    · exact it_ok h
    · have := D.rdM_ok h
      unfold cutS at this
      split at this
      · exact absurd this (D.failS_ne (by omega) _)
      · exact it_ok this
  have e4 : s4 s = itS s 4 ∧ (itV s 3 = 1 ∨ itV s 3 = 2 ∨ itV s 3 = 3) := by
    unfold s4 kindS at hs4 ⊢
    by_cases hc : (itS s 4).2 = 0 ∧ (itV s 3 < 1 ∨ 3 < itV s 3)
    · rw [if_pos hc] at hs4; simp at hs4
    · rw [if_neg hc] at hs4 ⊢
      refine ⟨rfl, ?_⟩
      have : ¬ (itV s 3 < 1 ∨ 3 < itV s 3) := fun h' => hc ⟨hs4, h'⟩
      omega
  rw [e4.1] at hs4
  obtain ⟨a1, a2, _⟩ := it_back hB 4 hs4
  have r4 : (List.range 4).map (itV s) = [itV s 0, itV s 1, itV s 2, itV s 3] := rfl
  rw [r4] at a1
  have f0 : rdF s 0 = itV s 0 := rfl
  have f1 : rdF s 1 = itV s 1 := rfl
  have f2 : rdF s 2 = itV s 2 := rfl
  have f3 : rdF s 3 = itV s 3 := rfl
  have f4 : rdF s 4 = itV (s4 s) 0 := rfl
  have hB4 : ∀ b ∈ (s4 s).1, 0 ≤ b ∧ b < 256 := by rw [e4.1]; exact a2
  rw [← e4.1] at a1
  have fin : ∀ (X Y : List Int), (s4 s).1 = V.encs (itV (s4 s) 0 :: X) ++ Y → nums (rdF s) (rdL s).1 = [rdF s 0, rdF s 1, rdF s 2, rdF s 3, rdF s 4] ++ X → s.1 = V.encs (nums (rdF s) (rdL s).1) ++ Y := fun X Y h1 h2 => by
    rw [h2, f0, f1, f2, f3, f4]
    have e : [itV s 0, itV s 1, itV s 2, itV s 3, itV (s4 s) 0] ++ X = [itV s 0, itV s 1, itV s 2, itV s 3] ++ (itV (s4 s) 0 :: X) := rfl
    rw [e, encs_app, List.append_assoc, ← h1]
    exact a1
  rcases e4.2 with k1 | k2 | k3
  · have eL : rdL s = ([], itS (s4 s) 2) := by unfold rdL; rw [if_pos k1]
    rw [eL] at h ⊢
    obtain ⟨b1, b2, _⟩ := it_back hB4 2 h
    refine ⟨?_, b2⟩
    rw [eL] at fin
    refine fin [itV (s4 s) 1] _ b1 ?_
    unfold nums
    rw [f3, if_pos k1]
    have : rdF s 5 = itV (s4 s) 1 := by unfold rdF; simp [k1]
    rw [this]
  · have eL : rdL s = rdM (rdN s).toNat (cutS (rdN s) (itS (s4 s) 9)) := by unfold rdL nP; rw [if_neg (by omega), if_pos k2]
    have hN : rdN s = itV (s4 s) 8 := by unfold rdN nP; rw [if_pos k2]
    rw [eL] at h
    have hc := D.rdM_ok h
    have ec : cutS (rdN s) (itS (s4 s) 9) = itS (s4 s) 9 := by
      unfold cutS at hc ⊢
      split at hc
      · exact absurd hc (D.failS_ne (by omega) _)
      · next hh => rw [if_neg hh]
    rw [ec] at h hc eL
    obtain ⟨b1, b2, b3⟩ := it_back hB4 9 hc
    obtain ⟨c1, c2⟩ := D.rdM_back b2 h
    have hn0 := b3 8 (by omega)
    rw [eL] at fin ⊢
    refine ⟨?_, fun b hb => b2 b (by rw [c1]; exact List.mem_append_right _ hb)⟩
    refine fin ([itV (s4 s) 1, itV (s4 s) 2, itV (s4 s) 3, itV (s4 s) 4, itV (s4 s) 5, itV (s4 s) 6, itV (s4 s) 7, itV (s4 s) 8] ++ numM (rdM (rdN s).toNat (itS (s4 s) 9)).1) _ ?_ ?_
    · have r9 : (List.range 9).map (itV (s4 s)) = [itV (s4 s) 0, itV (s4 s) 1, itV (s4 s) 2, itV (s4 s) 3, itV (s4 s) 4, itV (s4 s) 5, itV (s4 s) 6, itV (s4 s) 7, itV (s4 s) 8] := rfl
      rw [r9] at b1
      rw [show (itV (s4 s) 0 :: ([itV (s4 s) 1, itV (s4 s) 2, itV (s4 s) 3, itV (s4 s) 4, itV (s4 s) 5, itV (s4 s) 6, itV (s4 s) 7, itV (s4 s) 8] ++ numM (rdM (rdN s).toNat (itS (s4 s) 9)).1)) = [itV (s4 s) 0, itV (s4 s) 1, itV (s4 s) 2, itV (s4 s) 3, itV (s4 s) 4, itV (s4 s) 5, itV (s4 s) 6, itV (s4 s) 7, itV (s4 s) 8] ++ numM (rdM (rdN s).toNat (itS (s4 s) 9)).1 from rfl, encs_app, encs_numM, List.append_assoc, ← c1]
      exact b1
    · unfold nums numP
      rw [f3, if_neg (by omega), if_pos k2, c2]
      have p : ∀ j, 6 ≤ j → j < 13 → rdF s j = itV (s4 s) (j - 5) := fun j h6 h13 => by unfold rdF; rw [if_neg (by omega), if_neg (by omega), if_neg (by omega), if_pos h13, if_pos k2]
      rw [p 6 (by omega) (by omega), p 7 (by omega) (by omega), p 8 (by omega) (by omega), p 9 (by omega) (by omega), p 10 (by omega) (by omega), p 11 (by omega) (by omega), p 12 (by omega) (by omega), hN, show ((itV (s4 s) 8).toNat : Int) = itV (s4 s) 8 by omega]
      rfl
  · have eL : rdL s = rdM (rdN s).toNat (cutS (rdN s) (itS (s4 s) 2)) := by unfold rdL nP; rw [if_neg (by omega), if_neg (by omega)]
    have hN : rdN s = itV (s4 s) 1 := by unfold rdN nP; rw [if_neg (by omega)]
    rw [eL] at h
    have hc := D.rdM_ok h
    have ec : cutS (rdN s) (itS (s4 s) 2) = itS (s4 s) 2 := by
      unfold cutS at hc ⊢
      split at hc
      · exact absurd hc (D.failS_ne (by omega) _)
      · next hh => rw [if_neg hh]
    rw [ec] at h hc eL
    obtain ⟨b1, b2, b3⟩ := it_back hB4 2 hc
    obtain ⟨c1, c2⟩ := D.rdM_back b2 h
    have hn0 := b3 1 (by omega)
    rw [eL] at fin ⊢
    refine ⟨?_, fun b hb => b2 b (by rw [c1]; exact List.mem_append_right _ hb)⟩
    refine fin ([itV (s4 s) 1] ++ numM (rdM (rdN s).toNat (itS (s4 s) 2)).1) _ ?_ ?_
    · have r2 : (List.range 2).map (itV (s4 s)) = [itV (s4 s) 0, itV (s4 s) 1] := rfl
      rw [r2] at b1
      rw [show (itV (s4 s) 0 :: ([itV (s4 s) 1] ++ numM (rdM (rdN s).toNat (itS (s4 s) 2)).1)) = [itV (s4 s) 0, itV (s4 s) 1] ++ numM (rdM (rdN s).toNat (itS (s4 s) 2)).1 from rfl, encs_app, encs_numM, List.append_assoc, ← c1]
      exact b1
    · unfold nums numP
      rw [f3, if_neg (by omega), if_neg (by omega), c2, hN, show ((itV (s4 s) 1).toNat : Int) = itV (s4 s) 1 by omega]
      rfl

/-! one event's bytes -/
def gE (L : List Int) : Int := if (rdL (L, 0)).2.2 = 0 then (if (rdL (L, 0)).2.1 ≠ [] ∨ right (rdF (L, 0)) (rdL (L, 0)).1 = false then 4 else 0) else (rdL (L, 0)).2.2
def getF (L : List Int) : Nat → Int := if gE L = 0 then rdF (L, 0) else fun _ => 0
def getM (L : List Int) : List Dot := if gE L = 0 then (rdL (L, 0)).1 else []
/-- What is got is put as it was. -/
theorem get_back {L : List Int} (hB : ∀ b ∈ L, 0 ≤ b ∧ b < 256) (h : gE L = 0) : right (getF L) (getM L) = true ∧ V.encs (nums (getF L) (getM L)) = L := by
  have eF : getF L = rdF (L, 0) := by unfold getF; rw [if_pos h]
  have eM : getM L = (rdL (L, 0)).1 := by unfold getM; rw [if_pos h]
  rw [eF, eM]
  unfold gE at h
  split at h
  · next hx =>
    split at h
    · omega
    · next hn =>
      have hl : (rdL (L, 0)).2.1 = [] := Classical.byContradiction fun e => hn (.inl e)
      have hr : right (rdF (L, 0)) (rdL (L, 0)).1 = true := by
        cases e : right (rdF (L, 0)) (rdL (L, 0)).1 with
        | true => rfl
        | false => exact absurd (.inr e) hn
      refine ⟨hr, ?_⟩
      have := (rd_back (s := (L, 0)) hB hx).1
      rw [hl, List.append_nil] at this
      exact this.symm
  · next hx => exact absurd h hx
/-- What is put is got. -/
theorem get_put {F : Nat → Int} {M : List Dot} (h : right F M = true) : gE (V.encs (nums F M)) = 0 ∧ getF (V.encs (nums F M)) = norm F ∧ getM (V.encs (nums F M)) = M := by
  have h1 := rdF_put [] h
  have h2 := (rd_put [] h).2
  rw [List.append_nil] at h1 h2
  have e : gE (V.encs (nums F M)) = 0 := by unfold gE; rw [h1, h2]; simp [right_norm, h]
  exact ⟨e, by unfold getF; rw [if_pos e, h1], by unfold getM; rw [if_pos e, h2]⟩
/-- A byte more is one too many. -/
theorem get_more {F : Nat → Int} {M : List Dot} (h : right F M = true) (x : Int) (R : List Int) : gE (V.encs (nums F M) ++ x :: R) = 4 := by
  unfold gE
  rw [(rd_put (x :: R) h).2]
  simp

/-! many events -/
abbrev Ev := (Nat → Int) × List Dot
def stp (s : St) : St := if (rdL s).2.2 = 0 ∧ right (rdF s) (rdL s).1 = false then ((rdL s).2.1, 4) else (rdL s).2
def rdA : Nat → St → List Ev × St
  | 0, s => ([], s)
  | n + 1, s => if s.2 = 0 then ((rdF s, (rdL s).1) :: (rdA n (stp s)).1, (rdA n (stp s)).2) else ([], s)
def cutA (n : Int) (s : St) : St := if 768 < n then failS 6 s else s
def allR (L : List Int) : List Ev × St := rdA (itV (L, 0) 0).toNat (cutA (itV (L, 0) 0) (itS (L, 0) 1))
def allE (L : List Int) : Int := if (allR L).2.2 = 0 then (if (allR L).2.1 ≠ [] then 4 else 0) else (allR L).2.2
def allM (L : List Int) : List Ev := if allE L = 0 then (allR L).1 else []
def allRight (l : List Ev) : Bool := l.all fun e => right e.1 e.2
def putAE (l : List Ev) : Int := if 768 < l.length then 6 else if allRight l then 0 else 2
def bod (l : List Ev) : List Int := l.flatMap fun e => V.encs (nums e.1 e.2)
def putAB (l : List Ev) : List Int := if putAE l = 0 then V.enc (l.length : Int) ++ bod l else []
theorem rdA_put : ∀ {l : List Ev} (R : List Int), (∀ e ∈ l, right e.1 e.2 = true) → rdA l.length (bod l ++ R, 0) = (l.map fun e => (norm e.1, e.2), (R, 0))
  | [], R, _ => rfl
  | e :: l, R, h => by
    have he := h e (by simp)
    have eb : bod (e :: l) ++ R = V.encs (nums e.1 e.2) ++ (bod l ++ R) := by simp [bod]
    have h1 := rdF_put (bod l ++ R) he
    have h2 := (rd_put (bod l ++ R) he).2
    have e3 : stp (bod (e :: l) ++ R, 0) = (bod l ++ R, 0) := by
      unfold stp
      rw [eb, h1, h2, if_neg (by rintro ⟨_, hh⟩; rw [right_norm, he] at hh; cases hh)]
    rw [List.length_cons]
    unfold rdA
    rw [if_pos rfl, e3, rdA_put R (fun x hx => h x (List.mem_cons_of_mem _ hx)), eb, h1, h2]
    rfl
/-- What is put is got, of many. -/
theorem all_put {l : List Ev} (hl : l.length ≤ 768) (h : ∀ e ∈ l, right e.1 e.2 = true) : allE (V.enc (l.length : Int) ++ bod l) = 0 ∧ allM (V.enc (l.length : Int) ++ bod l) = l.map fun e => (norm e.1, e.2) := by
  have n1 : nxt (V.enc (l.length : Int) ++ bod l, 0) = ((l.length : Int), (bod l, 0)) := D.nxt_enc (by omega) (by omega) _
  have v : itV (V.enc (l.length : Int) ++ bod l, 0) 0 = l.length := by show (nxt (V.enc (l.length : Int) ++ bod l, 0)).1 = _; rw [n1]
  have s1 : itS (V.enc (l.length : Int) ++ bod l, 0) 1 = (bod l, 0) := by show (nxt (V.enc (l.length : Int) ++ bod l, 0)).2 = _; rw [n1]
  have r := rdA_put [] h
  rw [List.append_nil] at r
  have e : allR (V.enc (l.length : Int) ++ bod l) = (l.map fun e => (norm e.1, e.2), ([], 0)) := by
    unfold allR cutA
    rw [v, s1, if_neg (by omega)]
    simpa using r
  have e0 : allE (V.enc (l.length : Int) ++ bod l) = 0 := by unfold allE; rw [e]; rfl
  exact ⟨e0, by unfold allM; rw [if_pos e0, e]⟩
theorem rdA_len : ∀ (n : Nat) (s : St), (rdA n s).1.length ≤ n
  | 0, s => by simp [rdA]
  | n + 1, s => by
    unfold rdA
    split
    · have := rdA_len n (stp s)
      simp; omega
    · simp
theorem rdA_bad {n : Nat} {s : St} (h : s.2 ≠ 0) : rdA n s = ([], s) := by
  cases n with
  | zero => rfl
  | succ n => unfold rdA; rw [if_neg h]
theorem allR_len (L : List Int) : (allR L).1.length ≤ 768 := by
  unfold allR
  by_cases h : (cutA (itV (L, 0) 0) (itS (L, 0) 1)).2 = 0
  · have h2 := rdA_len (itV (L, 0) 0).toNat (cutA (itV (L, 0) 0) (itS (L, 0) 1))
    unfold cutA at h
    split at h
    · exact absurd h (D.failS_ne (by omega) _)
    · omega
  · rw [rdA_bad h]; simp

/-! of two events just one is later -/
theorem later_not (F G : Nat → Int) (h : ¬ (F 2 = G 2 ∧ (F 0, F 1) = (G 0, G 1))) : later F G = !later G F := by
  unfold later bef
  by_cases e : F 2 = G 2
  · rw [if_pos e, if_pos e.symm]
    have : ¬ (F 0 = G 0 ∧ F 1 = G 1) := fun hh => h ⟨e, by rw [hh.1, hh.2]⟩
    simp only
    by_cases c : G 0 < F 0 ∨ G 0 = F 0 ∧ G 1 < F 1
    · rw [decide_eq_true c, decide_eq_false (by omega)]; rfl
    · rw [decide_eq_false c, decide_eq_true (by omega)]; rfl
  · rw [if_neg e, if_neg (Ne.symm e)]
    by_cases c : G 2 < F 2
    · rw [decide_eq_true c, decide_eq_false (by omega)]; rfl
    · rw [decide_eq_false c, decide_eq_true (by omega)]; rfl
theorem later_same (F G : Nat → Int) (h : F 2 = G 2 ∧ (F 0, F 1) = (G 0, G 1)) : later F G = false := by
  unfold later bef
  rw [if_pos h.1]
  have := h.2
  simp only [Prod.mk.injEq] at this
  exact decide_eq_false (by simp only; omega)
theorem later_trans (F G H : Nat → Int) (h1 : later F G = true) (h2 : later G H = true) : later F H = true := by
  unfold later bef at *
  simp only at *
  split at h1 <;> split at h2 <;> split <;> simp only [decide_eq_true_eq] at * <;> omega

/-! what is bent is not right -/
theorem rems_bad {F : Nat → Int} {M : List Dot} {i : Nat} (hi : i < M.length) (h : rem1 F M i = false) : right F M = false := by
  have : rems F M = false := by
    cases e : rems F M with
    | false => rfl
    | true =>
      have := List.all_eq_true.1 e i (List.mem_range.2 hi)
      rw [h] at this; cases this
  unfold right
  rw [this]
  simp
theorem bend_own (F : Nat → Int) (M : List Dot) : right F ((F 0, F 1) :: M) = false := rems_bad (i := 0) (by simp) (by simp [rem1])
theorem bend_twice (F : Nat → Int) (M : List Dot) (d : Dot) : right F (M ++ [d] ++ [d]) = false := by
  refine rems_bad (i := M.length + 1) (by simp) ?_
  unfold rem1
  have e1 : (M ++ [d] ++ [d])[M.length + 1]? = some d := by simp
  have e2 : (M ++ [d] ++ [d])[M.length + 1 - 1]? = some d := by simp
  rw [e1, e2]
  simp [bef]
theorem bend_head {F : Nat → Int} {M : List Dot} (h : headOk F M = false) : right F M = false := by unfold right; rw [h]; simp
theorem bend_seq {F : Nat → Int} (M : List Dot) (h : F 1 = 0) : right F M = false := bend_head (by
  have : may (F 0, F 1) = false := by
    cases e : may (F 0, F 1) with
    | false => rfl
    | true => have := D.may_iff.1 e; simp only at this; omega
  unfold headOk; rw [this]; simp)
theorem bend_work {F : Nat → Int} (M : List Dot) (h : F 4 = 8) : right F M = false := bend_head (by
  unfold headOk
  rw [decide_eq_false (p := 1 ≤ F 2 ∧ F 2 ≤ 1099511627776 ∧ 0 ≤ F 4 ∧ F 4 ≤ 7) (by omega)]
  simp)
theorem bend_value {F : Nat → Int} (M : List Dot) (h : F 5 = -1) : right F M = false := by
  have : kindOk F M = false := by
    unfold kindOk
    rw [decide_eq_false (p := 0 ≤ F 5 ∧ F 5 ≤ 1099511627776) (by omega), decide_eq_false (p := F 5 = 0) (by omega)]
    simp
  unfold right
  rw [this]
  simp
end Go.Proofs.Ytlckappnpdkihaa.E
