/- The plain mathematics of layer 7: events, their numbers, what a reader's numbers say. An event is thirteen numbers F (0 Node, 1 Seq, 2 Time, 3 Kind, 4 Work, 5 Value, 6 .. 12 the policy's Min, Max, Goal, Slack, Up, Down, Cool) and the dots M that it removes. -/
import Derived.Test.YtlckappnpdkihaaDotGMath2
namespace Go.Proofs.Ytlckappnpdkihaa.E
set_option linter.unusedVariables false
set_option linter.unusedSimpArgs false
open Go.Proofs.Ytlckappnpdkihaa.D (Dot St nxt rdM failS may bef)

def rp (F : Nat → Int) : Bool := decide (0 ≤ F 6 ∧ F 6 ≤ F 7 ∧ F 7 ≤ 1000 ∧ 1 ≤ F 8 ∧ F 8 ≤ 1073741824 ∧ 0 ≤ F 9 ∧ F 9 ≤ 100 ∧ 1 ≤ F 10 ∧ F 10 ≤ 1000 ∧ 1 ≤ F 11 ∧ F 11 ≤ 1000 ∧ 0 ≤ F 12 ∧ F 12 ≤ 1000)
def pz (F : Nat → Int) : Bool := decide (F 6 = 0 ∧ F 7 = 0 ∧ F 8 = 0 ∧ F 9 = 0 ∧ F 10 = 0 ∧ F 11 = 0 ∧ F 12 = 0)
/-- The dot at i among those that are removed. -/
def rem1 (F : Nat → Int) (M : List Dot) (i : Nat) : Bool :=
  match M[i]? with
  | none => false
  | some d => may d && !decide (d = (F 0, F 1)) && (decide (i = 0) || match M[i - 1]? with | none => false | some c => bef c d)
def rems (F : Nat → Int) (M : List Dot) : Bool := (List.range M.length).all (rem1 F M)
def kindOk (F : Nat → Int) (M : List Dot) : Bool :=
  if F 3 = 1 then decide (0 ≤ F 5 ∧ F 5 ≤ 1099511627776) && pz F && decide (M.length = 0)
  else if F 3 = 2 then decide (F 5 = 0) && rp F
  else if F 3 = 3 then decide (F 5 = 0) && pz F
  else false
def headOk (F : Nat → Int) (M : List Dot) : Bool := may (F 0, F 1) && decide (1 ≤ F 2 ∧ F 2 ≤ 1099511627776 ∧ 0 ≤ F 4 ∧ F 4 ≤ 7) && decide (M.length ≤ 96)
def right (F : Nat → Int) (M : List Dot) : Bool := headOk F M && rems F M && kindOk F M
def later (F G : Nat → Int) : Bool := if F 2 = G 2 then bef (G 0, G 1) (F 0, F 1) else decide (G 2 < F 2)

def numM (M : List Dot) : List Int := M.flatMap fun d => [d.1, d.2]
def numP (F : Nat → Int) : List Int := if F 3 = 2 then [F 6, F 7, F 8, F 9, F 10, F 11, F 12] else []
def nums (F : Nat → Int) (M : List Dot) : List Int := [F 0, F 1, F 2, F 3, F 4] ++ (if F 3 = 1 then [F 5] else numP F ++ (M.length : Int) :: numM M)
/-- What Put answers. -/
def putB (F : Nat → Int) (M : List Dot) : List Int := if right F M then V.encs (nums F M) else []
def putE (F : Nat → Int) (M : List Dot) : Int := if right F M then 0 else 2

theorem right_parts {F : Nat → Int} {M : List Dot} (h : right F M = true) : may (F 0, F 1) = true ∧ (1 ≤ F 2 ∧ F 2 ≤ 1099511627776 ∧ 0 ≤ F 4 ∧ F 4 ≤ 7) ∧ M.length ≤ 96 ∧ rems F M = true ∧ kindOk F M = true := by
  unfold right headOk at h
  simp only [Bool.and_eq_true, decide_eq_true_eq] at h
  exact ⟨h.1.1.1.1, h.1.1.1.2, h.1.1.2, h.1.2, h.2⟩
theorem rems_may {F : Nat → Int} {M : List Dot} (h : rems F M = true) : ∀ d ∈ M, may d = true := fun d hd => by
  obtain ⟨i, hi, rfl⟩ := List.mem_iff_getElem.1 hd
  have := List.all_eq_true.1 h i (List.mem_range.2 hi)
  unfold rem1 at this
  rw [List.getElem?_eq_getElem hi] at this
  simp only [Bool.and_eq_true] at this
  exact this.1.1

/-- How a reader stands k numbers on, and the number there. -/
def itS (s : St) : Nat → St
  | 0 => s
  | k + 1 => (nxt (itS s k)).2
def itV (s : St) (k : Nat) : Int := (nxt (itS s k)).1
theorem itS_add (s : St) (j : Nat) : ∀ k, itS (itS s j) k = itS s (j + k)
  | 0 => rfl
  | k + 1 => by show (nxt (itS (itS s j) k)).2 = (nxt (itS s (j + k))).2; rw [itS_add s j k]
/-- Kind is none of the three: it gives up. -/
def kindS (n : Int) (s : St) : St := if s.2 = 0 ∧ (n < 1 ∨ 3 < n) then (s.1, 4) else s
def cutS (n : Int) (s : St) : St := if 96 < n then failS 6 s else s
def s4 (s : St) : St := kindS (itV s 3) (itS s 4)
/-- How many numbers of the policy. -/
def nP (k : Int) : Nat := if k = 2 then 7 else 0
def rdF (s : St) : Nat → Int := fun j =>
  if j < 4 then itV s j else if j = 4 then itV (s4 s) 0 else if j = 5 then (if itV s 3 = 1 then itV (s4 s) 1 else 0) else if j < 13 then (if itV s 3 = 2 then itV (s4 s) (j - 5) else 0) else 0
def rdN (s : St) : Int := itV (s4 s) (1 + nP (itV s 3))
def rdL (s : St) : List Dot × St := if itV s 3 = 1 then ([], itS (s4 s) 2) else rdM (rdN s).toNat (cutS (rdN s) (itS (s4 s) (2 + nP (itV s 3))))

/-- Reading a row of numbers that were put. -/
theorem it_encs : ∀ {l : List Int} (R : List Int), (∀ n ∈ l, 0 ≤ n ∧ n ≤ 1099511627776) → itS (V.encs l ++ R, 0) l.length = (R, 0) ∧ ∀ (j : Nat) (hj : j < l.length), itV (V.encs l ++ R, 0) j = l[j]
  | [], R, _ => ⟨by simp [V.encs, itS], fun j hj => by simp at hj⟩
  | n :: l, R, h => by
    have h1 := h n (by simp)
    have e : (V.encs (n :: l) ++ R, (0 : Int)) = (V.enc n ++ (V.encs l ++ R), (0 : Int)) := by rw [V.encs_cons, List.append_assoc]
    have e1 : nxt (V.encs (n :: l) ++ R, 0) = (n, (V.encs l ++ R, 0)) := by rw [e]; exact D.nxt_enc h1.1 h1.2 _
    have e2 : itS (V.encs (n :: l) ++ R, 0) 1 = (V.encs l ++ R, 0) := by show (nxt (V.encs (n :: l) ++ R, 0)).2 = _; rw [e1]
    obtain ⟨i1, i2⟩ := it_encs (l := l) R (fun m hm => h m (List.mem_cons_of_mem _ hm))
    refine ⟨?_, fun j hj => ?_⟩
    · rw [← e2, itS_add] at i1
      rw [List.length_cons, Nat.add_comm]
      exact i1
    · rcases j with _ | j
      · show (nxt (V.encs (n :: l) ++ R, 0)).1 = n
        rw [e1]
      · have := i2 j (by simpa using hj)
        have e3 : itV (V.encs (n :: l) ++ R, 0) (j + 1) = itV (V.encs l ++ R, 0) j := by
          unfold itV
          rw [← e2, itS_add, Nat.add_comm]
        rw [e3, this]
        rfl
theorem encs_numM (M : List Dot) : V.encs (numM M) = D.encM M := by
  induction M with
  | nil => rfl
  | cons d M ih =>
    have : numM (d :: M) = d.1 :: d.2 :: numM M := rfl
    rw [this, V.encs_cons, V.encs_cons, ih]
    simp [D.encM]
theorem encs_app (a b : List Int) : V.encs (a ++ b) = V.encs a ++ V.encs b := by simp [V.encs]
/-- As D.rdM_enc, with bytes behind. -/
theorem rdM_enc' : ∀ {M : List Dot} (R : List Int), (∀ d ∈ M, may d = true) → rdM M.length (D.encM M ++ R, 0) = (M, (R, 0))
  | [], R, _ => rfl
  | d :: M, R, h => by
    have hd := D.may_iff.1 (h d (by simp))
    have e : D.encM (d :: M) ++ R = V.enc d.1 ++ (V.enc d.2 ++ (D.encM M ++ R)) := by simp [D.encM]
    have n1 : nxt (D.encM (d :: M) ++ R, 0) = (d.1, (V.enc d.2 ++ (D.encM M ++ R), 0)) := by rw [e]; exact D.nxt_enc hd.1 (by omega) _
    have n2 : nxt (V.enc d.2 ++ (D.encM M ++ R), 0) = (d.2, (D.encM M ++ R, 0)) := D.nxt_enc (by omega) (by omega) _
    rw [List.length_cons, D.rdM_more rfl, n1]
    simp only
    rw [n2]
    simp only
    rw [rdM_enc' R (fun x hx => h x (List.mem_cons_of_mem _ hx))]
/-- What is read of an event's bytes. -/
theorem rd_put {F : Nat → Int} {M : List Dot} (R : List Int) (h : right F M = true) : (∀ k, k < 13 → rdF (V.encs (nums F M) ++ R, 0) k = F k) ∧ rdL (V.encs (nums F M) ++ R, 0) = (M, (R, 0)) := by
  obtain ⟨hm, ⟨h2, h2', h4, h4'⟩, hl, hr, hk⟩ := right_parts h
  have hm' := D.may_iff.1 hm
  simp only at hm'
  have hM := rems_may hr
  obtain ⟨s, hs⟩ : ∃ s : St, s = (V.encs (nums F M) ++ R, 0) := ⟨_, rfl⟩
  obtain ⟨r, hrr⟩ : ∃ r, nums F M = [F 0, F 1, F 2, F 3] ++ (F 4 :: r) ∧ r = (if F 3 = 1 then [F 5] else numP F ++ (M.length : Int) :: numM M) := ⟨_, rfl, rfl⟩
  have h3 : F 3 = 1 ∨ F 3 = 2 ∨ F 3 = 3 := by
    unfold kindOk at hk
    split at hk
    · omega
    · split at hk
      · omega
      · split at hk
        · omega
        · cases hk
  have es : s = (V.encs [F 0, F 1, F 2, F 3] ++ (V.encs (F 4 :: r) ++ R), 0) := by rw [hs, hrr.1, encs_app, List.append_assoc]
  obtain ⟨a1, a2⟩ := it_encs (l := [F 0, F 1, F 2, F 3]) (V.encs (F 4 :: r) ++ R) (by
    intro n hn
    simp at hn
    rcases hn with rfl | rfl | rfl | rfl
    all_goals omega)
  rw [← es] at a1 a2
  have v0 : itV s 0 = F 0 := a2 0 (by simp)
  have v1 : itV s 1 = F 1 := a2 1 (by simp)
  have v2 : itV s 2 = F 2 := a2 2 (by simp)
  have v3 : itV s 3 = F 3 := a2 3 (by simp)
  have e4 : s4 s = (V.encs (F 4 :: r) ++ R, 0) := by
    unfold s4 kindS
    rw [v3, show itS s 4 = _ from a1, if_neg (by rintro ⟨_, h | h⟩ <;> omega)]
  have first : ∀ k, k < 4 → rdF s k = F k := fun k hk => by
    unfold rdF
    rw [if_pos hk]
    rcases k with _ | _ | _ | _ | k
    · exact v0
    · exact v1
    · exact v2
    · exact v3
    · omega
  rw [← hs]
  unfold kindOk at hk
  rcases h3 with k1 | k2 | k3
  · rw [if_pos k1] at hk
    simp only [Bool.and_eq_true, decide_eq_true_eq, pz] at hk
    obtain ⟨⟨hv, hz⟩, hn⟩ := hk
    have hMn : M = [] := List.eq_nil_of_length_eq_zero hn
    have er : F 4 :: r = [F 4, F 5] := by rw [hrr.2, if_pos k1]
    obtain ⟨b1, b2⟩ := it_encs (l := [F 4, F 5]) R (by
      intro n hn
      simp at hn
      rcases hn with rfl | rfl
      all_goals omega)
    rw [er] at e4
    rw [← e4] at b1 b2
    refine ⟨fun k hk' => ?_, ?_⟩
    · by_cases hk4 : k < 4
      · exact first k hk4
      · unfold rdF
        rw [if_neg hk4, v3]
        obtain rfl | rfl | hk6 : k = 4 ∨ k = 5 ∨ 6 ≤ k := by omega
        · rw [if_pos rfl]; exact b2 0 (by simp)
        · rw [if_neg (by omega), if_pos rfl, if_pos k1]; exact b2 1 (by simp)
        · rw [if_neg (by omega), if_neg (by omega), if_pos hk', if_neg (by omega)]
          obtain ⟨z6, z7, z8, z9, z10, z11, z12⟩ := hz
          obtain rfl | rfl | rfl | rfl | rfl | rfl | rfl : k = 6 ∨ k = 7 ∨ k = 8 ∨ k = 9 ∨ k = 10 ∨ k = 11 ∨ k = 12 := by omega
          all_goals omega
    · unfold rdL
      rw [v3, if_pos k1, show itS (s4 s) 2 = _ from b1, hMn]
  · rw [if_neg (by omega), if_pos k2] at hk
    simp only [Bool.and_eq_true, decide_eq_true_eq, rp] at hk
    obtain ⟨hv, hp⟩ := hk
    have er : F 4 :: r = [F 4, F 6, F 7, F 8, F 9, F 10, F 11, F 12, (M.length : Int)] ++ numM M := by rw [hrr.2, if_neg (by omega)]; unfold numP; rw [if_pos k2]; rfl
    obtain ⟨b1, b2⟩ := it_encs (l := [F 4, F 6, F 7, F 8, F 9, F 10, F 11, F 12, (M.length : Int)]) (D.encM M ++ R) (by
      intro n hn
      simp at hn
      rcases hn with rfl | rfl | rfl | rfl | rfl | rfl | rfl | rfl | rfl
      all_goals omega)
    rw [er, encs_app, encs_numM, List.append_assoc] at e4
    rw [← e4] at b1 b2
    have hN : rdN s = (M.length : Int) := by
      unfold rdN nP
      rw [v3, if_pos k2]
      exact b2 8 (by simp)
    refine ⟨fun k hk' => ?_, ?_⟩
    · by_cases hk4 : k < 4
      · exact first k hk4
      · unfold rdF
        rw [if_neg hk4, v3]
        obtain rfl | rfl | hk6 : k = 4 ∨ k = 5 ∨ 6 ≤ k := by omega
        · rw [if_pos rfl]; exact b2 0 (by simp)
        · rw [if_neg (by omega), if_pos rfl, if_neg (by omega)]; omega
        · rw [if_neg (by omega), if_neg (by omega), if_pos hk', if_pos k2]
          obtain rfl | rfl | rfl | rfl | rfl | rfl | rfl : k = 6 ∨ k = 7 ∨ k = 8 ∨ k = 9 ∨ k = 10 ∨ k = 11 ∨ k = 12 := by omega
          · exact b2 1 (by simp)
          · exact b2 2 (by simp)
          · exact b2 3 (by simp)
          · exact b2 4 (by simp)
          · exact b2 5 (by simp)
          · exact b2 6 (by simp)
          · exact b2 7 (by simp)
    · unfold rdL
      rw [v3, if_neg (by omega), hN]
      unfold nP cutS
      rw [if_pos k2, if_neg (by omega), show itS (s4 s) (2 + 7) = _ from b1]
      simpa using rdM_enc' R hM
  · rw [if_neg (by omega), if_neg (by omega), if_pos k3] at hk
    simp only [Bool.and_eq_true, decide_eq_true_eq, pz] at hk
    obtain ⟨hv, hz⟩ := hk
    have er : F 4 :: r = [F 4, (M.length : Int)] ++ numM M := by rw [hrr.2, if_neg (by omega)]; unfold numP; rw [if_neg (by omega)]; rfl
    obtain ⟨b1, b2⟩ := it_encs (l := [F 4, (M.length : Int)]) (D.encM M ++ R) (by
      intro n hn
      simp at hn
      rcases hn with rfl | rfl
      all_goals omega)
    rw [er, encs_app, encs_numM, List.append_assoc] at e4
    rw [← e4] at b1 b2
    have hN : rdN s = (M.length : Int) := by
      unfold rdN nP
      rw [v3, if_neg (by omega)]
      exact b2 1 (by simp)
    refine ⟨fun k hk' => ?_, ?_⟩
    · by_cases hk4 : k < 4
      · exact first k hk4
      · unfold rdF
        rw [if_neg hk4, v3]
        obtain rfl | rfl | hk6 : k = 4 ∨ k = 5 ∨ 6 ≤ k := by omega
        · rw [if_pos rfl]; exact b2 0 (by simp)
        · rw [if_neg (by omega), if_pos rfl, if_neg (by omega)]; omega
        · rw [if_neg (by omega), if_neg (by omega), if_pos hk', if_neg (by omega)]
          obtain ⟨z6, z7, z8, z9, z10, z11, z12⟩ := hz
          obtain rfl | rfl | rfl | rfl | rfl | rfl | rfl : k = 6 ∨ k = 7 ∨ k = 8 ∨ k = 9 ∨ k = 10 ∨ k = 11 ∨ k = 12 := by omega
          all_goals omega
    · unfold rdL
      rw [v3, if_neg (by omega), hN]
      unfold nP cutS
      rw [if_neg (by omega), if_neg (by omega), show itS (s4 s) (2 + 0) = _ from b1]
      simpa using rdM_enc' R hM
end Go.Proofs.Ytlckappnpdkihaa.E
