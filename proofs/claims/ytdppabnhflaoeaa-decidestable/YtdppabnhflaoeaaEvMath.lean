/- The plain mathematics of layer 6: what a reader's numbers say, and the set that bytes are. | The plain mathematics of layer 6: what is put is got, what is got is put; dots added one by one. | The plain mathematics of layer 7: events, their numbers, what a reader's numbers say. An event is thirteen numbers F (0 Node, 1 Seq, 2 Time, 3 Kind, 4 Work, 5 Value, 6 .. 12 the policy's Min, Max, Goal, Slack, Up, Down, Cool) and the dots M that it removes. | The plain mathematics of layer 7: what is got is put as it was; many events. -/
import Derived.Test.YtdppabnhflaoeaaDotMath

section
namespace Go.Proofs.Ytdppabnhflaoeaa.D
set_option linter.unusedVariables false
set_option linter.unusedSimpArgs false

abbrev St := List Int × Int
def nxt (s : St) : Int × St := V.intS s.1 s.2
/-- How the reader stands behind k numbers, and the number there. -/
def stK (L : List Int) : Nat → St
  | 0 => (L, 0)
  | k + 1 => (nxt (stK L k)).2
def vK (L : List Int) (k : Nat) : Int := (nxt (stK L k)).1
def upTo (L : List Int) (k : Nat) : Nat → Int := fun j => if j < k then vK L j else 0
/-- Failed by x, unless it did before. -/
def failS (x : Int) (s : St) : St := (s.1, if s.2 = 0 then x else s.2)
def cut (n : Int) (s : St) : St := if 768 < n then failS 6 s else s
def rdM : Nat → St → List Dot × St
  | 0, s => ([], s)
  | n + 1, s => if s.2 = 0 then (((nxt s).1, (nxt (nxt s).2).1) :: (rdM n (nxt (nxt s).2).2).1, (rdM n (nxt (nxt s).2).2).2) else ([], s)
def gS (L : List Int) : St := cut (vK L 8) (stK L 9)
def gR (L : List Int) : List Dot × St := rdM (vK L 8).toNat (gS L)
def gU (L : List Int) : Nat → Int := upTo L 8
def gE (L : List Int) : Int := if (gR L).2.2 = 0 then (if (gR L).2.1 ≠ [] ∨ rt (gU L) (gR L).1 = false then 4 else 0) else (gR L).2.2
/-- What Get answers. -/
def getU (L : List Int) : Nat → Int := if gE L = 0 then gU L else fun _ => 0
def getM (L : List Int) : List Dot := if gE L = 0 then (gR L).1 else []

theorem rdM_zero (s : St) : rdM 0 s = ([], s) := rfl
theorem rdM_bad {n : Nat} {s : St} (h : s.2 ≠ 0) : rdM n s = ([], s) := by
  cases n with
  | zero => rfl
  | succ n => unfold rdM; rw [if_neg h]
theorem rdM_more {n : Nat} {s : St} (h : s.2 = 0) : rdM (n + 1) s = (((nxt s).1, (nxt (nxt s).2).1) :: (rdM n (nxt (nxt s).2).2).1, (rdM n (nxt (nxt s).2).2).2) := by
  conv => lhs; unfold rdM
  rw [if_pos h]
theorem rdM_len : ∀ (n : Nat) (s : St), (rdM n s).1.length ≤ n
  | 0, s => by simp [rdM]
  | n + 1, s => by
    unfold rdM
    split
    · have := rdM_len n (nxt (nxt s).2).2
      simp; omega
    · simp
theorem failS_ne {x : Int} (hx : x ≠ 0) (s : St) : (failS x s).2 ≠ 0 := by
  unfold failS
  split
  · exact hx
  · assumption
theorem gS_ok {L : List Int} (h : (gS L).2 = 0) : vK L 8 ≤ 768 := by
  unfold gS cut at h
  split at h
  · exact absurd h (failS_ne (by omega) _)
  · omega
theorem gM_len (L : List Int) : (gR L).1.length ≤ 768 := by
  unfold gR
  by_cases h : (gS L).2 = 0
  · have h1 := gS_ok h
    have h2 := rdM_len (vK L 8).toNat (gS L)
    omega
  · rw [rdM_bad h]; simp
theorem upTo_zero (L : List Int) : upTo L 0 = fun _ => 0 := by funext j; simp [upTo]
theorem upTo_succ (L : List Int) (k : Nat) : (fun j => if j = k then vK L k else upTo L k j) = upTo L (k + 1) := by
  funext j
  unfold upTo
  by_cases h : j = k
  · subst h; simp
  · by_cases h2 : j < k
    · simp [h, h2, show j < k + 1 by omega]
    · simp [h, h2, show ¬ j < k + 1 by omega]
theorem getM_len (L : List Int) : (getM L).length ≤ 768 := by
  unfold getM
  split
  · exact gM_len L
  · simp
/-- The loop: what was read so far, and what the rest comes to. -/
def Sofar (L : List Int) (M : List Dot) (s : St) : Prop := gR L = (M ++ (rdM ((vK L 8).toNat - M.length) s).1, (rdM ((vK L 8).toNat - M.length) s).2)
theorem Sofar.start (L : List Int) : Sofar L [] (gS L) := by unfold Sofar gR; simp
theorem Sofar.more {L : List Int} {M : List Dot} {s : St} (h : Sofar L M s) (hs : s.2 = 0) (hl : M.length < (vK L 8).toNat) : Sofar L (M ++ [((nxt s).1, (nxt (nxt s).2).1)]) (nxt (nxt s).2).2 := by
  unfold Sofar at *
  rw [show (vK L 8).toNat - M.length = ((vK L 8).toNat - (M ++ [((nxt s).1, (nxt (nxt s).2).1)]).length) + 1 by simp; omega, rdM_more hs] at h
  rw [h]
  simp
theorem Sofar.done {L : List Int} {M : List Dot} {s : St} (h : Sofar L M s) (hl : ¬ M.length < (vK L 8).toNat) : gR L = (M, s) := by
  unfold Sofar at h
  rw [show (vK L 8).toNat - M.length = 0 by omega] at h
  simpa [rdM] using h
theorem Sofar.bad {L : List Int} {M : List Dot} {s : St} (h : Sofar L M s) (hs : s.2 ≠ 0) : gR L = (M, s) := by
  unfold Sofar at h
  rw [rdM_bad hs] at h
  simpa using h
end Go.Proofs.Ytdppabnhflaoeaa.D
end

section
namespace Go.Proofs.Ytdppabnhflaoeaa.D
set_option linter.unusedVariables false
set_option linter.unusedSimpArgs false

theorem nxt_enc {m : Int} (h0 : 0 ≤ m) (h1 : m ≤ 1099511627776) (r : List Int) : nxt (V.enc m ++ r, 0) = (m, (r, 0)) := by
  unfold nxt V.intS
  simp [V.int_enc h0 h1 r]
theorem nxt_bad {s : St} (h : s.2 ≠ 0) : nxt s = (0, s) := by
  unfold nxt V.intS
  rw [if_neg h]
theorem nxt_ok {s : St} (h : (nxt s).2.2 = 0) : s.2 = 0 := by
  by_cases hs : s.2 = 0
  · exact hs
  · rw [nxt_bad hs] at h; exact h
theorem nxt_back {s : St} (hB : ∀ b ∈ s.1, 0 ≤ b ∧ b < 256) (h : (nxt s).2.2 = 0) : s.1 = V.enc (nxt s).1 ++ (nxt s).2.1 ∧ 0 ≤ (nxt s).1 ∧ ∀ b ∈ (nxt s).2.1, 0 ≤ b ∧ b < 256 := by
  have hs := nxt_ok h
  have e : nxt s = ((V.int s.1).1, s.1.drop (V.int s.1).2.1, (V.int s.1).2.2) := by unfold nxt V.intS; rw [if_pos hs]
  rw [e] at h ⊢
  simp only at h ⊢
  obtain ⟨h1, h2, h3, h4⟩ := V.int_back hB h
  exact ⟨h1, h3, fun b hb => hB b (List.mem_of_mem_drop hb)⟩
theorem encU_pre (U : Nat → Int) : ∀ (k d : Nat), ∃ X, encU U (k + d) = encU U k ++ X
  | k, 0 => ⟨[], by simp⟩
  | k, d + 1 => by
    obtain ⟨X, h⟩ := encU_pre U k d
    exact ⟨X ++ V.enc (U (k + d)), by rw [show k + (d + 1) = (k + d) + 1 by omega]; show encU U (k + d) ++ V.enc (U (k + d)) = _; rw [h, List.append_assoc]⟩
theorem stK_enc {U : Nat → Int} {R : List Int} (h : ∀ k, k < 8 → 0 ≤ U k ∧ U k ≤ 96) : ∀ k, k ≤ 8 → stK (encU U 8 ++ R) k = ((encU U 8 ++ R).drop (encU U k).length, 0) ∧ ∀ j, j < k → vK (encU U 8 ++ R) j = U j
  | 0, _ => ⟨by simp [stK, encU], fun j hj => by omega⟩
  | k + 1, hk => by
    obtain ⟨h1, h2⟩ := stK_enc (R := R) h k (by omega)
    obtain ⟨X, hX⟩ := encU_pre U (k + 1) (8 - (k + 1))
    rw [show k + 1 + (8 - (k + 1)) = 8 by omega] at hX
    have hu := h k (by omega)
    have e1 : (encU U 8 ++ R).drop (encU U k).length = V.enc (U k) ++ (X ++ R) := by
      rw [hX]; show ((encU U k ++ V.enc (U k)) ++ X ++ R).drop _ = _; simp
    have e2 : (encU U 8 ++ R).drop (encU U (k + 1)).length = X ++ R := by rw [hX]; simp
    have e3 : nxt (stK (encU U 8 ++ R) k) = (U k, (X ++ R, 0)) := by rw [h1, e1]; exact nxt_enc hu.1 (by omega) _
    refine ⟨?_, fun j hj => ?_⟩
    · show (nxt (stK (encU U 8 ++ R) k)).2 = _
      rw [e3, e2]
    · rcases Nat.lt_or_ge j k with hj' | hj'
      · exact h2 j hj'
      · obtain rfl : j = k := by omega
        show (nxt (stK (encU U 8 ++ R) j)).1 = _
        rw [e3]
theorem rdM_enc : ∀ {M : List Dot}, (∀ d ∈ M, may d = true) → rdM M.length (encM M, 0) = (M, ([], 0))
  | [], _ => rfl
  | d :: M, h => by
    have hd := may_iff.1 (h d (by simp))
    have e : encM (d :: M) = V.enc d.1 ++ (V.enc d.2 ++ encM M) := by simp [encM]
    have n1 : nxt (encM (d :: M), 0) = (d.1, (V.enc d.2 ++ encM M, 0)) := by rw [e]; exact nxt_enc hd.1 (by omega) _
    have n2 : nxt (V.enc d.2 ++ encM M, 0) = (d.2, (encM M, 0)) := nxt_enc (by omega) (by omega) _
    rw [List.length_cons, rdM_more rfl, n1]
    simp only
    rw [n2]
    simp only
    rw [rdM_enc (fun x hx => h x (List.mem_cons_of_mem _ hx))]
/-- What is put is got. -/
theorem get_enc {U : Nat → Int} {M : List Dot} (h : rt U M = true) : gE (encS U M) = 0 ∧ (∀ k, k < 8 → getU (encS U M) k = U k) ∧ getM (encS U M) = M := by
  have hU := (rt_iff.1 h).1
  have hM : ∀ d ∈ M, may d = true := fun d hd => (rt_may h hd).1
  have hl := rt_len h
  have eS : encS U M = encU U 8 ++ (V.enc (M.length : Int) ++ encM M) := by unfold encS; rw [List.append_assoc]
  obtain ⟨s8, v8⟩ := stK_enc (R := V.enc (M.length : Int) ++ encM M) hU 8 (Nat.le_refl _)
  rw [← eS] at s8 v8
  have e8 : (encS U M).drop (encU U 8).length = V.enc (M.length : Int) ++ encM M := by rw [eS]; simp
  rw [e8] at s8
  have n8 : nxt (stK (encS U M) 8) = ((M.length : Int), (encM M, 0)) := by rw [s8]; exact nxt_enc (by omega) (by omega) _
  have v : vK (encS U M) 8 = M.length := by unfold vK; rw [n8]
  have s9 : stK (encS U M) 9 = (encM M, 0) := by show (nxt (stK (encS U M) 8)).2 = _; rw [n8]
  have g : gR (encS U M) = (M, ([], 0)) := by
    unfold gR gS cut
    rw [v, s9, if_neg (by omega)]
    simpa using rdM_enc hM
  have gu : ∀ k, k < 8 → gU (encS U M) k = U k := fun k hk => by unfold gU upTo; rw [if_pos hk]; exact v8 k hk
  have r : rt (gU (encS U M)) M = true := ord_rt (fun k hk => by rw [gu k hk]; exact hU k hk) (rt_ord h) fun d hd => by
    have := rt_may h hd
    have hm := may_iff.1 this.1
    rw [gu d.1.toNat (by omega)]
    exact this
  have e : gE (encS U M) = 0 := by unfold gE; rw [g]; simp [r]
  refine ⟨e, fun k hk => ?_, ?_⟩
  · unfold getU; rw [if_pos e]; exact gu k hk
  · unfold getM; rw [if_pos e, g]
theorem rdM_ok {n : Nat} {s : St} (h : (rdM n s).2.2 = 0) : s.2 = 0 := by
  by_cases hs : s.2 = 0
  · exact hs
  · rw [rdM_bad hs] at h; exact h
theorem rdM_back : ∀ {n : Nat} {s : St}, (∀ b ∈ s.1, 0 ≤ b ∧ b < 256) → (rdM n s).2.2 = 0 → s.1 = encM (rdM n s).1 ++ (rdM n s).2.1 ∧ (rdM n s).1.length = n
  | 0, s, hB, h => by simp [rdM, encM]
  | n + 1, s, hB, h => by
    have hs := rdM_ok h
    rw [rdM_more hs] at h ⊢
    simp only at h ⊢
    have h2 := rdM_ok h
    have h1 := nxt_ok h2
    obtain ⟨a1, _, a3⟩ := nxt_back hB h1
    obtain ⟨b1, _, b3⟩ := nxt_back a3 h2
    obtain ⟨c1, c2⟩ := rdM_back b3 h
    refine ⟨?_, by simp [c2]⟩
    rw [a1, b1, c1]
    simp [encM]
theorem stK_back {L : List Int} (hB : ∀ b ∈ L, 0 ≤ b ∧ b < 256) : ∀ k, k ≤ 8 → (stK L k).2 = 0 → L = encU (gU L) k ++ (stK L k).1 ∧ ∀ b ∈ (stK L k).1, 0 ≤ b ∧ b < 256
  | 0, _, _ => ⟨by simp [stK, encU], hB⟩
  | k + 1, hk, h => by
    have h' : (nxt (stK L k)).2.2 = 0 := h
    obtain ⟨h1, h2⟩ := stK_back hB k (by omega) (nxt_ok h')
    obtain ⟨a1, a2, a3⟩ := nxt_back h2 h'
    refine ⟨?_, a3⟩
    have e : gU L k = (nxt (stK L k)).1 := by unfold gU upTo; rw [if_pos (by omega)]; rfl
    show L = (encU (gU L) k ++ V.enc (gU L k)) ++ (nxt (stK L k)).2.1
    rw [e, List.append_assoc, ← a1]
    exact h1
/-- What is got is put as it was. -/
theorem get_back {L : List Int} (hB : ∀ b ∈ L, 0 ≤ b ∧ b < 256) (h : gE L = 0) : rt (getU L) (getM L) = true ∧ encS (getU L) (getM L) = L := by
  have eU : getU L = gU L := by unfold getU; rw [if_pos h]
  have eM : getM L = (gR L).1 := by unfold getM; rw [if_pos h]
  rw [eU, eM]
  unfold gE at h
  split at h
  · next hx =>
    split at h
    · omega
    · next hn =>
      have hl : (gR L).2.1 = [] := Classical.byContradiction fun e => hn (.inl e)
      have hr : rt (gU L) (gR L).1 = true := by
        cases e : rt (gU L) (gR L).1 with
        | true => rfl
        | false => exact absurd (.inr e) hn
      refine ⟨hr, ?_⟩
      have hx' : (rdM (vK L 8).toNat (gS L)).2.2 = 0 := hx
      have hg := rdM_ok hx'
      have hv := gS_ok hg
      have e9 : gS L = stK L 9 := by unfold gS cut; rw [if_neg (by omega)]
      rw [e9] at hg
      have h9 : (nxt (stK L 8)).2.2 = 0 := hg
      obtain ⟨s1, s2⟩ := stK_back hB 8 (Nat.le_refl _) (nxt_ok h9)
      obtain ⟨a1, a2, a3⟩ := nxt_back s2 h9
      have hb9 : ∀ b ∈ (gS L).1, 0 ≤ b ∧ b < 256 := by rw [e9]; exact a3
      obtain ⟨b1, b2⟩ := rdM_back hb9 hx'
      have hl' : (rdM (vK L 8).toNat (gS L)).2.1 = [] := hl
      rw [hl', List.append_nil, e9] at b1
      have hv0 : 0 ≤ vK L 8 := a2
      have hlen : ((gR L).1.length : Int) = vK L 8 := by
        have : (gR L).1.length = (vK L 8).toNat := b2
        omega
      unfold encS
      rw [hlen]
      conv => rhs; rw [s1, a1]
      rw [List.append_assoc]
      congr 2
      have : (nxt (stK L 8)).2.1 = (stK L 9).1 := rfl
      rw [this, b1]
      show _ = encM (rdM (vK L 8).toNat (stK L 9)).1
      unfold gR
      rw [e9]
  · next hx => exact absurd h hx
/-- A dot added to a right set: the set is what it was, or with the dot. -/
theorem add_step (T : Dot → Bool) (d : Dot) : ∃ T' : Dot → Bool, ((add (cU T) (cM T) d).2.2 = 0 → (add (cU T) (cM T) d).1 = cU T' ∧ (add (cU T) (cM T) d).2.1 = cM T') ∧ ((add (cU T) (cM T) d).2.2 ≠ 0 → T' = T) ∧ ∀ x, may x = true → T' x = (T x || x == d) := by
  unfold add
  by_cases hm : may d = false
  · rw [if_pos hm]
    refine ⟨T, fun h => absurd h (by simp), fun _ => rfl, fun x hx => ?_⟩
    have : x ≠ d := fun e => by rw [e, hm] at hx; cases hx
    simp [this]
  · rw [if_neg hm]
    have hmd : may d = true := by simpa using hm
    by_cases hh : has (cU T) (cM T) d = true
    · rw [if_pos hh]
      refine ⟨T, fun h => by simp at h, fun _ => rfl, fun x hx => ?_⟩
      rw [cl_has, hmd] at hh
      by_cases e : x = d
      · subst e; simpa using hh
      · simp [e]
    · rw [if_neg hh]
      obtain ⟨F, hF⟩ : ∃ F : Dot → Bool, F = (fun x => if x = d then true else has (cU T) (cM T) x) := ⟨_, rfl⟩
      rw [← hF]
      refine ⟨F, fun _ => ⟨by dsimp only, by dsimp only⟩, fun h => absurd rfl h, fun x hx => ?_⟩
      rw [hF]
      by_cases e : x = d
      · simp [e]
      · simp [e, cl_has, hx]
theorem cl_same {T T' : Dot → Bool} (h : ∀ x, may x = true → T x = T' x) : (∀ k, k < 8 → cU T k = cU T' k) ∧ cM T = cM T' := ⟨fun k hk => cU_congr hk h, cM_congr h⟩
theorem cl_none : (∀ k, k < 8 → cU (fun _ => false) k = 0) ∧ cM (fun _ => false) = [] := by
  refine ⟨fun k hk => ?_, ?_⟩
  · unfold cU
    rw [gap_is (S := fun _ => false) (n := k) (m := 0) (by omega) (fun j hj => by omega) (fun _ => rfl)]
    rfl
  · refine List.eq_nil_iff_forall_not_mem.2 fun d hd => ?_
    have := (mem_cM.1 hd).2.1
    cases this
/-- The dots of the first i, of the last i. -/
def Tak (l : List Dot) (i : Nat) (T : Dot → Bool) : Prop := ∀ x, may x = true → (T x = true ↔ x ∈ l.take i)
def Las (l : List Dot) (i : Nat) (T : Dot → Bool) : Prop := ∀ x, may x = true → (T x = true ↔ x ∈ l.drop (l.length - i))
theorem Tak.zero (l : List Dot) : Tak l 0 (fun _ => false) := fun x _ => by simp
theorem Las.zero (l : List Dot) : Las l 0 (fun _ => false) := fun x _ => by simp
theorem Tak.more {l : List Dot} {i : Nat} {T T' : Dot → Bool} (h : Tak l i T) (hi : i < l.length) (h' : ∀ x, may x = true → T' x = (T x || x == l[i])) : Tak l (i + 1) T' := fun x hx => by
  rw [h' x hx, List.take_succ_eq_append_getElem hi, List.mem_append, Bool.or_eq_true, h x hx]
  simp
theorem Las.more {l : List Dot} {i : Nat} {T T' : Dot → Bool} (h : Las l i T) (hi : i < l.length) (h' : ∀ x, may x = true → T' x = (T x || x == l[l.length - 1 - i])) : Las l (i + 1) T' := fun x hx => by
  rw [h' x hx, Bool.or_eq_true, h x hx, show l.length - (i + 1) = l.length - 1 - i by omega, List.drop_eq_getElem_cons (i := l.length - 1 - i) (by omega), show l.length - 1 - i + 1 = l.length - i by omega, List.mem_cons]
  simp
  exact Or.comm
theorem tak_las {l : List Dot} {T T' : Dot → Bool} (h : Tak l l.length T) (h' : Las l l.length T') : ∀ x, may x = true → T x = T' x := fun x hx => by
  have e1 := h x hx
  have e2 := h' x hx
  rw [List.take_length] at e1
  rw [Nat.sub_self, List.drop_zero] at e2
  cases a : T x <;> cases b : T' x <;> simp_all
end Go.Proofs.Ytdppabnhflaoeaa.D
end

section
namespace Go.Proofs.Ytdppabnhflaoeaa.E
set_option linter.unusedVariables false
set_option linter.unusedSimpArgs false
open Go.Proofs.Ytdppabnhflaoeaa.D (Dot St nxt rdM failS may bef)

def rp (F : Nat → Int) : Bool := decide (0 ≤ F 6 ∧ F 6 ≤ F 7 ∧ F 7 ≤ 1000 ∧ 1 ≤ F 8 ∧ F 8 ≤ 1073741824 ∧ 0 ≤ F 9 ∧ F 9 ≤ 100 ∧ 1 ≤ F 10 ∧ F 10 ≤ 1000 ∧ 1 ≤ F 11 ∧ F 11 ≤ 1000 ∧ 0 ≤ F 12 ∧ F 12 ≤ 1000)
def pz (F : Nat → Int) : Bool := decide (F 6 = 0 ∧ F 7 = 0 ∧ F 8 = 0 ∧ F 9 = 0 ∧ F 10 = 0 ∧ F 11 = 0 ∧ F 12 = 0)
/-- The dot at i among those that are removed. -/
def rem1 (F : Nat → Int) (M : List Dot) (i : Nat) : Bool :=
  match M[i]? with
  | none => false
  | some d => may d && !decide (d = (F 0, F 1)) && (decide (i = 0) || match M[i - 1]? with | none => false | some c => bef c d)
def rems (F : Nat → Int) (M : List Dot) : Bool := (List.range M.length).all (rem1 F M)
def kindOk (F : Nat → Int) (M : List Dot) : Bool :=
  if F 3 = 1 then decide (0 ≤ F 5 ∧ F 5 ≤ 1099511627776) && pz F && decide (M.length = 0)
  else if F 3 = 2 then decide (F 5 = 0) && rp F
  else if F 3 = 3 then decide (F 5 = 0) && pz F
  else false
def headOk (F : Nat → Int) (M : List Dot) : Bool := may (F 0, F 1) && decide (1 ≤ F 2 ∧ F 2 ≤ 1099511627776 ∧ 0 ≤ F 4 ∧ F 4 ≤ 7) && decide (M.length ≤ 96)
def right (F : Nat → Int) (M : List Dot) : Bool := headOk F M && rems F M && kindOk F M
def later (F G : Nat → Int) : Bool := if F 2 = G 2 then bef (G 0, G 1) (F 0, F 1) else decide (G 2 < F 2)

def numM (M : List Dot) : List Int := M.flatMap fun d => [d.1, d.2]
def numP (F : Nat → Int) : List Int := if F 3 = 2 then [F 6, F 7, F 8, F 9, F 10, F 11, F 12] else []
def nums (F : Nat → Int) (M : List Dot) : List Int := [F 0, F 1, F 2, F 3, F 4] ++ (if F 3 = 1 then [F 5] else numP F ++ (M.length : Int) :: numM M)
/-- What Put answers. -/
def putB (F : Nat → Int) (M : List Dot) : List Int := if right F M then V.encs (nums F M) else []
def putE (F : Nat → Int) (M : List Dot) : Int := if right F M then 0 else 2

theorem right_parts {F : Nat → Int} {M : List Dot} (h : right F M = true) : may (F 0, F 1) = true ∧ (1 ≤ F 2 ∧ F 2 ≤ 1099511627776 ∧ 0 ≤ F 4 ∧ F 4 ≤ 7) ∧ M.length ≤ 96 ∧ rems F M = true ∧ kindOk F M = true := by
  unfold right headOk at h
  simp only [Bool.and_eq_true, decide_eq_true_eq] at h
  exact ⟨h.1.1.1.1, h.1.1.1.2, h.1.1.2, h.1.2, h.2⟩
theorem rems_may {F : Nat → Int} {M : List Dot} (h : rems F M = true) : ∀ d ∈ M, may d = true := fun d hd => by
  obtain ⟨i, hi, rfl⟩ := List.mem_iff_getElem.1 hd
  have := List.all_eq_true.1 h i (List.mem_range.2 hi)
  unfold rem1 at this
  rw [List.getElem?_eq_getElem hi] at this
  simp only [Bool.and_eq_true] at this
  exact this.1.1

/-- How a reader stands k numbers on, and the number there. -/
def itS (s : St) : Nat → St
  | 0 => s
  | k + 1 => (nxt (itS s k)).2
def itV (s : St) (k : Nat) : Int := (nxt (itS s k)).1
theorem itS_add (s : St) (j : Nat) : ∀ k, itS (itS s j) k = itS s (j + k)
  | 0 => rfl
  | k + 1 => by show (nxt (itS (itS s j) k)).2 = (nxt (itS s (j + k))).2; rw [itS_add s j k]
/-- Kind is none of the three: it gives up. -/
def kindS (n : Int) (s : St) : St := if s.2 = 0 ∧ (n < 1 ∨ 3 < n) then (s.1, 4) else s
def cutS (n : Int) (s : St) : St := if 96 < n then failS 6 s else s
def s4 (s : St) : St := kindS (itV s 3) (itS s 4)
/-- How many numbers of the policy. -/
def nP (k : Int) : Nat := if k = 2 then 7 else 0
def rdF (s : St) : Nat → Int := fun j =>
  if j < 4 then itV s j else if j = 4 then itV (s4 s) 0 else if j = 5 then (if itV s 3 = 1 then itV (s4 s) 1 else 0) else if j < 13 then (if itV s 3 = 2 then itV (s4 s) (j - 5) else 0) else 0
def rdN (s : St) : Int := itV (s4 s) (1 + nP (itV s 3))
def rdL (s : St) : List Dot × St := if itV s 3 = 1 then ([], itS (s4 s) 2) else rdM (rdN s).toNat (cutS (rdN s) (itS (s4 s) (2 + nP (itV s 3))))

/-- Reading a row of numbers that were put. -/
theorem it_encs : ∀ {l : List Int} (R : List Int), (∀ n ∈ l, 0 ≤ n ∧ n ≤ 1099511627776) → itS (V.encs l ++ R, 0) l.length = (R, 0) ∧ ∀ (j : Nat) (hj : j < l.length), itV (V.encs l ++ R, 0) j = l[j]
  | [], R, _ => ⟨by simp [V.encs, itS], fun j hj => by simp at hj⟩
  | n :: l, R, h => by
    have h1 := h n (by simp)
    have e : (V.encs (n :: l) ++ R, (0 : Int)) = (V.enc n ++ (V.encs l ++ R), (0 : Int)) := by rw [V.encs_cons, List.append_assoc]
    have e1 : nxt (V.encs (n :: l) ++ R, 0) = (n, (V.encs l ++ R, 0)) := by rw [e]; exact D.nxt_enc h1.1 h1.2 _
    have e2 : itS (V.encs (n :: l) ++ R, 0) 1 = (V.encs l ++ R, 0) := by show (nxt (V.encs (n :: l) ++ R, 0)).2 = _; rw [e1]
    obtain ⟨i1, i2⟩ := it_encs (l := l) R (fun m hm => h m (List.mem_cons_of_mem _ hm))
    refine ⟨?_, fun j hj => ?_⟩
    · rw [← e2, itS_add] at i1
      rw [List.length_cons, Nat.add_comm]
      exact i1
    · rcases j with _ | j
      · show (nxt (V.encs (n :: l) ++ R, 0)).1 = n
        rw [e1]
      · have := i2 j (by simpa using hj)
        have e3 : itV (V.encs (n :: l) ++ R, 0) (j + 1) = itV (V.encs l ++ R, 0) j := by
          unfold itV
          rw [← e2, itS_add, Nat.add_comm]
        rw [e3, this]
        rfl
theorem encs_numM (M : List Dot) : V.encs (numM M) = D.encM M := by
  induction M with
  | nil => rfl
  | cons d M ih =>
    have : numM (d :: M) = d.1 :: d.2 :: numM M := rfl
    rw [this, V.encs_cons, V.encs_cons, ih]
    simp [D.encM]
theorem encs_app (a b : List Int) : V.encs (a ++ b) = V.encs a ++ V.encs b := by simp [V.encs]
/-- As D.rdM_enc, with bytes behind. -/
theorem rdM_enc' : ∀ {M : List Dot} (R : List Int), (∀ d ∈ M, may d = true) → rdM M.length (D.encM M ++ R, 0) = (M, (R, 0))
  | [], R, _ => rfl
  | d :: M, R, h => by
    have hd := D.may_iff.1 (h d (by simp))
    have e : D.encM (d :: M) ++ R = V.enc d.1 ++ (V.enc d.2 ++ (D.encM M ++ R)) := by simp [D.encM]
    have n1 : nxt (D.encM (d :: M) ++ R, 0) = (d.1, (V.enc d.2 ++ (D.encM M ++ R), 0)) := by rw [e]; exact D.nxt_enc hd.1 (by omega) _
    have n2 : nxt (V.enc d.2 ++ (D.encM M ++ R), 0) = (d.2, (D.encM M ++ R, 0)) := D.nxt_enc (by omega) (by omega) _
    rw [List.length_cons, D.rdM_more rfl, n1]
    simp only
    rw [n2]
    simp only
    rw [rdM_enc' R (fun x hx => h x (List.mem_cons_of_mem _ hx))]
/-- What is read of an event's bytes. -/
theorem rd_put {F : Nat → Int} {M : List Dot} (R : List Int) (h : right F M = true) : (∀ k, k < 13 → rdF (V.encs (nums F M) ++ R, 0) k = F k) ∧ rdL (V.encs (nums F M) ++ R, 0) = (M, (R, 0)) := by
  obtain ⟨hm, ⟨h2, h2', h4, h4'⟩, hl, hr, hk⟩ := right_parts h
  have hm' := D.may_iff.1 hm
  simp only at hm'
  have hM := rems_may hr
  obtain ⟨s, hs⟩ : ∃ s : St, s = (V.encs (nums F M) ++ R, 0) := ⟨_, rfl⟩
  obtain ⟨r, hrr⟩ : ∃ r, nums F M = [F 0, F 1, F 2, F 3] ++ (F 4 :: r) ∧ r = (if F 3 = 1 then [F 5] else numP F ++ (M.length : Int) :: numM M) := ⟨_, rfl, rfl⟩
  have h3 : F 3 = 1 ∨ F 3 = 2 ∨ F 3 = 3 := by
    unfold kindOk at hk
    split at hk
    · omega
    · split at hk
      · omega
      · split at hk
        · omega
        · cases hk
  have es : s = (V.encs [F 0, F 1, F 2, F 3] ++ (V.encs (F 4 :: r) ++ R), 0) := by rw [hs, hrr.1, encs_app, List.append_assoc]
  obtain ⟨a1, a2⟩ := it_encs (l := [F 0, F 1, F 2, F 3]) (V.encs (F 4 :: r) ++ R) (by
    intro n hn
    simp at hn
    rcases hn with rfl | rfl | rfl | rfl
    all_goals omega)
  rw [← es] at a1 a2
  have v0 : itV s 0 = F 0 := a2 0 (by simp)
  have v1 : itV s 1 = F 1 := a2 1 (by simp)
  have v2 : itV s 2 = F 2 := a2 2 (by simp)
  have v3 : itV s 3 = F 3 := a2 3 (by simp)
  have e4 : s4 s = (V.encs (F 4 :: r) ++ R, 0) := by
    unfold s4 kindS
    rw [v3, show itS s 4 = _ from a1, if_neg (by rintro ⟨_, h | h⟩ <;> omega)]
  have first : ∀ k, k < 4 → rdF s k = F k := fun k hk => by
    unfold rdF
    rw [if_pos hk]
    rcases k with _ | _ | _ | _ | k
    · exact v0
    · exact v1
    · exact v2
    · exact v3
    · omega
  rw [← hs]
  unfold kindOk at hk
  rcases h3 with k1 | k2 | k3
  · rw [if_pos k1] at hk
    simp only [Bool.and_eq_true, decide_eq_true_eq, pz] at hk
    obtain ⟨⟨hv, hz⟩, hn⟩ := hk
    have hMn : M = [] := List.eq_nil_of_length_eq_zero hn
    have er : F 4 :: r = [F 4, F 5] := by rw [hrr.2, if_pos k1]
    obtain ⟨b1, b2⟩ := it_encs (l := [F 4, F 5]) R (by
      intro n hn
      simp at hn
      rcases hn with rfl | rfl
      all_goals omega)
    rw [er] at e4
    rw [← e4] at b1 b2
    refine ⟨fun k hk' => ?_, ?_⟩
    · by_cases hk4 : k < 4
      · exact first k hk4
      · unfold rdF
        rw [if_neg hk4, v3]
        obtain rfl | rfl | hk6 : k = 4 ∨ k = 5 ∨ 6 ≤ k := by omega
        · rw [if_pos rfl]; exact b2 0 (by simp)
        · rw [if_neg (by omega), if_pos rfl, if_pos k1]; exact b2 1 (by simp)
        · rw [if_neg (by omega), if_neg (by omega), if_pos hk', if_neg (by omega)]
          obtain ⟨z6, z7, z8, z9, z10, z11, z12⟩ := hz
          obtain rfl | rfl | rfl | rfl | rfl | rfl | rfl : k = 6 ∨ k = 7 ∨ k = 8 ∨ k = 9 ∨ k = 10 ∨ k = 11 ∨ k = 12 := by omega
          all_goals omega
    · unfold rdL
      rw [v3, if_pos k1, show itS (s4 s) 2 = _ from b1, hMn]
  · rw [if_neg (by omega), if_pos k2] at hk
    simp only [Bool.and_eq_true, decide_eq_true_eq, rp] at hk
    obtain ⟨hv, hp⟩ := hk
    have er : F 4 :: r = [F 4, F 6, F 7, F 8, F 9, F 10, F 11, F 12, (M.length : Int)] ++ numM M := by rw [hrr.2, if_neg (by omega)]; unfold numP; rw [if_pos k2]; rfl
    obtain ⟨b1, b2⟩ := it_encs (l := [F 4, F 6, F 7, F 8, F 9, F 10, F 11, F 12, (M.length : Int)]) (D.encM M ++ R) (by
      intro n hn
      simp at hn
      rcases hn with rfl | rfl | rfl | rfl | rfl | rfl | rfl | rfl | rfl
      all_goals omega)
    rw [er, encs_app, encs_numM, List.append_assoc] at e4
    rw [← e4] at b1 b2
    have hN : rdN s = (M.length : Int) := by
      unfold rdN nP
      rw [v3, if_pos k2]
      exact b2 8 (by simp)
    refine ⟨fun k hk' => ?_, ?_⟩
    · by_cases hk4 : k < 4
      · exact first k hk4
      · unfold rdF
        rw [if_neg hk4, v3]
        obtain rfl | rfl | hk6 : k = 4 ∨ k = 5 ∨ 6 ≤ k := by omega
        · rw [if_pos rfl]; exact b2 0 (by simp)
        · rw [if_neg (by omega), if_pos rfl, if_neg (by omega)]; omega
        · rw [if_neg (by omega), if_neg (by omega), if_pos hk', if_pos k2]
          obtain rfl | rfl | rfl | rfl | rfl | rfl | rfl : k = 6 ∨ k = 7 ∨ k = 8 ∨ k = 9 ∨ k = 10 ∨ k = 11 ∨ k = 12 := by omega
          · exact b2 1 (by simp)
          · exact b2 2 (by simp)
          · exact b2 3 (by simp)
          · exact b2 4 (by simp)
          · exact b2 5 (by simp)
          · exact b2 6 (by simp)
          · exact b2 7 (by simp)
    · unfold rdL
      rw [v3, if_neg (by omega), hN]
      unfold nP cutS
      rw [if_pos k2, if_neg (by omega), show itS (s4 s) (2 + 7) = _ from b1]
      simpa using rdM_enc' R hM
  · rw [if_neg (by omega), if_neg (by omega), if_pos k3] at hk
    simp only [Bool.and_eq_true, decide_eq_true_eq, pz] at hk
    obtain ⟨hv, hz⟩ := hk
    have er : F 4 :: r = [F 4, (M.length : Int)] ++ numM M := by rw [hrr.2, if_neg (by omega)]; unfold numP; rw [if_neg (by omega)]; rfl
    obtain ⟨b1, b2⟩ := it_encs (l := [F 4, (M.length : Int)]) (D.encM M ++ R) (by
      intro n hn
      simp at hn
      rcases hn with rfl | rfl
      all_goals omega)
    rw [er, encs_app, encs_numM, List.append_assoc] at e4
    rw [← e4] at b1 b2
    have hN : rdN s = (M.length : Int) := by
      unfold rdN nP
      rw [v3, if_neg (by omega)]
      exact b2 1 (by simp)
    refine ⟨fun k hk' => ?_, ?_⟩
    · by_cases hk4 : k < 4
      · exact first k hk4
      · unfold rdF
        rw [if_neg hk4, v3]
        obtain rfl | rfl | hk6 : k = 4 ∨ k = 5 ∨ 6 ≤ k := by omega
        · rw [if_pos rfl]; exact b2 0 (by simp)
        · rw [if_neg (by omega), if_pos rfl, if_neg (by omega)]; omega
        · rw [if_neg (by omega), if_neg (by omega), if_pos hk', if_neg (by omega)]
          obtain ⟨z6, z7, z8, z9, z10, z11, z12⟩ := hz
          obtain rfl | rfl | rfl | rfl | rfl | rfl | rfl : k = 6 ∨ k = 7 ∨ k = 8 ∨ k = 9 ∨ k = 10 ∨ k = 11 ∨ k = 12 := by omega
          all_goals omega
    · unfold rdL
      rw [v3, if_neg (by omega), hN]
      unfold nP cutS
      rw [if_neg (by omega), if_neg (by omega), show itS (s4 s) (2 + 0) = _ from b1]
      simpa using rdM_enc' R hM
end Go.Proofs.Ytdppabnhflaoeaa.E
end

section
namespace Go.Proofs.Ytdppabnhflaoeaa.E
set_option linter.unusedVariables false
set_option linter.unusedSimpArgs false
open Go.Proofs.Ytdppabnhflaoeaa.D (Dot St nxt rdM failS may bef)

def norm (F : Nat → Int) : Nat → Int := fun j => if j < 13 then F j else 0
theorem norm_at (F : Nat → Int) {k : Nat} (h : k < 13) : norm F k = F k := by unfold norm; rw [if_pos h]
theorem rdF_norm (s : St) : norm (rdF s) = rdF s := by
  funext j
  unfold norm
  by_cases h : j < 13
  · rw [if_pos h]
  · rw [if_neg h]
    unfold rdF
    rw [if_neg (by omega), if_neg (by omega), if_neg (by omega), if_neg h]
theorem rdF_put {F : Nat → Int} {M : List Dot} (R : List Int) (h : right F M = true) : rdF (V.encs (nums F M) ++ R, 0) = norm F := by
  rw [← rdF_norm]
  funext j
  unfold norm
  by_cases hj : j < 13
  · rw [if_pos hj, if_pos hj]; exact (rd_put R h).1 j hj
  · rw [if_neg hj, if_neg hj]
theorem right_norm (F : Nat → Int) (M : List Dot) : right (norm F) M = right F M := by
  have e : rem1 (norm F) M = rem1 F M := by funext i; simp [rem1, norm]
  unfold right rems
  rw [e]
  simp [headOk, kindOk, rp, pz, norm]
theorem nums_norm (F : Nat → Int) (M : List Dot) : nums (norm F) M = nums F M := by simp [nums, numP, norm]

/-- Numbers that were read without a fault are the bytes that were passed. -/
theorem it_back {s : St} (hB : ∀ b ∈ s.1, 0 ≤ b ∧ b < 256) : ∀ k, (itS s k).2 = 0 → s.1 = V.encs ((List.range k).map (itV s)) ++ (itS s k).1 ∧ (∀ b ∈ (itS s k).1, 0 ≤ b ∧ b < 256) ∧ ∀ j, j < k → 0 ≤ itV s j
  | 0, _ => ⟨by simp [itS, V.encs], hB, fun j hj => by omega⟩
  | k + 1, h => by
    have h' : (nxt (itS s k)).2.2 = 0 := h
    obtain ⟨h1, h2, h3⟩ := it_back hB k (D.nxt_ok h')
    obtain ⟨a1, a2, a3⟩ := D.nxt_back h2 h'
    refine ⟨?_, a3, fun j hj => ?_⟩
    · rw [List.range_succ, List.map_append, List.map_cons, List.map_nil, V.encs_snoc, List.append_assoc]
      show s.1 = V.encs ((List.range k).map (itV s)) ++ (V.enc (nxt (itS s k)).1 ++ (nxt (itS s k)).2.1)
      rw [← a1]
      exact h1
    · rcases Nat.lt_or_ge j k with hj' | hj'
      · exact h3 j hj'
      · obtain rfl : j = k := by omega
        exact a2
theorem it_ok {s : St} : ∀ {k : Nat}, (itS s k).2 = 0 → s.2 = 0
  | 0, h => h
  | k + 1, h => it_ok (k := k) (D.nxt_ok h)
theorem failS_ok {x : Int} (hx : x ≠ 0) {s : St} (h : (failS x s).2 = 0) : False := D.failS_ne hx s h
/-- What is read without a fault was put so. -/
theorem rd_back {s : St} (hB : ∀ b ∈ s.1, 0 ≤ b ∧ b < 256) (h : (rdL s).2.2 = 0) : s.1 = V.encs (nums (rdF s) (rdL s).1) ++ (rdL s).2.1 ∧ ∀ b ∈ (rdL s).2.1, 0 ≤ b ∧ b < 256 := by
  have hs4 : (s4 s).2 = 0 := by
    unfold rdL at h
    split at h
    · exact it_ok h
    · have := D.rdM_ok h
      unfold cutS at this
      split at this
      · exact absurd this (D.failS_ne (by omega) _)
      · exact it_ok this
  have e4 : s4 s = itS s 4 ∧ (itV s 3 = 1 ∨ itV s 3 = 2 ∨ itV s 3 = 3) := by
    unfold s4 kindS at hs4 ⊢
    by_cases hc : (itS s 4).2 = 0 ∧ (itV s 3 < 1 ∨ 3 < itV s 3)
    · rw [if_pos hc] at hs4; simp at hs4
    · rw [if_neg hc] at hs4 ⊢
      refine ⟨rfl, ?_⟩
      have : ¬ (itV s 3 < 1 ∨ 3 < itV s 3) := fun h' => hc ⟨hs4, h'⟩
      omega
  rw [e4.1] at hs4
  obtain ⟨a1, a2, _⟩ := it_back hB 4 hs4
  have r4 : (List.range 4).map (itV s) = [itV s 0, itV s 1, itV s 2, itV s 3] := rfl
  rw [r4] at a1
  have f0 : rdF s 0 = itV s 0 := rfl
  have f1 : rdF s 1 = itV s 1 := rfl
  have f2 : rdF s 2 = itV s 2 := rfl
  have f3 : rdF s 3 = itV s 3 := rfl
  have f4 : rdF s 4 = itV (s4 s) 0 := rfl
  have hB4 : ∀ b ∈ (s4 s).1, 0 ≤ b ∧ b < 256 := by rw [e4.1]; exact a2
  rw [← e4.1] at a1
  have fin : ∀ (X Y : List Int), (s4 s).1 = V.encs (itV (s4 s) 0 :: X) ++ Y → nums (rdF s) (rdL s).1 = [rdF s 0, rdF s 1, rdF s 2, rdF s 3, rdF s 4] ++ X → s.1 = V.encs (nums (rdF s) (rdL s).1) ++ Y := fun X Y h1 h2 => by
    rw [h2, f0, f1, f2, f3, f4]
    have e : [itV s 0, itV s 1, itV s 2, itV s 3, itV (s4 s) 0] ++ X = [itV s 0, itV s 1, itV s 2, itV s 3] ++ (itV (s4 s) 0 :: X) := rfl
    rw [e, encs_app, List.append_assoc, ← h1]
    exact a1
  rcases e4.2 with k1 | k2 | k3
  · have eL : rdL s = ([], itS (s4 s) 2) := by unfold rdL; rw [if_pos k1]
    rw [eL] at h ⊢
    obtain ⟨b1, b2, _⟩ := it_back hB4 2 h
    refine ⟨?_, b2⟩
    rw [eL] at fin
    refine fin [itV (s4 s) 1] _ b1 ?_
    unfold nums
    rw [f3, if_pos k1]
    have : rdF s 5 = itV (s4 s) 1 := by unfold rdF; simp [k1]
    rw [this]
  · have eL : rdL s = rdM (rdN s).toNat (cutS (rdN s) (itS (s4 s) 9)) := by unfold rdL nP; rw [if_neg (by omega), if_pos k2]
    have hN : rdN s = itV (s4 s) 8 := by unfold rdN nP; rw [if_pos k2]
    rw [eL] at h
    have hc := D.rdM_ok h
    have ec : cutS (rdN s) (itS (s4 s) 9) = itS (s4 s) 9 := by
      unfold cutS at hc ⊢
      split at hc
      · exact absurd hc (D.failS_ne (by omega) _)
      · next hh => rw [if_neg hh]
    rw [ec] at h hc eL
    obtain ⟨b1, b2, b3⟩ := it_back hB4 9 hc
    obtain ⟨c1, c2⟩ := D.rdM_back b2 h
    have hn0 := b3 8 (by omega)
    rw [eL] at fin ⊢
    refine ⟨?_, fun b hb => b2 b (by rw [c1]; exact List.mem_append_right _ hb)⟩
    refine fin ([itV (s4 s) 1, itV (s4 s) 2, itV (s4 s) 3, itV (s4 s) 4, itV (s4 s) 5, itV (s4 s) 6, itV (s4 s) 7, itV (s4 s) 8] ++ numM (rdM (rdN s).toNat (itS (s4 s) 9)).1) _ ?_ ?_
    · have r9 : (List.range 9).map (itV (s4 s)) = [itV (s4 s) 0, itV (s4 s) 1, itV (s4 s) 2, itV (s4 s) 3, itV (s4 s) 4, itV (s4 s) 5, itV (s4 s) 6, itV (s4 s) 7, itV (s4 s) 8] := rfl
      rw [r9] at b1
      rw [show (itV (s4 s) 0 :: ([itV (s4 s) 1, itV (s4 s) 2, itV (s4 s) 3, itV (s4 s) 4, itV (s4 s) 5, itV (s4 s) 6, itV (s4 s) 7, itV (s4 s) 8] ++ numM (rdM (rdN s).toNat (itS (s4 s) 9)).1)) = [itV (s4 s) 0, itV (s4 s) 1, itV (s4 s) 2, itV (s4 s) 3, itV (s4 s) 4, itV (s4 s) 5, itV (s4 s) 6, itV (s4 s) 7, itV (s4 s) 8] ++ numM (rdM (rdN s).toNat (itS (s4 s) 9)).1 from rfl, encs_app, encs_numM, List.append_assoc, ← c1]
      exact b1
    · unfold nums numP
      rw [f3, if_neg (by omega), if_pos k2, c2]
      have p : ∀ j, 6 ≤ j → j < 13 → rdF s j = itV (s4 s) (j - 5) := fun j h6 h13 => by unfold rdF; rw [if_neg (by omega), if_neg (by omega), if_neg (by omega), if_pos h13, if_pos k2]
      rw [p 6 (by omega) (by omega), p 7 (by omega) (by omega), p 8 (by omega) (by omega), p 9 (by omega) (by omega), p 10 (by omega) (by omega), p 11 (by omega) (by omega), p 12 (by omega) (by omega), hN, show ((itV (s4 s) 8).toNat : Int) = itV (s4 s) 8 by omega]
      rfl
  · have eL : rdL s = rdM (rdN s).toNat (cutS (rdN s) (itS (s4 s) 2)) := by unfold rdL nP; rw [if_neg (by omega), if_neg (by omega)]
    have hN : rdN s = itV (s4 s) 1 := by unfold rdN nP; rw [if_neg (by omega)]
    rw [eL] at h
    have hc := D.rdM_ok h
    have ec : cutS (rdN s) (itS (s4 s) 2) = itS (s4 s) 2 := by
      unfold cutS at hc ⊢
      split at hc
      · exact absurd hc (D.failS_ne (by omega) _)
      · next hh => rw [if_neg hh]
    rw [ec] at h hc eL
    obtain ⟨b1, b2, b3⟩ := it_back hB4 2 hc
    obtain ⟨c1, c2⟩ := D.rdM_back b2 h
    have hn0 := b3 1 (by omega)
    rw [eL] at fin ⊢
    refine ⟨?_, fun b hb => b2 b (by rw [c1]; exact List.mem_append_right _ hb)⟩
    refine fin ([itV (s4 s) 1] ++ numM (rdM (rdN s).toNat (itS (s4 s) 2)).1) _ ?_ ?_
    · have r2 : (List.range 2).map (itV (s4 s)) = [itV (s4 s) 0, itV (s4 s) 1] := rfl
      rw [r2] at b1
      rw [show (itV (s4 s) 0 :: ([itV (s4 s) 1] ++ numM (rdM (rdN s).toNat (itS (s4 s) 2)).1)) = [itV (s4 s) 0, itV (s4 s) 1] ++ numM (rdM (rdN s).toNat (itS (s4 s) 2)).1 from rfl, encs_app, encs_numM, List.append_assoc, ← c1]
      exact b1
    · unfold nums numP
      rw [f3, if_neg (by omega), if_neg (by omega), c2, hN, show ((itV (s4 s) 1).toNat : Int) = itV (s4 s) 1 by omega]
      rfl

/-! one event's bytes -/
def gE (L : List Int) : Int := if (rdL (L, 0)).2.2 = 0 then (if (rdL (L, 0)).2.1 ≠ [] ∨ right (rdF (L, 0)) (rdL (L, 0)).1 = false then 4 else 0) else (rdL (L, 0)).2.2
def getF (L : List Int) : Nat → Int := if gE L = 0 then rdF (L, 0) else fun _ => 0
def getM (L : List Int) : List Dot := if gE L = 0 then (rdL (L, 0)).1 else []
/-- What is got is put as it was. -/
theorem get_back {L : List Int} (hB : ∀ b ∈ L, 0 ≤ b ∧ b < 256) (h : gE L = 0) : right (getF L) (getM L) = true ∧ V.encs (nums (getF L) (getM L)) = L := by
  have eF : getF L = rdF (L, 0) := by unfold getF; rw [if_pos h]
  have eM : getM L = (rdL (L, 0)).1 := by unfold getM; rw [if_pos h]
  rw [eF, eM]
  unfold gE at h
  split at h
  · next hx =>
    split at h
    · omega
    · next hn =>
      have hl : (rdL (L, 0)).2.1 = [] := Classical.byContradiction fun e => hn (.inl e)
      have hr : right (rdF (L, 0)) (rdL (L, 0)).1 = true := by
        cases e : right (rdF (L, 0)) (rdL (L, 0)).1 with
        | true => rfl
        | false => exact absurd (.inr e) hn
      refine ⟨hr, ?_⟩
      have := (rd_back (s := (L, 0)) hB hx).1
      rw [hl, List.append_nil] at this
      exact this.symm
  · next hx => exact absurd h hx
/-- What is put is got. -/
theorem get_put {F : Nat → Int} {M : List Dot} (h : right F M = true) : gE (V.encs (nums F M)) = 0 ∧ getF (V.encs (nums F M)) = norm F ∧ getM (V.encs (nums F M)) = M := by
  have h1 := rdF_put [] h
  have h2 := (rd_put [] h).2
  rw [List.append_nil] at h1 h2
  have e : gE (V.encs (nums F M)) = 0 := by unfold gE; rw [h1, h2]; simp [right_norm, h]
  exact ⟨e, by unfold getF; rw [if_pos e, h1], by unfold getM; rw [if_pos e, h2]⟩
/-- A byte more is one too many. -/
theorem get_more {F : Nat → Int} {M : List Dot} (h : right F M = true) (x : Int) (R : List Int) : gE (V.encs (nums F M) ++ x :: R) = 4 := by
  unfold gE
  rw [(rd_put (x :: R) h).2]
  simp

/-! many events -/
abbrev Ev := (Nat → Int) × List Dot
def stp (s : St) : St := if (rdL s).2.2 = 0 ∧ right (rdF s) (rdL s).1 = false then ((rdL s).2.1, 4) else (rdL s).2
def rdA : Nat → St → List Ev × St
  | 0, s => ([], s)
  | n + 1, s => if s.2 = 0 then ((rdF s, (rdL s).1) :: (rdA n (stp s)).1, (rdA n (stp s)).2) else ([], s)
def cutA (n : Int) (s : St) : St := if 768 < n then failS 6 s else s
def allR (L : List Int) : List Ev × St := rdA (itV (L, 0) 0).toNat (cutA (itV (L, 0) 0) (itS (L, 0) 1))
def allE (L : List Int) : Int := if (allR L).2.2 = 0 then (if (allR L).2.1 ≠ [] then 4 else 0) else (allR L).2.2
def allM (L : List Int) : List Ev := if allE L = 0 then (allR L).1 else []
def allRight (l : List Ev) : Bool := l.all fun e => right e.1 e.2
def putAE (l : List Ev) : Int := if 768 < l.length then 6 else if allRight l then 0 else 2
def bod (l : List Ev) : List Int := l.flatMap fun e => V.encs (nums e.1 e.2)
def putAB (l : List Ev) : List Int := if putAE l = 0 then V.enc (l.length : Int) ++ bod l else []
theorem rdA_put : ∀ {l : List Ev} (R : List Int), (∀ e ∈ l, right e.1 e.2 = true) → rdA l.length (bod l ++ R, 0) = (l.map fun e => (norm e.1, e.2), (R, 0))
  | [], R, _ => rfl
  | e :: l, R, h => by
    have he := h e (by simp)
    have eb : bod (e :: l) ++ R = V.encs (nums e.1 e.2) ++ (bod l ++ R) := by simp [bod]
    have h1 := rdF_put (bod l ++ R) he
    have h2 := (rd_put (bod l ++ R) he).2
    have e3 : stp (bod (e :: l) ++ R, 0) = (bod l ++ R, 0) := by
      unfold stp
      rw [eb, h1, h2, if_neg (by rintro ⟨_, hh⟩; rw [right_norm, he] at hh; cases hh)]
    rw [List.length_cons]
    unfold rdA
    rw [if_pos rfl, e3, rdA_put R (fun x hx => h x (List.mem_cons_of_mem _ hx)), eb, h1, h2]
    rfl
/-- What is put is got, of many. -/
theorem all_put {l : List Ev} (hl : l.length ≤ 768) (h : ∀ e ∈ l, right e.1 e.2 = true) : allE (V.enc (l.length : Int) ++ bod l) = 0 ∧ allM (V.enc (l.length : Int) ++ bod l) = l.map fun e => (norm e.1, e.2) := by
  have n1 : nxt (V.enc (l.length : Int) ++ bod l, 0) = ((l.length : Int), (bod l, 0)) := D.nxt_enc (by omega) (by omega) _
  have v : itV (V.enc (l.length : Int) ++ bod l, 0) 0 = l.length := by show (nxt (V.enc (l.length : Int) ++ bod l, 0)).1 = _; rw [n1]
  have s1 : itS (V.enc (l.length : Int) ++ bod l, 0) 1 = (bod l, 0) := by show (nxt (V.enc (l.length : Int) ++ bod l, 0)).2 = _; rw [n1]
  have r := rdA_put [] h
  rw [List.append_nil] at r
  have e : allR (V.enc (l.length : Int) ++ bod l) = (l.map fun e => (norm e.1, e.2), ([], 0)) := by
    unfold allR cutA
    rw [v, s1, if_neg (by omega)]
    simpa using r
  have e0 : allE (V.enc (l.length : Int) ++ bod l) = 0 := by unfold allE; rw [e]; rfl
  exact ⟨e0, by unfold allM; rw [if_pos e0, e]⟩
theorem rdA_len : ∀ (n : Nat) (s : St), (rdA n s).1.length ≤ n
  | 0, s => by simp [rdA]
  | n + 1, s => by
    unfold rdA
    split
    · have := rdA_len n (stp s)
      simp; omega
    · simp
theorem rdA_bad {n : Nat} {s : St} (h : s.2 ≠ 0) : rdA n s = ([], s) := by
  cases n with
  | zero => rfl
  | succ n => unfold rdA; rw [if_neg h]
theorem allR_len (L : List Int) : (allR L).1.length ≤ 768 := by
  unfold allR
  by_cases h : (cutA (itV (L, 0) 0) (itS (L, 0) 1)).2 = 0
  · have h2 := rdA_len (itV (L, 0) 0).toNat (cutA (itV (L, 0) 0) (itS (L, 0) 1))
    unfold cutA at h
    split at h
    · exact absurd h (D.failS_ne (by omega) _)
    · omega
  · rw [rdA_bad h]; simp

/-! of two events just one is later -/
theorem later_not (F G : Nat → Int) (h : ¬ (F 2 = G 2 ∧ (F 0, F 1) = (G 0, G 1))) : later F G = !later G F := by
  unfold later bef
  by_cases e : F 2 = G 2
  · rw [if_pos e, if_pos e.symm]
    have : ¬ (F 0 = G 0 ∧ F 1 = G 1) := fun hh => h ⟨e, by rw [hh.1, hh.2]⟩
    simp only
    by_cases c : G 0 < F 0 ∨ G 0 = F 0 ∧ G 1 < F 1
    · rw [decide_eq_true c, decide_eq_false (by omega)]; rfl
    · rw [decide_eq_false c, decide_eq_true (by omega)]; rfl
  · rw [if_neg e, if_neg (Ne.symm e)]
    by_cases c : G 2 < F 2
    · rw [decide_eq_true c, decide_eq_false (by omega)]; rfl
    · rw [decide_eq_false c, decide_eq_true (by omega)]; rfl
theorem later_same (F G : Nat → Int) (h : F 2 = G 2 ∧ (F 0, F 1) = (G 0, G 1)) : later F G = false := by
  unfold later bef
  rw [if_pos h.1]
  have := h.2
  simp only [Prod.mk.injEq] at this
  exact decide_eq_false (by simp only; omega)
theorem later_trans (F G H : Nat → Int) (h1 : later F G = true) (h2 : later G H = true) : later F H = true := by
  unfold later bef at *
  simp only at *
  split at h1 <;> split at h2 <;> split <;> simp only [decide_eq_true_eq] at * <;> omega

/-! what is bent is not right -/
theorem rems_bad {F : Nat → Int} {M : List Dot} {i : Nat} (hi : i < M.length) (h : rem1 F M i = false) : right F M = false := by
  have : rems F M = false := by
    cases e : rems F M with
    | false => rfl
    | true =>
      have := List.all_eq_true.1 e i (List.mem_range.2 hi)
      rw [h] at this; cases this
  unfold right
  rw [this]
  simp
theorem bend_own (F : Nat → Int) (M : List Dot) : right F ((F 0, F 1) :: M) = false := rems_bad (i := 0) (by simp) (by simp [rem1])
theorem bend_twice (F : Nat → Int) (M : List Dot) (d : Dot) : right F (M ++ [d] ++ [d]) = false := by
  refine rems_bad (i := M.length + 1) (by simp) ?_
  unfold rem1
  have e1 : (M ++ [d] ++ [d])[M.length + 1]? = some d := by simp
  have e2 : (M ++ [d] ++ [d])[M.length + 1 - 1]? = some d := by simp
  rw [e1, e2]
  simp [bef]
theorem bend_head {F : Nat → Int} {M : List Dot} (h : headOk F M = false) : right F M = false := by unfold right; rw [h]; simp
theorem bend_seq {F : Nat → Int} (M : List Dot) (h : F 1 = 0) : right F M = false := bend_head (by
  have : may (F 0, F 1) = false := by
    cases e : may (F 0, F 1) with
    | false => rfl
    | true => have := D.may_iff.1 e; simp only at this; omega
  unfold headOk; rw [this]; simp)
theorem bend_work {F : Nat → Int} (M : List Dot) (h : F 4 = 8) : right F M = false := bend_head (by
  unfold headOk
  rw [decide_eq_false (p := 1 ≤ F 2 ∧ F 2 ≤ 1099511627776 ∧ 0 ≤ F 4 ∧ F 4 ≤ 7) (by omega)]
  simp)
theorem bend_value {F : Nat → Int} (M : List Dot) (h : F 5 = -1) : right F M = false := by
  have : kindOk F M = false := by
    unfold kindOk
    rw [decide_eq_false (p := 0 ≤ F 5 ∧ F 5 ≤ 1099511627776) (by omega), decide_eq_false (p := F 5 = 0) (by omega)]
    simp
  unfold right
  rw [this]
  simp
end Go.Proofs.Ytdppabnhflaoeaa.E
end

