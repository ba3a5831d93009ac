/- The plain mathematics of layer 6: what is put is got, what is got is put; dots added one by one. -/
import Derived.Test.YtlckappnpdkihaaDotGMath
import Derived.Test.YtlckappnpdkihaaDotMath3
namespace Go.Proofs.Ytlckappnpdkihaa.D
set_option linter.unusedVariables false
set_option linter.unusedSimpArgs false

theorem nxt_enc {m : Int} (h0 : 0 ≤ m) (h1 : m ≤ 1099511627776) (r : List Int) : nxt (V.enc m ++ r, 0) = (m, (r, 0)) := by
  unfold nxt V.intS
  simp [V.int_enc h0 h1 r]
theorem nxt_bad {s : St} (h : s.2 ≠ 0) : nxt s = (0, s) := by
  unfold nxt V.intS
  rw [if_neg h]
theorem nxt_ok {s : St} (h : (nxt s).2.2 = 0) : s.2 = 0 := by
  by_cases hs : s.2 = 0
  · exact hs
  · rw [nxt_bad hs] at h; exact h
theorem nxt_back {s : St} (hB : ∀ b ∈ s.1, 0 ≤ b ∧ b < 256) (h : (nxt s).2.2 = 0) : s.1 = V.enc (nxt s).1 ++ (nxt s).2.1 ∧ 0 ≤ (nxt s).1 ∧ ∀ b ∈ (nxt s).2.1, 0 ≤ b ∧ b < 256 := by
  have hs := nxt_ok h
  have e : nxt s = ((V.int s.1).1, s.1.drop (V.int s.1).2.1, (V.int s.1).2.2) := by unfold nxt V.intS; rw [if_pos hs]
  rw [e] at h ⊢
  simp only at h ⊢
  obtain ⟨h1, h2, h3, h4⟩ := V.int_back hB h
  exact ⟨h1, h3, fun b hb => hB b (List.mem_of_mem_drop hb)⟩
theorem encU_pre (U : Nat → Int) : ∀ (k d : Nat), ∃ X, encU U (k + d) = encU U k ++ X
  | k, 0 => ⟨[], by simp⟩
  | k, d + 1 => by
    obtain ⟨X, h⟩ := encU_pre U k d
    exact ⟨X ++ V.enc (U (k + d)), by rw [show k + (d + 1) = (k + d) + 1 by omega]; show encU U (k + d) ++ V.enc (U (k + d)) = _; rw [h, List.append_assoc]⟩
theorem stK_enc {U : Nat → Int} {R : List Int} (h : ∀ k, k < 8 → 0 ≤ U k ∧ U k ≤ 96) : ∀ k, k ≤ 8 → stK (encU U 8 ++ R) k = ((encU U 8 ++ R).drop (encU U k).length, 0) ∧ ∀ j, j < k → vK (encU U 8 ++ R) j = U j
  | 0, _ => ⟨by simp [stK, encU], fun j hj => by omega⟩
  | k + 1, hk => by
    obtain ⟨h1, h2⟩ := stK_enc (R := R) h k (by omega)
    obtain ⟨X, hX⟩ := encU_pre U (k + 1) (8 - (k + 1))
    rw [show k + 1 + (8 - (k + 1)) = 8 by omega] at hX
    have hu := h k (by omega)
    have e1 : (encU U 8 ++ R).drop (encU U k).length = V.enc (U k) ++ (X ++ R) := by
      rw [hX]; show ((encU U k ++ V.enc (U k)) ++ X ++ R).drop _ = _; simp
    have e2 : (encU U 8 ++ R).drop (encU U (k + 1)).length = X ++ R := by rw [hX]; simp
    have e3 : nxt (stK (encU U 8 ++ R) k) = (U k, (X ++ R, 0)) := by rw [h1, e1]; exact nxt_enc hu.1 (by omega) _
    refine ⟨?_, fun j hj => ?_⟩
    · show (nxt (stK (encU U 8 ++ R) k)).2 = _
      rw [e3, e2]
    · rcases Nat.lt_or_ge j k with hj' | hj'
      · exact h2 j hj'
      · obtain rfl : j = k := by omega
        show (nxt (stK (encU U 8 ++ R) j)).1 = _
        rw [e3]
theorem rdM_enc : ∀ {M : List Dot}, (∀ d ∈ M, may d = true) → rdM M.length (encM M, 0) = (M, ([], 0))
  | [], _ => rfl
  | d :: M, h => by
    have hd := may_iff.1 (h d (by simp))
    have e : encM (d :: M) = V.enc d.1 ++ (V.enc d.2 ++ encM M) := by simp [encM]
    have n1 : nxt (encM (d :: M), 0) = (d.1, (V.enc d.2 ++ encM M, 0)) := by rw [e]; exact nxt_enc hd.1 (by omega) _
    have n2 : nxt (V.enc d.2 ++ encM M, 0) = (d.2, (encM M, 0)) := nxt_enc (by omega) (by omega) _
    rw [List.length_cons, rdM_more rfl, n1]
    simp only
    rw [n2]
    simp only
    rw [rdM_enc (fun x hx => h x (List.mem_cons_of_mem _ hx))]
/-- What is put is got. -/
theorem get_enc {U : Nat → Int} {M : List Dot} (h : rt U M = true) : gE (encS U M) = 0 ∧ (∀ k, k < 8 → getU (encS U M) k = U k) ∧ getM (encS U M) = M := by
  have hU := (rt_iff.1 h).1
  have hM : ∀ d ∈ M, may d = true := fun d hd => (rt_may h hd).1
  have hl := rt_len h
  have eS : encS U M = encU U 8 ++ (V.enc (M.length : Int) ++ encM M) := by unfold encS; rw [List.append_assoc]
  obtain ⟨s8, v8⟩ := stK_enc (R := V.enc (M.length : Int) ++ encM M) hU 8 (Nat.le_refl _)
  rw [← eS] at s8 v8
  have e8 : (encS U M).drop (encU U 8).length = V.enc (M.length : Int) ++ encM M := by rw [eS]; simp
  rw [e8] at s8
  have n8 : nxt (stK (encS U M) 8) = ((M.length : Int), (encM M, 0)) := by rw [s8]; exact nxt_enc (by omega) (by omega) _
  have v : vK (encS U M) 8 = M.length := by unfold vK; rw [n8]
  have s9 : stK (encS U M) 9 = (encM M, 0) := by show (nxt (stK (encS U M) 8)).2 = _; rw [n8]
  have g : gR (encS U M) = (M, ([], 0)) := by
    unfold gR gS cut
    rw [v, s9, if_neg (by omega)]
    simpa using rdM_enc hM
  have gu : ∀ k, k < 8 → gU (encS U M) k = U k := fun k hk => by unfold gU upTo; rw [if_pos hk]; exact v8 k hk
  have r : rt (gU (encS U M)) M = true := ord_rt (fun k hk => by rw [gu k hk]; exact hU k hk) (rt_ord h) fun d hd => by
    have := rt_may h hd
    have hm := may_iff.1 this.1
    rw [gu d.1.toNat (by omega)]
    exact this
  have e : gE (encS U M) = 0 := by unfold gE; rw [g]; simp [r]
  refine ⟨e, fun k hk => ?_, ?_⟩
  · unfold getU; rw [if_pos e]; exact gu k hk
  · unfold getM; rw [if_pos e, g]
theorem rdM_ok {n : Nat} {s : St} (h : (rdM n s).2.2 = 0) : s.2 = 0 := by
  by_cases hs : s.2 = 0
  · exact hs
  · rw [rdM_bad hs] at h; exact h
theorem rdM_back : ∀ {n : Nat} {s : St}, (∀ b ∈ s.1, 0 ≤ b ∧ b < 256) → (rdM n s).2.2 = 0 → s.1 = encM (rdM n s).1 ++ (rdM n s).2.1 ∧ (rdM n s).1.length = n
  | 0, s, hB, h => by simp [rdM, encM]
  | n + 1, s, hB, h => by
    have hs := rdM_ok h
    rw [rdM_more hs] at h ⊢
    simp only at h ⊢
    have h2 := rdM_ok h
    have h1 := nxt_ok h2
    obtain ⟨a1, _, a3⟩ := nxt_back hB h1
    obtain ⟨b1, _, b3⟩ := nxt_back a3 h2
    obtain ⟨c1, c2⟩ := rdM_back b3 h
    refine ⟨?_, by simp [c2]⟩
    rw [a1, b1, c1]
    simp [encM]
theorem stK_back {L : List Int} (hB : ∀ b ∈ L, 0 ≤ b ∧ b < 256) : ∀ k, k ≤ 8 → (stK L k).2 = 0 → L = encU (gU L) k ++ (stK L k).1 ∧ ∀ b ∈ (stK L k).1, 0 ≤ b ∧ b < 256
  | 0, _, _ => ⟨by simp [stK, encU], hB⟩
  | k + 1, hk, h => by
    have h' : (nxt (stK L k)).2.2 = 0 := h
    obtain ⟨h1, h2⟩ := stK_back hB k (by omega) (nxt_ok h')
    obtain ⟨a1, a2, a3⟩ := nxt_back h2 h'
    refine ⟨?_, a3⟩
    have e : gU L k = (nxt (stK L k)).1 := by unfold gU upTo; rw [if_pos (by omega)]; rfl
    show L = (encU (gU L) k ++ V.enc (gU L k)) ++ (nxt (stK L k)).2.1
    rw [e, List.append_assoc, ← a1]
    exact h1
/-- What is got is put as it was. -/
theorem get_back {L : List Int} (hB : ∀ b ∈ L, 0 ≤ b ∧ b < 256) (h : gE L = 0) : rt (getU L) (getM L) = true ∧ encS (getU L) (getM L) = L := by
  have eU : getU L = gU L := by unfold getU; rw [if_pos h]
  have eM : getM L = (gR L).1 := by unfold getM; rw [if_pos h]
  rw [eU, eM]
  unfold gE at h
  split at h
  · next hx =>
    split at h
    · omega
    · next hn =>
      have hl : (gR L).2.1 = [] := Classical.byContradiction fun e => hn (.inl e)
      have hr : rt (gU L) (gR L).1 = true := by
        cases e : rt (gU L) (gR L).1 with
        | true => rfl
        | false => exact absurd (.inr e) hn
      refine ⟨hr, ?_⟩
      have hx' : (rdM (vK L 8).toNat (gS L)).2.2 = 0 := hx
      have hg := rdM_ok hx'
      have hv := gS_ok hg
      have e9 : gS L = stK L 9 := by unfold gS cut; rw [if_neg (by omega)]
      rw [e9] at hg
      have h9 : (nxt (stK L 8)).2.2 = 0 := hg
      obtain ⟨s1, s2⟩ := stK_back hB 8 (Nat.le_refl _) (nxt_ok h9)
      obtain ⟨a1, a2, a3⟩ := nxt_back s2 h9
      have hb9 : ∀ b ∈ (gS L).1, 0 ≤ b ∧ b < 256 := by rw [e9]; exact a3
      obtain ⟨b1, b2⟩ := rdM_back hb9 hx'
      have hl' : (rdM (vK L 8).toNat (gS L)).2.1 = [] := hl
      rw [hl', List.append_nil, e9] at b1
      have hv0 : 0 ≤ vK L 8 := a2
      have hlen : ((gR L).1.length : Int) = vK L 8 := by
        have : (gR L).1.length = (vK L 8).toNat := b2
        omega
      unfold encS
      rw [hlen]
      conv => rhs; rw [s1, a1]
      rw [List.append_assoc]
      congr 2
      have : (nxt (stK L 8)).2.1 = (stK L 9).1 := rfl
      rw [this, b1]
      show _ = encM (rdM (vK L 8).toNat (stK L 9)).1
      unfold gR
      rw [e9]
  · next hx => exact absurd h hx
/-- A dot added to a right set: the set is what it was, or with the dot. -/
theorem add_step (T : Dot → Bool) (d : Dot) : ∃ T' : Dot → Bool, ((add (cU T) (cM T) d).2.2 = 0 → (add (cU T) (cM T) d).1 = cU T' ∧ (add (cU T) (cM T) d).2.1 = cM T') ∧ ((add (cU T) (cM T) d).2.2 ≠ 0 → T' = T) ∧ ∀ x, may x = true → T' x = (T x || x == d) := by
  unfold add
  by_cases hm : may d = false
  · rw [if_pos hm]
    refine ⟨T, fun h => absurd h (by simp), fun _ => rfl, fun x hx => ?_⟩
    have : x ≠ d := fun e => by rw [e, hm] at hx; cases hx
    simp [this]
  · rw [if_neg hm]
    have hmd : may d = true := by simpa using hm
    by_cases hh : has (cU T) (cM T) d = true
    · rw [if_pos hh]
      refine ⟨T, fun h => by simp at h, fun _ => rfl, fun x hx => ?_⟩
      rw [cl_has, hmd] at hh
      by_cases e : x = d
      · subst e; simpa using hh
      · simp [e]
    · rw [if_neg hh]
      obtain ⟨F, hF⟩ : ∃ F : Dot → Bool, F = (fun x => if x = d then true else has (cU T) (cM T) x) := ⟨_, rfl⟩
      rw [← hF]
      refine ⟨F, fun _ => ⟨by dsimp only, by dsimp only⟩, fun h => absurd rfl h, fun x hx => ?_⟩
      rw [hF]
      by_cases e : x = d
      · simp [e]
      · simp [e, cl_has, hx]
theorem cl_same {T T' : Dot → Bool} (h : ∀ x, may x = true → T x = T' x) : (∀ k, k < 8 → cU T k = cU T' k) ∧ cM T = cM T' := ⟨fun k hk => cU_congr hk h, cM_congr h⟩
theorem cl_none : (∀ k, k < 8 → cU (fun _ => false) k = 0) ∧ cM (fun _ => false) = [] := by
  refine ⟨fun k hk => ?_, ?_⟩
  · unfold cU
    rw [gap_is (S := fun _ => false) (n := k) (m := 0) (by omega) (fun j hj => by omega) (fun _ => rfl)]
    rfl
  · refine List.eq_nil_iff_forall_not_mem.2 fun d hd => ?_
    have := (mem_cM.1 hd).2.1
    cases this
/-- The dots of the first i, of the last i. -/
def Tak (l : List Dot) (i : Nat) (T : Dot → Bool) : Prop := ∀ x, may x = true → (T x = true ↔ x ∈ l.take i)
def Las (l : List Dot) (i : Nat) (T : Dot → Bool) : Prop := ∀ x, may x = true → (T x = true ↔ x ∈ l.drop (l.length - i))
theorem Tak.zero (l : List Dot) : Tak l 0 (fun _ => false) := fun x _ => by simp
theorem Las.zero (l : List Dot) : Las l 0 (fun _ => false) := fun x _ => by simp
theorem Tak.more {l : List Dot} {i : Nat} {T T' : Dot → Bool} (h : Tak l i T) (hi : i < l.length) (h' : ∀ x, may x = true → T' x = (T x || x == l[i])) : Tak l (i + 1) T' := fun x hx => by
  rw [h' x hx, List.take_succ_eq_append_getElem hi, List.mem_append, Bool.or_eq_true, h x hx]
  simp
theorem Las.more {l : List Dot} {i : Nat} {T T' : Dot → Bool} (h : Las l i T) (hi : i < l.length) (h' : ∀ x, may x = true → T' x = (T x || x == l[l.length - 1 - i])) : Las l (i + 1) T' := fun x hx => by
  rw [h' x hx, Bool.or_eq_true, h x hx, show l.length - (i + 1) = l.length - 1 - i by omega, List.drop_eq_getElem_cons (i := l.length - 1 - i) (by omega), show l.length - 1 - i + 1 = l.length - i by omega, List.mem_cons]
  simp
  exact Or.comm
theorem tak_las {l : List Dot} {T T' : Dot → Bool} (h : Tak l l.length T) (h' : Las l l.length T') : ∀ x, may x = true → T x = T' x := fun x hx => by
  have e1 := h x hx
  have e2 := h' x hx
  rw [List.take_length] at e1
  rw [Nat.sub_self, List.drop_zero] at e2
  cases a : T x <;> cases b : T' x <;> simp_all
end Go.Proofs.Ytlckappnpdkihaa.D
