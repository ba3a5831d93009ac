/- Layer 6: over: each dot of a set put into an open one, or taken out; lay. -/
import Derived.Test.YtedcgfcmhaeldaaDotRight
import Derived.Test.YtedcgfcmhaeldaaDotOpen
namespace Go.Proofs.Ytedcgfcmhaeldaa
set_option linter.unusedVariables false
set_option linter.unusedSimpArgs false
open Go.ChangeShapes Go.WideShapes Go.ChangeAt Go.RowKit

theorem Opn.congr {w : World} {g : Nat} {S T : D.Dot → Bool} (h : Opn w g S) (he : ∀ d, D.may d = true → S d = T d) : Opn w g T := by
  obtain ⟨X, h1, h2, h3⟩ := h
  exact ⟨X, h1, h2, fun n s hn k1 k2 => (h3 n s hn k1 k2).trans (he _ (D.may_iff.2 (by simp; omega)))⟩
/-- What a set's dots make of an open one. -/
def into (b : Bool) (U : Nat → Int) (M : List D.Dot) (S : D.Dot → Bool) : D.Dot → Bool := fun d => if D.has U M d then b else S d
/-- The dots of the first n nodes' Upto, and of the next one the first i. -/
def low (U : Nat → Int) (n i : Nat) (d : D.Dot) : Bool := decide (d.1 < n ∧ d.2 ≤ U d.1.toNat) || decide (d.1 = n ∧ d.2 ≤ i)
/-- All Upto's dots, and the first of More. -/
def more (U : Nat → Int) (M : List D.Dot) (j : Nat) (d : D.Dot) : Bool := decide (d.2 ≤ U d.1.toNat) || (M.take j).contains d
def Sees (T : D.Dot → Bool) (P : D.Dot → Bool) (b : Bool) (S : D.Dot → Bool) : Prop := ∀ d, D.may d = true → T d = if P d then b else S d

theorem sees_start (U : Nat → Int) (b : Bool) (S : D.Dot → Bool) : Sees S (low U 0 0) b S := fun d hd => by
  have := D.may_iff.1 hd
  have e : low U 0 0 d = false := by simp [low]; omega
  rw [e]; rfl
theorem sees_turn {T P : D.Dot → Bool} {b : Bool} {S : D.Dot → Bool} {x : D.Dot} {P' : D.Dot → Bool} (h : Sees T P b S) (hp : ∀ d, D.may d = true → P' d = (decide (d = x) || P d)) : Sees (turn b T x) P' b S := fun d hd => by
  rw [hp d hd]
  unfold turn
  by_cases e : d = x
  · simp [e]
  · simp [e, h d hd]
theorem sees_same {T P P' : D.Dot → Bool} {b : Bool} {S : D.Dot → Bool} (h : Sees T P b S) (hp : ∀ d, D.may d = true → P' d = P d) : Sees T P' b S := fun d hd => by rw [hp d hd]; exact h d hd
theorem low_step (U : Nat → Int) (n i : Nat) : ∀ d, D.may d = true → low U n (i + 1) d = (decide (d = ((n : Int), (i : Int) + 1)) || low U n i d) := fun d hd => by
  have := D.may_iff.1 hd
  obtain ⟨a, c⟩ := d
  rw [Bool.eq_iff_iff]
  simp [low] at *
  omega
theorem low_next (U : Nat → Int) (n i : Nat) (hi : (i : Int) = U n) : ∀ d, D.may d = true → low U (n + 1) 0 d = low U n i d := fun d hd => by
  have := D.may_iff.1 hd
  obtain ⟨a, c⟩ := d
  rw [Bool.eq_iff_iff]
  simp only [low, Bool.or_eq_true, decide_eq_true_eq] at *
  have e : a = (n : Int) → U a.toNat = i := fun h => by rw [h, hi]; simp
  constructor
  · rintro (h | h)
    · by_cases e1 : a = (n : Int)
      · right; have := e e1; exact ⟨e1, by rw [← this]; exact h.2⟩
      · left; exact ⟨by omega, h.2⟩
    · omega
  · rintro (h | h)
    · left; exact ⟨by omega, h.2⟩
    · left; have := e h.1; exact ⟨by omega, by rw [this]; exact h.2⟩
theorem low_end (U : Nat → Int) (M : List D.Dot) : ∀ d, D.may d = true → more U M 0 d = low U 8 0 d := fun d hd => by
  have := D.may_iff.1 hd
  rw [Bool.eq_iff_iff]
  simp [low, more]
  omega
theorem more_step (U : Nat → Int) (M : List D.Dot) {j : Nat} (hj : j < M.length) : ∀ d, D.may d = true → more U M (j + 1) d = (decide (d = M[j]) || more U M j d) := fun d _ => by
  unfold more
  rw [List.take_succ_eq_append_getElem hj, Bool.eq_iff_iff]
  simp only [Bool.or_eq_true, List.contains_iff_mem, List.mem_append, List.mem_singleton, decide_eq_true_eq]
  constructor
  · rintro (h | h | h)
    · exact .inr (.inl h)
    · exact .inr (.inr h)
    · exact .inl h
  · rintro (h | h | h)
    · exact .inr (.inr h)
    · exact .inl h
    · exact .inr (.inl h)
theorem more_end {U : Nat → Int} {M : List D.Dot} {T : D.Dot → Bool} {b : Bool} {S : D.Dot → Bool} {j : Nat} (hr : D.rt U M = true) (hj : M.length ≤ j) (h : Sees T (more U M j) b S) : ∀ d, D.may d = true → T d = into b U M S d := fun d hd => by
  rw [h d hd]
  unfold into more
  rw [D.has_yes hd hr, List.take_of_length_le hj]
theorem into_no {U : Nat → Int} {M : List D.Dot} (b : Bool) {S : D.Dot → Bool} (hr : D.rt U M = false) : ∀ d, D.may d = true → S d = into b U M S d := fun d _ => by
  unfold into; rw [D.has_no (.inr hr)]; rfl

/-- The method value's call. -/
theorem do_any {b : Bool} {K : Nat} (hK : K = 64 ∧ b = true ∨ K = 59 ∧ b = false) {g : Nat} {S : D.Dot → Bool} (n s : Nat) (w : World) (h : Opn w g S) (hn : n < 8) (h1 : 1 ≤ s) (h2 : s ≤ 96) :
    Calls Try.prog K #[.pointer (some ⟨g, 0, none⟩), .agg #[.int .i64 n, .int .i64 s]] w fun e w' => e = .returned (.tuple #[]) ∧ Opn w' g (turn b S ((n : Int), (s : Int))) ∧ w.grownBy w' (some g) := by
  rcases hK with ⟨rfl, rfl⟩ | ⟨rfl, rfl⟩
  · exact mark_any n s w h hn h1 h2
  · exact wipe_any n s w h hn h1 h2

/-- What over leaves. -/
def OverP (b : Bool) (g : Nat) (U : Nat → Int) (M : List D.Dot) (S : D.Dot → Bool) (w : World) (e : Ending) (w' : World) : Prop :=
  e = .returned (.tuple #[]) ∧ Opn w' g (into b U M S) ∧ w.grownBy w' (some g)

set_option maxHeartbeats 4000000 in
theorem over_any {b : Bool} {K : Nat} (hK : K = 64 ∧ b = true ∨ K = 59 ∧ b = false) {g : Nat} {S : D.Dot → Bool} (U : Nat → Int) (A : Option Addr) (n c : Nat) (M : List D.Dot) (w : World)
    (hn : M.length = n) (hr : Rds w (fun b => b ≠ g) A (dvs M)) (hl : n ≤ 1000000) (ho : Opn w g S) :
    Calls Try.prog 58 #[sv U A n c, .func (.func K) #[.pointer (some ⟨g, 0, none⟩)] #[]] w (OverP b g U M S w) := by
  have HN := Lib.hid hn
  clear hn
  have hDo := fun (T : D.Dot → Bool) (m s : Nat) (W : World) => do_any hK (g := g) (S := T) m s W
  have hb0 := b_alloc w (.cells (scs U A n c) 53)
  have hB0 := Blo.made w 53 (scs U A n c)
  have hr0 := hr.alloc (.cells (scs U A n c) 53)
  have ho0 := ho.new hb0
  have hgl := ho.lt
  have hw1 : ∃ W, w.alloc (.cells (scs U A n c) 53) = W := ⟨_, rfl⟩
  obtain ⟨w1, hw1⟩ := hw1
  rw [hw1] at hb0 hB0 hr0 ho0
  have HW := Lib.hid hw1
  have hRt := fun (T : Nat → Prop) (W : World) (h : Rds W T A (dvs M)) => right_any T U A n c M W HN.out h hl
  have HRt := Lib.hid hRt
  have HDo := Lib.hid hDo
  clear hw1 hRt hDo
  have gen : ∀ K', K' = K → (K' = 64 ∨ K' = 59) := fun K' e => by rw [e]; exact hK.imp (·.1) (·.1)
  rcases gen K rfl with e | e
  all_goals
    subst e
    clear gen
    go_enter Try.func58, Try.ntmps58
    go_wp2_with fail
    rw [HW.out]
    refine (HRt.out _ w1 hr0).mono ?_
    rintro e w2 ⟨rfl, hb2⟩
    have hB2 := hB0.new hb2
    have hr2 := hr0.new hb2
    have ho2 := ho0.new hb2
    have hs0 := hb0.size
    have hg2 : w.grownBy w2 (some g) := gb_below (hb0.trans (hb2.mono hs0)) _
    cases hrt : D.rt U M with
    | false =>
      have HT := Lib.hid hrt
      clear hrt
      go_wp2
      go_end0
      exact ⟨rfl, ho2.congr (into_no b HT.out), hg2⟩
    | true =>
      have HT := Lib.hid hrt
      have HU : Hid (∀ k, k < 8 → 0 ≤ U k ∧ U k ≤ 96) := Lib.hid (D.rt_iff.1 hrt).1
      have HM : Hid (∀ d, d ∈ M → D.may d = true) := Lib.hid fun d hd => (D.rt_may hrt hd).1
      have z0 : w2.cell? ⟨w.heap.size, 0, none⟩ = some (.int .i64 (U 0)) := by simpa using hB2.cell 0
      have z1 : w2.cell? ⟨w.heap.size, 1, none⟩ = some (.int .i64 (U 1)) := by simpa using hB2.cell 1
      have z2 : w2.cell? ⟨w.heap.size, 2, none⟩ = some (.int .i64 (U 2)) := by simpa using hB2.cell 2
      have z3 : w2.cell? ⟨w.heap.size, 3, none⟩ = some (.int .i64 (U 3)) := by simpa using hB2.cell 3
      have z4 : w2.cell? ⟨w.heap.size, 4, none⟩ = some (.int .i64 (U 4)) := by simpa using hB2.cell 4
      have z5 : w2.cell? ⟨w.heap.size, 5, none⟩ = some (.int .i64 (U 5)) := by simpa using hB2.cell 5
      have z6 : w2.cell? ⟨w.heap.size, 6, none⟩ = some (.int .i64 (U 6)) := by simpa using hB2.cell 6
      have z7 : w2.cell? ⟨w.heap.size, 7, none⟩ = some (.int .i64 (U 7)) := by simpa using hB2.cell 7
      clear hrt
      go_wp2
      clear z0 z1 z2 z3 z4 z5 z6 z7
      go_loopw [14] (fun iv wr => ∃ (k : Nat) (T : D.Dot → Bool), iv = .int .i64 k ∧ k ≤ 8 ∧ Opn wr g T ∧ Sees T (low U k 0) b S ∧ w2.grownBy wr (some g)) (fun iv _ => 8 - (intOf iv).toNat)
      case atStart => exact ⟨0, S, rfl, by omega, ho2, sees_start U b S, World.grownBy.refl _ _⟩
      case round =>
        obtain ⟨k, T, rfl, hk, hT, hS, hg⟩ := hrel
        by_cases hlt : k < 8
        · have q := fun W => av_at U hlt W
          have hUk := HU.out k hlt
          obtain ⟨m, hm⟩ := Int.eq_ofNat_of_zero_le hUk.1
          rw [hm] at q
          have HMk := Lib.hid hm
          have hm96 : m ≤ 96 := by omega
          obtain ⟨wo, hwo⟩ : ∃ W, W = wr := ⟨_, rfl⟩
          have HS0 := Lib.hid hS
          clear hm hUk hS
          have hkd : decide ((k : Int) < 8) = true := by simp; omega
          go_wp2
          clear q
          go_loopw [19] (fun iv wr => ∃ (i : Nat) (T : D.Dot → Bool), iv = .int .i64 i ∧ i ≤ m ∧ Opn wr g T ∧ Sees T (low U k i) b S ∧ w2.grownBy wr (some g)) (fun iv _ => m - (intOf iv).toNat)
          case atStart => exact ⟨0, T, rfl, by omega, hT, HS0.out, hg⟩
          case round =>
            obtain ⟨i, T, rfl, hi, hT, hS, hg⟩ := hrel
            have HS := Lib.hid hS
            clear hS
            by_cases hlt2 : i < m
            · have hc := HDo.out T k (i + 1) wr hT hlt (by omega) (by omega)
              have e1 : ((i + 1 : Nat) : Int) = (i : Int) + 1 := by omega
              rw [e1] at hc
              have HS' := Lib.hid (sees_turn HS.out (low_step U k i))
              clear e1
              go_wp2_with fail
              refine hc.mono ?_
              rintro e w4 ⟨rfl, hT4, hg4⟩
              clear hc
              go_wp2
              go_roundw
              case rel => exact ⟨i + 1, _, by go_num, by omega, hT4, HS'.out, gb_trans hg hg4⟩
              case measure => simp [intOf]; omega
            · have HS' := Lib.hid (sees_same HS.out (low_next U k i (by rw [HMk.out]; omega)))
              go_wp2
              go_roundw
              case rel => exact ⟨k + 1, T, by go_num, by omega, hT, HS'.out, hg⟩
              case measure => simp [intOf]; omega
        · have HS' := Lib.hid (sees_same hS (P' := more U M 0) (by
            have e : k = 8 := by omega
            rw [e]; exact low_end U M))
          have z8 : wr.cell? ⟨w.heap.size, 8, none⟩ = some (.slice A n c) := by simpa using (hB2.grown hg (by simp; omega)).cell 8
          clear hS
          have hkd : decide ((k : Int) < 8) = false := by simp; omega
          go_wp2
          clear z8
          go_loopw [33] (fun iv wr => ∃ (j : Nat) (T : D.Dot → Bool), iv = .int .i64 j ∧ j ≤ n ∧ Opn wr g T ∧ Sees T (more U M j) b S ∧ w2.grownBy wr (some g)) (fun iv _ => n - (intOf iv).toNat)
          case atStart => exact ⟨0, T, rfl, by omega, hT, HS'.out, hg⟩
          case round =>
            obtain ⟨j, T, rfl, hj, hT, hS, hg⟩ := hrel
            by_cases hlt2 : j < n
            · have hj' : j < M.length := by rw [HN.out]; exact hlt2
              obtain ⟨ad, rfl, _, c1, c2⟩ := (hr2.grown hg (fun b hb _ e => by injection e with e; exact hb e)).dot hj'
              have HS2 := Lib.hid (sees_turn hS (more_step U M hj'))
              have hmay := D.may_iff.1 (HM.out M[j] (List.getElem_mem hj'))
              obtain ⟨x, hx⟩ : ∃ x, x = M[j] := ⟨_, rfl⟩
              rw [← hx] at c1 c2 hmay HS2
              obtain ⟨x1, x2⟩ := x
              simp only at c1 c2 hmay
              obtain ⟨y1, rfl⟩ := Int.eq_ofNat_of_zero_le hmay.1
              obtain ⟨y2, rfl⟩ := Int.eq_ofNat_of_zero_le (show 0 ≤ x2 by omega)
              have hT1 := hT.new (b_alloc wr (.cells #[.int .i64 (y1 : Int), .int .i64 (y2 : Int)] 39))
              have hc := HDo.out T y1 y2 _ hT1 (by omega) (by omega) (by omega)
              clear hx hS
              go_wp2_with fail
              refine hc.mono ?_
              rintro e w4 ⟨rfl, hT4, hg4⟩
              clear hc hT1
              go_wp2
              go_roundw
              case rel => exact ⟨j + 1, _, by go_num, by omega, hT4, HS2.out, gb_trans (gb_alloc hg _) hg4⟩
              case measure => simp [intOf]; omega
            · have HE := Lib.hid (more_end HT.out (by rw [HN.out]; omega) hS)
              clear hS
              go_wp2
              go_end0
              exact ⟨rfl, hT.congr HE.out, gb_trans hg2 hg⟩
end Go.Proofs.Ytedcgfcmhaeldaa
