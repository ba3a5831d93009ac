/- The plain mathematics of WindowMeans: samples one behind the other, what is newest of them, where their mean lies. -/
import Derived.Test.YtodlifbhpgphcaaWinTurn
namespace Go.Proofs.Ytodlifbhpgphcaa
set_option linter.unusedVariables false
set_option linter.unusedSimpArgs false
open Go.ChangeShapes Go.WideShapes Go.ChangeAt Go.RowKit

def smF (sq v : Int) : Nat → Int := fun j => [3, sq, 1, 1, 0, v].getD j 0
def smE (sq v : Int) : EvV := ⟨smF sq v, [], none, 0⟩
/-- The samples of these values, numbered from k + 1 on. -/
def mkS : Nat → List Int → List EvV
  | _, [] => []
  | k, v :: vs => smE ((k : Int) + 1) v :: mkS (k + 1) vs
theorem mkS_len : ∀ (k : Nat) (vs : List Int), (mkS k vs).length = vs.length
  | _, [] => rfl
  | k, v :: vs => by simp [mkS, mkS_len (k + 1) vs]
theorem mkS_app : ∀ (k : Nat) (a b : List Int), mkS k (a ++ b) = mkS k a ++ mkS (k + a.length) b
  | _, [], b => by simp [mkS]
  | k, v :: a, b => by
    simp only [List.cons_append, mkS, List.length_cons]
    rw [mkS_app (k + 1) a b, show k + 1 + a.length = k + (a.length + 1) by omega]
theorem mkS_take {vs : List Int} {i : Nat} (h : i < vs.length) : mkS 0 (vs.take (i + 1)) = mkS 0 (vs.take i) ++ [smE ((i : Int) + 1) vs[i]] := by
  rw [List.take_succ_eq_append_getElem h, mkS_app, List.length_take, Nat.zero_add, Nat.min_eq_left (by omega)]
  rfl
theorem mkS_get : ∀ (k : Nat) (vs : List Int) (i : Nat) (h : i < (mkS k vs).length) (h' : i < vs.length), (mkS k vs)[i] = smE ((k : Int) + i + 1) vs[i]
  | k, v :: vs, 0, _, _ => by simp [mkS]
  | k, v :: vs, i + 1, h, h' => by
    simp only [mkS, List.getElem_cons_succ]
    rw [mkS_get (k + 1) vs i (by simpa [mkS] using h) (by simpa using h')]
    congr 1
    omega
theorem mkS_vals : ∀ (k : Nat) (vs : List Int), (mkS k vs).map (fun e => e.F 5) = vs
  | _, [] => rfl
  | k, v :: vs => by simp only [mkS, List.map_cons, mkS_vals (k + 1) vs]; rfl
theorem mkS_mem {k : Nat} {vs : List Int} {e : EvV} (h : e ∈ mkS k vs) : ∃ sq v, e = smE sq v ∧ v ∈ vs := by
  induction vs generalizing k with
  | nil => cases h
  | cons v vs ih =>
    rcases List.mem_cons.1 h with rfl | h
    · exact ⟨_, v, rfl, List.mem_cons_self⟩
    · obtain ⟨sq, v', h1, h2⟩ := ih h
      exact ⟨sq, v', h1, List.mem_cons_of_mem _ h2⟩
theorem mkS_asc : ∀ (k : Nat) (vs : List Int), (mkS k vs).Pairwise (fun a b => a.F 1 < b.F 1) ∧ ∀ e ∈ mkS k vs, (k : Int) < e.F 1
  | _, [] => ⟨List.Pairwise.nil, fun e he => by cases he⟩
  | k, v :: vs => by
    obtain ⟨h1, h2⟩ := mkS_asc (k + 1) vs
    refine ⟨List.pairwise_cons.2 ⟨fun e he => ?_, h1⟩, fun e he => ?_⟩
    · have := h2 e he
      show (k : Int) + 1 < e.F 1
      omega
    · rcases List.mem_cons.1 he with rfl | he
      · show (k : Int) < (k : Int) + 1
        omega
      · have := h2 e he
        omega
theorem smps_mkS (k : Nat) (vs : List Int) : smps 0 3 (mkS k vs) = mkS k vs := by
  unfold smps
  rw [List.filter_eq_self]
  intro e he
  obtain ⟨sq, v, rfl, _⟩ := mkS_mem he
  rfl
theorem isort_mkS (vs : List Int) : P.isort ltQ (mkS 0 vs) = (mkS 0 vs).reverse := by
  have ha := (mkS_asc 0 vs).1
  refine (P.isort_is ordQ (l := mkS 0 vs) (l' := (mkS 0 vs).reverse) ?_ ?_).symm
  · unfold P.Srt
    rw [List.pairwise_reverse]
    refine ha.imp ?_
    intro a b h
    simp [ltQ]
    omega
  · exact stb_perm (List.reverse_perm _).symm (ha.imp (fun h e => by omega))
theorem newQ_mkS (vs : List Int) (sz : Int) : newQ 0 3 sz (mkS 0 vs) = (mkS 0 vs).reverse.take sz.toNat := by
  unfold newQ
  rw [smps_mkS, isort_mkS]
/-- The newest values. -/
def nwV (vs : List Int) (z : Nat) : List Int := vs.reverse.take z
theorem newQ_vals (vs : List Int) (sz : Int) : (newQ 0 3 sz (mkS 0 vs)).map (fun e => e.F 5) = nwV vs sz.toNat := by
  rw [newQ_mkS, List.map_take, List.map_reverse, mkS_vals]
  rfl
theorem newQ_seq {vs : List Int} {sz : Int} {i : Nat} (h : i < (newQ 0 3 sz (mkS 0 vs)).length) : (newQ 0 3 sz (mkS 0 vs))[i].F 1 = (vs.length : Int) - i := by
  have e : ∀ (s : List EvV) (h : i < s.length), s = (mkS 0 vs).reverse.take sz.toNat → s[i].F 1 = (vs.length : Int) - i := by
    intro s h hs
    subst hs
    rw [List.getElem_take, List.getElem_reverse]
    simp only [mkS_len]
    have hl : i < vs.length := by
      rw [List.length_take, List.length_reverse, mkS_len] at h
      omega
    rw [mkS_get 0 vs (vs.length - 1 - i) (by rw [mkS_len]; omega) (by omega)]
    show ((0 : Nat) : Int) + ((vs.length - 1 - i : Nat) : Int) + 1 = _
    omega
  exact e _ h (newQ_mkS vs sz)
theorem nwV_len (vs : List Int) (z : Nat) : (nwV vs z).length = min z vs.length := by simp [nwV]
theorem nwV_mem {vs : List Int} {z : Nat} {x : Int} (h : x ∈ nwV vs z) : x ∈ vs := by
  have := List.mem_of_mem_take h
  simpa using this

/-! Sums that stay within bounds -/
theorem sum_bd {xs : List Int} {b : Int} (h : ∀ x ∈ xs, 0 ≤ x ∧ x ≤ b) : 0 ≤ xs.sum ∧ xs.sum ≤ xs.length * b := by
  induction xs with
  | nil => simp
  | cons x xs ih =>
    have h1 := h x (List.mem_cons_self)
    have h2 := ih (fun y hy => h y (List.mem_cons_of_mem _ hy))
    simp only [List.sum_cons, List.length_cons]
    have e : (((xs.length + 1 : Nat) : Int)) * b = (xs.length : Int) * b + b := by
      rw [Int.natCast_add, Int.add_mul]; simp
    rw [e]
    omega
theorem sumF_sum : ∀ (fs : List (Nat → Int)) (a : Int), 0 ≤ a → (∀ F ∈ fs, 0 ≤ F 5 ∧ F 5 ≤ 200000) → a + fs.length * 200000 ≤ 1099511627776 → sumF a fs = a + (fs.map (fun F => F 5)).sum
  | [], a, _, _, _ => by simp [sumF]
  | F :: fs, a, ha, h, hb => by
    have h1 := h F (List.mem_cons_self)
    have e : (((fs.length + 1 : Nat) : Int)) * 200000 = (fs.length : Int) * 200000 + 200000 := by omega
    simp only [List.length_cons] at hb
    have hadd : S.add a (F 5) = a + F 5 := by
      unfold S.add
      rw [S.clamp_id (by omega) (by omega : a ≤ 1099511627776), S.clamp_id (by omega) (by omega : F 5 ≤ 1099511627776), S.clamp_id (by omega) (by omega)]
    have h2 := sumF_sum fs (a + F 5) (by omega) (fun G hG => h G (List.mem_cons_of_mem _ hG)) (by omega)
    show sumF (S.add a (F 5)) fs = _
    rw [hadd, h2]
    simp only [List.map_cons, List.sum_cons]
    omega
/-- The mean of these samples: all of it in whole numbers. -/
theorem mean_mkS {vs : List Int} {sz : Int} (hv : ∀ x ∈ vs, 0 ≤ x ∧ x ≤ 200000) (hl : vs.length ≤ 40) (h0 : 0 < vs.length) (hz : 0 < sz) :
    meanQ (newQ 0 3 sz (mkS 0 vs)) = (S.up (nwV vs sz.toNat).sum ((nwV vs sz.toNat).length : Nat), true) := by
  have hval := newQ_vals vs sz
  have hlen : (newQ 0 3 sz (mkS 0 vs)).length = (nwV vs sz.toNat).length := by rw [← hval, List.length_map]
  have hn : (nwV vs sz.toNat).length = min sz.toNat vs.length := nwV_len vs _
  have hmem : ∀ F ∈ (newQ 0 3 sz (mkS 0 vs)).map (·.F), 0 ≤ F 5 ∧ F 5 ≤ 200000 := by
    intro F hF
    obtain ⟨e, he, rfl⟩ := List.mem_map.1 hF
    obtain ⟨sq, v, rfl, hv'⟩ := mkS_mem (mem_newQ he).1
    exact hv v hv'
  have hsum : sumQ (newQ 0 3 sz (mkS 0 vs)) = (nwV vs sz.toNat).sum := by
    unfold sumQ
    rw [sumF_sum _ 0 (Int.le_refl _) hmem (by rw [List.length_map, hlen, hn]; omega), Int.zero_add, List.map_map]
    rw [← hval]
    rfl
  have hb := sum_bd (xs := nwV vs sz.toNat) (b := 200000) (fun x hx => hv x (nwV_mem hx))
  have hb2 : (nwV vs sz.toNat).sum ≤ 1099511627776 := by
    have h1 := hb.2
    have h2 : (((nwV vs sz.toNat).length : Nat) : Int) ≤ 40 := by rw [hn]; omega
    have h3 : (((nwV vs sz.toNat).length : Nat) : Int) * 200000 ≤ 40 * 200000 := Int.mul_le_mul_of_nonneg_right h2 (by omega)
    omega
  unfold meanQ
  rw [hlen, if_neg (by rw [hn]; omega), hsum]
  unfold S.cdiv
  rw [S.clamp_id (by omega) hb2, S.clamp_id (by omega) (by rw [hn]; omega)]
theorem up_between {xs : List Int} {lo hi : Int} (h : ∀ x ∈ xs, lo ≤ x ∧ x ≤ hi) (h0 : 0 < xs.length) : lo ≤ S.up xs.sum (xs.length : Nat) ∧ S.up xs.sum (xs.length : Nat) ≤ hi := by
  have hb : (xs.length : Int) * lo ≤ xs.sum ∧ xs.sum ≤ (xs.length : Int) * hi := by
    clear h0
    induction xs with
    | nil => simp
    | cons x xs ih =>
      have h1 := h x (List.mem_cons_self)
      have h2 := ih (fun y hy => h y (List.mem_cons_of_mem _ hy))
      simp only [List.sum_cons, List.length_cons]
      have e : ∀ b : Int, (((xs.length + 1 : Nat) : Int)) * b = (xs.length : Int) * b + b := fun b => by
        rw [Int.natCast_add, Int.add_mul]; simp
      rw [e, e]
      omega
  have hc : (0 : Int) < (xs.length : Nat) := by omega
  obtain ⟨h1, h2⟩ := S.up_spec (a := xs.sum) hc
  generalize S.up xs.sum (xs.length : Nat) = u at *
  constructor
  · by_cases h : u < lo
    · exfalso
      have h3 : (u + 1) * (xs.length : Int) ≤ lo * (xs.length : Int) := Int.mul_le_mul_of_nonneg_right (by omega) (by omega)
      rw [Int.add_mul, Int.one_mul] at h3
      rw [Int.mul_comm (xs.length : Int) lo] at hb
      omega
    · omega
  · by_cases h : hi < u
    · exfalso
      have h3 : (hi + 1) * (xs.length : Int) ≤ u * (xs.length : Int) := Int.mul_le_mul_of_nonneg_right (by omega) (by omega)
      rw [Int.add_mul, Int.one_mul] at h3
      rw [Int.mul_comm (xs.length : Int) hi] at hb
      omega
    · omega
theorem sum_le : ∀ {a b : List Int}, a.length = b.length → (∀ i (h : i < a.length) (h' : i < b.length), a[i] ≤ b[i]) → a.sum ≤ b.sum
  | [], [], _, _ => Int.le_refl _
  | x :: a, y :: b, hl, h => by
    have h0 := h 0 (by simp) (by simp)
    simp at h0
    have := sum_le (a := a) (b := b) (by simpa using hl) (fun i hi hi' => by
      have := h (i + 1) (by simpa using hi) (by simpa using hi')
      simpa using this)
    simp only [List.sum_cons]
    omega
theorem nwV_get {vs : List Int} {z i : Nat} (h : i < (nwV vs z).length) : ∃ h' : vs.length - 1 - i < vs.length, (nwV vs z)[i] = vs[vs.length - 1 - i] := by
  have hl : i < vs.length := by rw [nwV_len] at h; omega
  refine ⟨by omega, ?_⟩
  have e : ∀ (s : List Int) (h : i < s.length), s = vs.reverse.take z → s[i] = vs[vs.length - 1 - i]'(by omega) := by
    intro s h hs
    subst hs
    rw [List.getElem_take, List.getElem_reverse]
  exact e _ h rfl
/-- One value more makes the mean no less. -/
theorem up_more {vs : List Int} {t z : Nat} {d : Int} (ht : t < vs.length) (hd : 0 ≤ d) (h0 : 0 < (nwV vs z).length) :
    S.up (nwV vs z).sum ((nwV vs z).length : Nat) ≤ S.up (nwV (vs.set t (vs[t] + d)) z).sum ((nwV (vs.set t (vs[t] + d)) z).length : Nat) := by
  have hl : (nwV (vs.set t (vs[t] + d)) z).length = (nwV vs z).length := by rw [nwV_len, nwV_len, List.length_set]
  rw [hl]
  refine S.up_mono (by omega) (sum_le hl.symm fun i h h' => ?_)
  obtain ⟨h1, e1⟩ := nwV_get h
  obtain ⟨h2, e2⟩ := nwV_get h'
  rw [e1, e2, List.getElem_set]
  simp only [List.length_set]
  split
  · next he =>
    have : vs[vs.length - 1 - i] = vs[t] := by simp only [he]
    omega
  · exact Int.le_refl _
theorem mkS_set : ∀ (k : Nat) (vs : List Int) (t : Nat) (x : Int) (h : t < vs.length), mkS k (vs.set t x) = (mkS k vs).set t (smE ((k : Int) + t + 1) x)
  | k, v :: vs, 0, x, _ => by simp [mkS]
  | k, v :: vs, t + 1, x, h => by
    simp only [List.set_cons_succ, mkS]
    rw [mkS_set (k + 1) vs t x (by simpa using h)]
    congr 3
    omega
end Go.Proofs.Ytodlifbhpgphcaa
