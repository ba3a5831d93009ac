/- The plain mathematics of WindowAdds: what other samples say, and a node's first one. -/
import Derived.Test.YtodlifbhpgphcaaWinTurn
namespace Go.Proofs.Ytodlifbhpgphcaa
set_option linter.unusedVariables false
set_option linter.unusedSimpArgs false
open Go.ChangeShapes Go.WideShapes Go.ChangeAt Go.RowKit

theorem smps_one (k nd : Int) (e : EvV) : smps k nd [e] = if e.F 3 = 1 ∧ e.F 4 = k ∧ e.F 0 = nd then [e] else [] := by
  unfold smps
  by_cases h : e.F 3 = 1 ∧ e.F 4 = k ∧ e.F 0 = nd
  · rw [if_pos h, List.filter_cons_of_pos (by simpa [isSmp] using h)]; rfl
  · rw [if_neg h, List.filter_cons_of_neg (by simpa [isSmp] using h)]; rfl
/-- Samples of another workload, and Sets, say nothing. -/
theorem loadQ_other {l : List EvV} {o s : EvV} {k sz : Int} (ho : o.F 4 ≠ k) (hs : s.F 3 ≠ 1) : loadQ (l ++ [o, s]) k sz = loadQ l k sz := by
  refine loadQ_same fun i _ => ?_
  have h1 : smps k i (l ++ [o, s]) = smps k i l := by
    rw [show l ++ [o, s] = l ++ ([o] ++ [s]) from rfl, smps_app, smps_app, smps_one, smps_one, if_neg (fun h => ho h.2.1), if_neg (fun h => hs h.1)]
    simp
  unfold newQ
  rw [h1]
theorem ldQ_bd (l : List EvV) (k sz : Int) : ∀ j, -1099511627776 ≤ (ldQ l k sz j).1 ∧ (ldQ l k sz j).1 ≤ 1099511627776
  | 0 => by simp [ldQ]
  | j + 1 => by
    rw [ldQ]
    split
    · exact S.clamp_bd _
    · exact ldQ_bd l k sz j
theorem mean_one {x : EvV} {v : Int} (hv : x.F 5 = v) (h0 : 0 ≤ v) (h1 : v ≤ 65535) : meanQ [x] = (v, true) := by
  have e1 : sumQ [x] = v := by
    show S.add 0 (x.F 5) = v
    rw [hv]
    unfold S.add
    rw [S.clamp_id (by omega) (by omega : (0 : Int) ≤ 1099511627776), S.clamp_id (by omega) (by omega : v ≤ 1099511627776), Int.zero_add, S.clamp_id (by omega) (by omega)]
  unfold meanQ
  rw [e1]
  have e2 : S.cdiv v 1 = v := by
    unfold S.cdiv
    rw [S.clamp_id (by omega) (by omega : v ≤ 1099511627776), S.clamp_id (by omega) (by omega : (1 : Int) ≤ 1099511627776)]
    exact S.up_unique (by omega) (by omega) (by omega)
  simp [e2]
theorem newQ_nil {k sz : Int} {i : Nat} {l : List EvV} (h : smps k i l = []) : newQ k i sz l = [] := by
  unfold newQ
  rw [h]
  simp [P.isort]
/-- A node's first sample adds itself. -/
theorem loadQ_own {l : List EvV} {x : EvV} {sz v : Int} (h3 : x.F 3 = 1) (h4 : x.F 4 = 0) (h0 : x.F 0 = 7) (h5 : x.F 5 = v) (hv0 : 0 ≤ v) (hv1 : v ≤ 65535) (hz : ¬ (sz < 1 ∨ 16 < sz)) (hn : smps 0 7 l = []) :
    loadQ (l ++ [x]) 0 sz = (min ((loadQ l 0 sz).1 + v) 1099511627776, (loadQ l 0 sz).2.1 + 1, 0) := by
  have hsame : ldQ (l ++ [x]) 0 sz 7 = ldQ l 0 sz 7 := ldQ_same fun i hi => by
    have h1 : smps 0 (i : Int) (l ++ [x]) = smps 0 i l := by
      rw [smps_app, smps_one, if_neg (fun h => by have := h.2.2; omega), List.append_nil]
    unfold newQ
    rw [h1]
  have hl8 : ldQ l 0 sz 8 = ldQ l 0 sz 7 := by
    have : meanQ (newQ 0 (7 : Nat) sz l) = (0, false) := by rw [newQ_nil hn]; rfl
    exact ldQ_no this
  have hx : newQ 0 (7 : Nat) sz (l ++ [x]) = [x] := by
    have h1 : smps 0 ((7 : Nat) : Int) (l ++ [x]) = [x] := by
      rw [smps_app, smps_one, if_pos ⟨h3, h4, h0⟩]
      have : smps 0 ((7 : Nat) : Int) l = [] := hn
      rw [this]; rfl
    unfold newQ
    rw [h1]
    have h2 : P.isort ltQ [x] = [x] := rfl
    rw [h2, List.take_of_length_le (by simp; omega)]
  have hx8 : ldQ (l ++ [x]) 0 sz 8 = (S.add (ldQ l 0 sz 7).1 v, (ldQ l 0 sz 7).2 + 1) := by
    have : meanQ (newQ 0 (7 : Nat) sz (l ++ [x])) = (v, true) := by rw [hx]; exact mean_one h5 hv0 hv1
    have h9 := ldQ_yes this
    rw [hsame] at h9
    exact h9
  have hbd := ldQ_bd l 0 sz 7
  unfold loadQ
  rw [if_neg hz, if_neg hz, hx8, hl8]
  have e1 : S.add (ldQ l 0 sz 7).1 v = min ((ldQ l 0 sz 7).1 + v) 1099511627776 := by
    unfold S.add
    rw [S.clamp_id hbd.1 hbd.2, S.clamp_id (by omega) (by omega : v ≤ 1099511627776)]
    by_cases h : (ldQ l 0 sz 7).1 + v ≤ 1099511627776
    · rw [S.clamp_id (by omega) h]; omega
    · rw [S.clamp_hi (by omega)]; omega
  simp only [e1]
theorem loadQ_err {l : List EvV} {k sz : Int} : (loadQ l k sz).2.2 = if sz < 1 ∨ 16 < sz then 2 else 0 := by
  unfold loadQ
  split <;> rfl
end Go.Proofs.Ytodlifbhpgphcaa
