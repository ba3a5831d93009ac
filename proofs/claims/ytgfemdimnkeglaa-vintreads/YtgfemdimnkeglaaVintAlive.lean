/- Layer 2: the document's examples. -/
import Derived.Test.YtgfemdimnkeglaaVintFace
import Derived.Test.YtgfemdimnkeglaaVintSame
namespace Go.Proofs.Ytgfemdimnkeglaa
open Go.ChangeShapes Go.WideShapes Go.ChangeAt Go.RowKit

theorem ex_300 : V.enc 300 = [172, 2] := by rw [V.enc_big (by decide), V.enc_small (by decide)]; rfl
theorem ex_int1 : V.int [172, 2, 7] = (300, 2, 0) := by decide
theorem ex_int2 : V.int [128, 0] = (0, 0, 4) := by decide
theorem ex_int3 : V.int [128] = (0, 0, 3) := by decide

theorem lit_rds (w : World) (l : List Int) (k : IntKind) (t : TypeId) : Rds (w.alloc (.cells (l.map (Value.int k)).toArray t)) (fun _ => True) (some ⟨w.heap.size, 0, none⟩) (l.map (Value.int k)) := by
  intro j u hu
  refine ⟨_, rfl, trivial, ?_⟩
  rw [M.addMk, Nat.zero_add, (Blo.made w t _).cell]
  simpa using hu

set_option maxHeartbeats 2000000 in
theorem alive_yes (w : World) : Calls Try.prog 6 #[] w fun e w' => e = .returned (.bool true) ∧ Below w.heap.size w w' := by
  go_enter Try.func6, Try.ntmps6
  go_wp2_with fail
  refine (put_yes (fun _ => True) none 0 [] 300 w Rds.nil (by simp) (by decide) (by decide)).mono ?_
  rintro e w1 ⟨A1, c1, rfl, hown1, hb1⟩
  rw [ex_300] at hown1
  rw [ex_300]
  simp only [List.nil_append, List.length_cons, List.length_nil, Nat.zero_add, Nat.reduceAdd] at hown1 ⊢
  have hA : Rds w1 (· < w1.heap.size) A1 (u8s [172, 2]) := (own_rds hown1).old.mono fun b hb => hb.2
  clear hown1
  go_wp2_with fail
  refine (new_any (fun _ => True) _ _ [172, 2, 7] _ (lit_rds w1 [172, 2, 7] .u8 5) (by simp) (by unfold Byt; decide)).mono ?_
  rintro e w2 ⟨g2, h2, rfl, hr2, hg2, hh2, hb2⟩
  have hA2 := (hA.alloc (.cells (u8s [172, 2, 7]).toArray 5)).new hb2
  have hB2 : Below w.heap.size w w2 := (hb1.alloc hb1.size _).trans (hb2.mono (by have := hb1.size; simp; omega))
  have hs2 : w1.heap.size + 1 ≤ w2.heap.size := by have := hb2.size; simp at this; omega
  have hg2' : w1.heap.size + 1 ≤ g2 := by simp at hg2; omega
  have hh2' : w1.heap.size + 1 ≤ h2 := by simp at hh2; omega
  have hs1 := hb1.size
  clear hb1 hA hb2 hg2 hh2
  go_wp2_with fail
  refine (int_any hr2).mono ?_
  rintro e w3 ⟨rfl, hr3, hgb3⟩
  rw [ex_int1] at hr3 ⊢
  have hA3 := hA2.grown hgb3 (fun b hb _ e => by injection e with e; omega)
  have hB3 := hB2.grown hgb3 (by omega) (by intro k hk; injection hk with hk; omega)
  have hs3 := hgb3.size
  clear hr2 hgb3 hA2 hB2
  go_wp2_with fail
  refine (new_any (fun _ => True) _ _ [128, 0] _ (lit_rds w3 [128, 0] .u8 5) (by simp) (by unfold Byt; decide)).mono ?_
  rintro e w4 ⟨g4, h4, rfl, hr4, hg4, hh4, hb4⟩
  have hA4 := (hA3.alloc (.cells (u8s [128, 0]).toArray 5)).new hb4
  have hr3' := (hr3.alloc (.cells (u8s [128, 0]).toArray 5)).new hb4
  have hB4 : Below w.heap.size w w4 := (hB3.alloc (by omega) _).trans (hb4.mono (by simp; omega))
  have hs4 : w3.heap.size + 1 ≤ w4.heap.size := by have := hb4.size; simp at this; omega
  have hg4' : w3.heap.size + 1 ≤ g4 := by simp at hg4; omega
  have hh4' : w3.heap.size + 1 ≤ h4 := by simp at hh4; omega
  have l2 := hr3.lt
  have l2' := hr3.lth
  clear hA3 hr3 hb4 hg4 hh4 hB3
  go_wp2_with fail
  refine (new_any (fun _ => True) _ _ [128] _ (lit_rds w4 [128] .u8 5) (by simp) (by unfold Byt; decide)).mono ?_
  rintro e w5 ⟨g5, h5, rfl, hr5, hg5, hh5, hb5⟩
  have hA5 := (hA4.alloc (.cells (u8s [128]).toArray 5)).new hb5
  have hr3'' := (hr3'.alloc (.cells (u8s [128]).toArray 5)).new hb5
  have hr4' := (hr4.alloc (.cells (u8s [128]).toArray 5)).new hb5
  have hB5 : Below w.heap.size w w5 := (hB4.alloc (by omega) _).trans (hb5.mono (by simp; omega))
  have hs5 : w4.heap.size + 1 ≤ w5.heap.size := by have := hb5.size; simp at this; omega
  have hg5' : w4.heap.size + 1 ≤ g5 := by simp at hg5; omega
  have hh5' : w4.heap.size + 1 ≤ h5 := by simp at hh5; omega
  have l4 := hr4.lt
  have l4' := hr4.lth
  clear hA4 hr3' hr4 hb5 hg5 hh5 hB4
  go_wp2_with fail
  refine (int_any hr4').mono ?_
  rintro e w6 ⟨rfl, hr6, hgb6⟩
  rw [ex_int2] at hr6 ⊢
  have hA6 := hA5.grown hgb6 (fun b hb _ e => by injection e with e; omega)
  have hB6 := hB5.grown hgb6 (by omega) (by intro k hk; injection hk with hk; omega)
  have hr36 := hr3''.grown hgb6 (by simp; omega) (by simp; omega)
  have hr56 := hr5.grown hgb6 (by simp; omega) (by simp; omega)
  have hs6 := hgb6.size
  clear hr4' hgb6 hA5 hB5 hr3'' hr5
  go_wp2_with fail
  refine (int_any hr56).mono ?_
  rintro e w7 ⟨rfl, hr7, hgb7⟩
  rw [ex_int3] at hr7 ⊢
  have hA7 := hA6.grown hgb7 (fun b hb _ e => by injection e with e; omega)
  have hB7 := hB6.grown hgb7 (by omega) (by intro k hk; injection hk with hk; omega)
  have hr37 := hr36.grown hgb7 (by simp; omega) (by simp; omega)
  have hr67 := hr6.grown hgb7 (by simp; omega) (by simp; omega)
  have hs7 := hgb7.size
  clear hr56 hgb7 hA6 hB6 hr36 hr6
  go_wp2_with fail
  refine (same_yes _ _ _ _ _ _ [172, 2] _ (hA7.alloc _) (lit_rds w7 [172, 2] .u8 5) (by simp)).mono ?_
  rintro e w8 ⟨rfl, hd⟩
  have hr38 := (hr37.alloc (.cells (u8s [172, 2]).toArray 5)).grown (hd.gb none) (by simp) (by simp)
  have hr68 := (hr67.alloc (.cells (u8s [172, 2]).toArray 5)).grown (hd.gb none) (by simp) (by simp)
  have hr78 := (hr7.alloc (.cells (u8s [172, 2]).toArray 5)).grown (hd.gb none) (by simp) (by simp)
  have hB8 : Below w.heap.size w w8 := (hB7.alloc (by omega) _).trans (hd.below _)
  clear hr37 hr67 hr7 hd hB7 hA7
  go_wp2_with fail
  refine (left_any hr38).mono ?_
  rintro e w9 ⟨rfl, rfl⟩
  go_wp2_with fail
  refine (err_any hr38).mono ?_
  rintro e w9 ⟨rfl, rfl⟩
  go_wp2_with fail
  refine (err_any hr68).mono ?_
  rintro e w9 ⟨rfl, rfl⟩
  go_wp2_with fail
  refine (err_any hr78).mono ?_
  rintro e w9 ⟨rfl, rfl⟩
  go_wp2_with fail
  refine (err_nil _).mono ?_
  rintro e w9 ⟨rfl, rfl⟩
  go_wp2
  go_ret
  exact ⟨rfl, hB8⟩

end Go.Proofs.Ytgfemdimnkeglaa
