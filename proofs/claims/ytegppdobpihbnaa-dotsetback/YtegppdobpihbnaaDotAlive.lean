/- Layer 6, the law's own: great, alive. -/
import Derived.Test.YtegppdobpihbnaaDotAdd
import Derived.Test.YtegppdobpihbnaaDotPut
namespace Go.Proofs.Ytegppdobpihbnaa
set_option linter.unusedVariables false
set_option linter.unusedSimpArgs false
open Go.ChangeShapes Go.WideShapes Go.ChangeAt Go.RowKit

namespace D
theorem add_is {U U' : Nat → Int} {M M' : List Dot} {d : Dot} (hr : rt U' M' = true) (hd : may d = true) (hh : has U M d = false) (hs : ∀ x, may x = true → (if x = d then true else has U M x) = has U' M' x) :
    (∀ j, j < 8 → (add U M d).1 j = U' j) ∧ (add U M d).2 = (M', 0) := by
  have e : add U M d = (cU (fun x => if x = d then true else has U M x), cM (fun x => if x = d then true else has U M x), 0) := by
    unfold add; rw [if_neg (by rw [hd]; decide), if_neg (by rw [hh]; decide)]
  obtain ⟨h1, h2⟩ := rt_cl hr
  rw [e]
  exact ⟨fun j hj => (cU_congr hj hs).trans (h1 j hj), by rw [cM_congr hs, h2]⟩
theorem rt0 : rt (fun _ => 0) [] = true := by decide
theorem rt2 : rt (fun _ => 0) [(0, 2)] = true := by decide
theorem rt1 : rt (fun _ => 0) [(0, 1)] = false := by decide
theorem rtU : rt (fun j => if j = 0 then 2 else 0) [] = true := by decide
theorem has0 (d : Dot) : has (fun _ => 0) [] d = false := by
  cases hd : may d with
  | false => exact has_no (.inl hd)
  | true => rw [has_yes hd rt0]; have := may_iff.1 hd; simp; omega
theorem add02 : (∀ j, j < 8 → (add (fun _ => 0) [] (0, 2)).1 j = 0) ∧ (add (fun _ => 0) [] (0, 2)).2 = ([(0, 2)], 0) := by
  refine add_is rt2 (by decide) (has0 _) fun x hx => ?_
  rw [has0, has_yes hx rt2]
  have := may_iff.1 hx
  by_cases e : x = (0, 2)
  · simp [e]
  · rw [if_neg e]
    simp [e]; omega
theorem rt_congr {U V : Nat → Int} {M : List Dot} (h : ∀ j, j < 8 → U j = V j) : rt U M = rt V M := by
  rw [Bool.eq_iff_iff, rt_iff, rt_iff]
  have h1 : (∀ k, k < 8 → 0 ≤ U k ∧ U k ≤ 96) ↔ (∀ k, k < 8 → 0 ≤ V k ∧ V k ≤ 96) := ⟨fun g k hk => by rw [← h k hk]; exact g k hk, fun g k hk => by rw [h k hk]; exact g k hk⟩
  rw [h1]
  refine and_congr_right fun _ => forall_congr' fun i => ?_
  refine imp_congr_right fun hi => ?_
  unfold ok1
  simp only [List.getD_eq_getElem?_getD, List.getElem?_eq_getElem hi, Option.getD_some]
  cases hm : may M[i] with
  | false => simp
  | true => have := may_iff.1 hm; rw [h _ (by omega)]
theorem has_congr {U V : Nat → Int} {M : List Dot} (h : ∀ j, j < 8 → U j = V j) (d : Dot) : has U M d = has V M d := by
  unfold has
  rw [rt_congr h]
  cases hm : may d with
  | false => simp
  | true => have := may_iff.1 hm; rw [h _ (by omega)]
theorem add01 {U : Nat → Int} (hU : ∀ j, j < 8 → U j = 0) : (∀ j, j < 8 → (add U [(0, 2)] (0, 1)).1 j = if j = 0 then 2 else 0) ∧ (add U [(0, 2)] (0, 1)).2 = ([], 0) := by
  have hc : ∀ x, has U [(0, 2)] x = has (fun _ => 0) [(0, 2)] x := has_congr hU
  refine add_is rtU (by decide) (by rw [hc]; decide) fun x hx => ?_
  rw [hc, has_yes hx rt2, has_yes hx rtU]
  have := may_iff.1 hx
  obtain ⟨a, b⟩ := x
  rw [Bool.eq_iff_iff]
  simp at *
  by_cases ha : a = 0
  · subst ha
    simp
    omega
  · have : ¬ a ≤ 0 := by omega
    simp [ha, this]
end D

/-- Sets one behind the other in a row: the k-th one's cells. -/
def SetAt (w : World) (g k : Nat) (U : Nat → Int) (A : Option Addr) (n c : Nat) : Prop := ∀ j v, (scs U A n c)[j]? = some v → w.cell? ⟨g, k * 9 + j, none⟩ = some v
theorem SetAt.nine {w : World} {g k : Nat} {U : Nat → Int} {A : Option Addr} {n c : Nat} (h : SetAt w g k U A n c) :
    w.cell? ⟨g, k * 9, none⟩ = some (.int .i64 (U 0)) ∧ w.cell? ⟨g, k * 9 + 1, none⟩ = some (.int .i64 (U 1)) ∧ w.cell? ⟨g, k * 9 + 2, none⟩ = some (.int .i64 (U 2)) ∧ w.cell? ⟨g, k * 9 + 3, none⟩ = some (.int .i64 (U 3)) ∧ w.cell? ⟨g, k * 9 + 4, none⟩ = some (.int .i64 (U 4)) ∧
      w.cell? ⟨g, k * 9 + 5, none⟩ = some (.int .i64 (U 5)) ∧ w.cell? ⟨g, k * 9 + 6, none⟩ = some (.int .i64 (U 6)) ∧ w.cell? ⟨g, k * 9 + 7, none⟩ = some (.int .i64 (U 7)) ∧ w.cell? ⟨g, k * 9 + 8, none⟩ = some (.slice A n c) :=
  ⟨h 0 _ rfl, h 1 _ rfl, h 2 _ rfl, h 3 _ rfl, h 4 _ rfl, h 5 _ rfl, h 6 _ rfl, h 7 _ rfl, h 8 _ rfl⟩
/-- Is one of the first k greater? -/
def anyBig (ns : Nat → Nat) : Nat → Bool
  | 0 => false
  | k + 1 => anyBig ns k || decide (1000 < ns k)

theorem anyBig_up {ns : Nat → Nat} {k : Nat} (h : anyBig ns k = true) : ∀ d, anyBig ns (k + d) = true
  | 0 => h
  | d + 1 => by show (anyBig ns (k + d) || _) = true; rw [anyBig_up h d]; rfl

set_option maxRecDepth 100000 in
set_option maxHeartbeats 2000000 in
theorem great_any (m : Nat) (g : Nat) (Us : Nat → Nat → Int) (As : Nat → Option Addr) (ns cs : Nat → Nat) (w : World) (hm : m ≤ 3) (hc : ∀ i, i < m → SetAt w g i (Us i) (As i) (ns i) (cs i)) (hn : ∀ i, i < m → ns i ≤ maxLen) :
    Calls Try.prog 9 #[.slice (some ⟨g, 0, none⟩) m m] w fun e w' => e = .returned (.bool (anyBig ns m)) ∧ Below w.heap.size w w' := by
  have HC := Lib.hid hc
  have HNs := Lib.hid hn
  clear hc hn
  go_enter Try.func9, Try.ntmps9
  go_wp2
  go_loopw [7] (fun iv wr => ∃ i : Nat, iv = .int .i64 i ∧ i ≤ m ∧ Hid (anyBig ns i = false) ∧ Below w.heap.size w wr) (fun iv _ => m - (intOf iv).toNat)
  case atStart => exact ⟨0, rfl, by omega, Lib.hid rfl, Below.refl _ _⟩
  case round =>
    obtain ⟨i, rfl, hi, HG, hb⟩ := hrel
    have hbs := hb.size
    by_cases hlt : i < m
    · have hS : SetAt wr g i (Us i) (As i) (ns i) (cs i) := fun j v hv => (World.cell?_of_block (w := w) (hb.block _ (M.cellLt (HC.out i hlt j v hv)))).trans (HC.out i hlt j v hv)
      obtain ⟨z0, z1, z2, z3, z4, z5, z6, z7, z8⟩ := hS.nine
      have hml := HNs.out i hlt
      unfold maxLen at hml
      by_cases hbig : 1000 < ns i
      · have HF : Hid (anyBig ns m = true) := Lib.hid (by
          have h1 : anyBig ns (i + 1) = true := by simp [anyBig, hbig]
          rw [show m = i + 1 + (m - (i + 1)) by omega]
          exact anyBig_up h1 _)
        generalize ns i = q at *
        go_wp2
        go_ret
        exact ⟨ret_bool HF.out.symm, hb.alloc hbs _⟩
      · have HG' : Hid (anyBig ns (i + 1) = false) := Lib.hid (by simp [anyBig, HG.out]; omega)
        generalize ns i = q at *
        go_wp2
        go_roundw
        case rel => exact ⟨i + 1, by go_num, by omega, HG', hb.alloc hbs _⟩
        case measure => simp [intOf]; omega
    · have HF : Hid (anyBig ns m = false) := Lib.hid (by rw [show m = i by omega]; exact HG.out)
      go_wp2
      go_ret
      exact ⟨ret_bool HF.out.symm, hb⟩

set_option maxRecDepth 100000 in
set_option maxHeartbeats 2000000 in
theorem alive_yes (w : World) : Calls Try.prog 8 #[] w fun e w' => e = .returned (.bool true) ∧ Below w.heap.size w w' := by
  have hA1 := dadd_any (fun _ => True) (fun _ => 0) none 0 0 [] 0 2 w rfl Rds.nil (by omega)
  obtain ⟨f1, f2⟩ := D.add02
  obtain ⟨⟨Ua, Ma, ea⟩, hra⟩ : ∃ r, r = D.add (fun _ => 0) [] (0, 2) := ⟨_, rfl⟩
  rw [← hra] at hA1 f1 f2
  simp only [Prod.mk.injEq] at f2
  obtain ⟨rfl, rfl⟩ := f2
  simp only at f1
  obtain ⟨h1, h2⟩ := D.add01 f1
  obtain ⟨⟨Ub, Mb, eb⟩, hrb⟩ : ∃ r, r = D.add Ua [(0, 2)] (0, 1) := ⟨_, rfl⟩
  rw [← hrb] at h1 h2
  simp only [Prod.mk.injEq] at h2
  obtain ⟨rfl, rfl⟩ := h2
  simp only at h1
  have HRB := Lib.hid hrb
  have HF1 := Lib.hid f1
  have HH1 : Hid (Ub 0 = 2) := Lib.hid (by rw [h1 0 (by omega)]; rfl)
  have HB0 : Hid (D.putB (fun _ => 0) [] = [0, 0, 0, 0, 0, 0, 0, 0, 0] ∧ D.putE (fun _ => 0) [] = 0) := Lib.hid (by
    have e0 : V.enc 0 = [0] := V.enc_small (by omega)
    unfold D.putB D.putE
    rw [D.rt0]
    refine ⟨?_, rfl⟩
    simp [D.encS, D.encU, D.encM, e0])
  clear hra hrb f1 h1
  unfold SetPost2 at hA1
  simp only [List.length_cons, List.length_nil, Nat.zero_add] at hA1
  go_enter Try.func8, Try.ntmps8
  go_wp2_with fail
  refine hA1.mono ?_
  rintro e w1 ⟨A1, c1, rfl, hR1, hb1⟩
  have hA2 := dadd_any (fun _ => True) Ua A1 1 c1 [(0, 2)] 0 1 (w1.alloc (.cells (scs Ua A1 1 c1) 30)) rfl (hR1.rdsT.alloc _) (by omega)
  rw [← HRB.out] at hA2
  unfold SetPost2 at hA2
  simp only [List.length_nil] at hA2
  clear hA1
  go_wp2_with fail
  refine hA2.mono ?_
  rintro e w2 ⟨A2, c2, rfl, hR2, hb2⟩
  have hXa : Blo w2 w1.heap.size 30 (scs Ua A1 1 c1) := (Blo.made _ _ _).new hb2
  have hra2 : Rds w2 (fun _ => True) A1 (dvs [(0, 2)]) := (hR1.rdsT.alloc _).new hb2
  have hb02 : Below w.heap.size w w2 := below_new (below_new hb1 (b_alloc _ _)) hb2
  have hP := dPut_any (fun _ => True) (fun _ => 0) none 0 0 [] (w2.alloc (.cells (scs Ub A2 0 c2) 30)) rfl Rds.nil (by omega)
  rw [HB0.out.1, HB0.out.2] at hP
  unfold BytesPost at hP
  clear hA2 hR1 hb1 hb2
  go_wp2_with fail
  refine hP.mono ?_
  rintro e w3 ⟨A3, N3, c3, rfl, hN3, hR3, hb3⟩
  have hXa3 := (hXa.alloc (.cells (scs Ub A2 0 c2) 30)).new hb3
  have hXb3 : Blo w3 w2.heap.size 30 (scs Ub A2 0 c2) := (Blo.made _ _ _).new hb3
  have hra3 : Rds w3 (fun _ => True) A1 (dvs [(0, 2)]) := (hra2.alloc _).new hb3
  have hb03 : Below w.heap.size w w3 := below_new (below_new hb02 (b_alloc _ _)) hb3
  simp only [List.length_cons, List.length_nil, Nat.zero_add] at hN3
  subst hN3
  obtain ⟨z0, z1, z2, z3, z4, z5, z6, z7, z8⟩ := set9 hXa3
  have y0 : w3.cell? ⟨w2.heap.size, 0, none⟩ = some (.int .i64 2) := by have := hXb3.cell 0; simp [HH1.out] at this; exact this
  have y8 : w3.cell? ⟨w2.heap.size, 8, none⟩ = some (.slice A2 0 c2) := by simpa using hXb3.cell 8
  have hRa := right_any (fun _ => True) Ua A1 1 c1 [(0, 2)] w3 rfl hra3 (by omega)
  rw [D.rt_congr HF1.out, D.rt2] at hRa
  clear hP hXa hXa3 hXb3 hra2 hra3 hR2 hR3 hb3
  go_wp2_with fail
  refine hRa.mono ?_
  rintro e w4 ⟨rfl, hb4⟩
  have hRl := right_any (fun _ => True) (fun _ => 0) (some ⟨w4.heap.size, 0, none⟩) 1 1 [(0, 1)] (w4.alloc (.cells #[.int .i64 0, .int .i64 1] 27)) rfl (dot_rds _ _ _ _) (by omega)
  rw [D.rt1] at hRl
  clear hRa z0 z1 z2 z3 z4 z5 z6 z7 z8 y0 y8
  go_wp2_with fail
  refine hRl.mono ?_
  rintro e w5 ⟨rfl, hb5⟩
  clear hRl
  go_wp2
  go_ret
  exact ⟨rfl, below_new (below_new (below_new hb03 hb4) (b_alloc _ _)) hb5⟩
end Go.Proofs.Ytegppdobpihbnaa
