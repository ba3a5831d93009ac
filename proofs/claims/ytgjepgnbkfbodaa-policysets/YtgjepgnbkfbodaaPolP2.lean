/- Layer 9, the program's: the rivals of a workload, the comparison that is made, the least of them. -/
import Derived.Test.YtgjepgnbkfbodaaPolP1
import Derived.Test.YtgjepgnbkfbodaaPolMath
namespace Go.Proofs.Ytgjepgnbkfbodaa
set_option linter.unusedVariables false
set_option linter.unusedSimpArgs false
open Go.ChangeShapes Go.WideShapes Go.ChangeAt Go.RowKit

/-- A Set of that workload. -/
def isSet (k : Int) (e : EvV) : Bool := e.F 3 == 2 && e.F 4 == k
def sets (k : Int) (l : List EvV) : List EvV := l.filter (isSet k)
theorem sets_take {l : List EvV} {k : Int} {i : Nat} (h : i < l.length) : sets k (l.take (i + 1)) = sets k (l.take i) ++ if isSet k l[i] = true then [l[i]] else [] := by
  unfold sets
  rw [List.take_succ_eq_append_getElem h, List.filter_append]
  cases hs : isSet k l[i] <;> simp [hs]
theorem sets_le (l : List EvV) (k : Int) : (sets k l).length ≤ l.length := List.length_filter_le _ _
/-- A call answers these rivals, in a row of its own. -/
def RivPost (m : List EvV) (w : World) (e : Ending) (w' : World) : Prop :=
  ∃ A N c, e = .returned (.slice A N c) ∧ N = m.length ∧ RRow w' w.heap.size (.slice A N c) m ∧ Below w.heap.size w w'

set_option maxRecDepth 100000 in
set_option maxHeartbeats 4000000 in
theorem rivals_any (S : Nat → Prop) (A : Option Addr) (n c : Nat) (l : List EvV) (k : Int) (w : World) (hn : l.length = n) (hr : ERds w S A l) (hl : n ≤ 900000) :
    Calls Try.prog 23 #[.slice A n c, .int .i64 k] w (RivPost (sets k l) w) := by
  have HN := Lib.hid hn
  clear hn
  go_enter Try.func23, Try.ntmps23
  go_wp2_with fail
  go_loopw [5, 10] (fun ov iv wr => ∃ (i : Nat) (Ao : Option Addr) (No co : Nat) (m : List EvV), iv = .int .i64 i ∧ i ≤ n ∧ ov = .slice Ao No co ∧ Hid (No = m.length ∧ m.length ≤ i ∧ m = sets k (l.take i)) ∧ RRow wr w.heap.size (.slice Ao No co) m ∧ Below w.heap.size w wr) (fun _ iv _ => n - (intOf iv).toNat)
  case atStart => exact ⟨0, none, 0, 0, [], rfl, by omega, rfl, Lib.hid (by simp [sets]), RRow.nil _ _, Below.refl _ _⟩
  case round =>
    obtain ⟨i, Ao, No, co, m, rfl, hi, rfl, HS, hO, hb⟩ := hrel
    by_cases hlt : i < n
    · have hlt' : i < l.length := by rw [HN.out]; exact hlt
      obtain ⟨ad, rfl, _, _, c0, c1, c2, c3, c4, c5, c6, c7, c8, c9, c10, c11, c12, c13⟩ := (hr.new hb).cells hlt'
      obtain ⟨x, hx⟩ : ∃ x, x = l[i] := ⟨_, rfl⟩
      rw [← hx] at c0 c1 c2 c3 c4 c5 c6 c7 c8 c9 c10 c11 c12 c13
      have HT := Lib.hid (sets_take (k := k) hlt')
      rw [← hx] at HT
      clear hx
      obtain ⟨F, M, Ax, cx⟩ := x
      simp only at c0 c1 c2 c3 c4 c5 c6 c7 c8 c9 c10 c11 c12 c13
      obtain ⟨q, hq⟩ : ∃ q, M.length = q := ⟨_, rfl⟩
      rw [hq] at c13
      obtain ⟨w1, hw1⟩ : ∃ W, wr.alloc (.cells (ecs F Ax q cx) 34) = W := ⟨_, rfl⟩
      have hb1 : Below wr.heap.size wr w1 := by rw [← hw1]; exact b_alloc _ _
      have hO1 := hO.new hb1
      have hb01 := below_new hb hb1
      have hs1 := hb01.size
      have HW1 := Lib.hid hw1
      have HQ := Lib.hid hq
      clear hq hw1
      by_cases h3 : F 3 = 2
      · have h3' : (F 3 == 2) = true := by simpa using h3
        by_cases h4 : F 4 = k
        · have h4' : (F 4 == k) = true := by simpa using h4
          have HY : Hid (sets k (l.take (i + 1)) = sets k (l.take i) ++ [⟨F, M, Ax, cx⟩]) := Lib.hid (by rw [HT.out, if_pos]; unfold isSet; simp [h3, h4])
          clear h3 h4
          have hz1 : w1.heap.size = wr.heap.size + 1 := by rw [← HW1.out]; simp
          have hlit := blo_ers ⟨F, M, Ax, cx⟩ (Blo.made w1 54 (EvV.cells ⟨F, M, Ax, cx⟩))
          simp only [EvV.cells, HQ.out] at hlit
          rw [hz1, ← HW1.out] at hlit
          have hO2 : RRow ((wr.alloc (.cells (ecs F Ax q cx) 34)).alloc (.cells (ecs F Ax q cx) 54)) w.heap.size (.slice Ao No co) m := by rw [HW1.out]; exact hO1.new (b_alloc _ _)
          have hmm : m.length ≤ 900000 := by have := HS.out.2.1; omega
          have hB2 : w.heap.size ≤ ((wr.alloc (.cells (ecs F Ax q cx) 34)).alloc (.cells (ecs F Ax q cx) 54)).heap.size := by rw [HW1.out]; simp; omega
          clear hz1 hO hO1
          go_wp2_with (at_builtin; refine wpList_rapp _ rfl _ _ rfl w.heap.size _ m rfl hO2 (fun _ => True) _ 1 1 [⟨F, M, Ax, cx⟩] rfl rfl hlit (by omega) hB2 ?_)
          intro v3 w3 hrow3 hg3 hv3
          have hb03 : Below w.heap.size w w3 := by
            have h1 := below_new hb01 (b_alloc w1 (.cells (ecs F Ax q cx) 54))
            rw [← HW1.out] at h1
            exact h1.grown hg3 h1.size (fun k hk => (hO2.lt k hk).1)
          obtain ⟨A3, c3', rfl, _⟩ := hrow3.form
          obtain ⟨N3, hN3⟩ : ∃ N, N = (m ++ [(⟨F, M, Ax, cx⟩ : EvV)]).length := ⟨_, rfl⟩
          rw [← hN3] at hrow3 ⊢
          have HS3 : Hid (N3 = (m ++ [(⟨F, M, Ax, cx⟩ : EvV)]).length ∧ (m ++ [(⟨F, M, Ax, cx⟩ : EvV)]).length ≤ i + 1 ∧ m ++ [(⟨F, M, Ax, cx⟩ : EvV)] = sets k (l.take (i + 1))) := Lib.hid ⟨hN3, by have := HS.out.2.1; simp; omega, by rw [HY.out, ← HS.out.2.2]⟩
          clear hN3 hg3 hv3 hlit hO2 hb01 hb hb1
          go_wp2
          go_roundw
          case rel => exact ⟨i + 1, A3, N3, c3', _, by go_num, by omega, rfl, HS3, hrow3, hb03⟩
          case measure => simp [intOf]; omega
        · have h4' : (F 4 == k) = false := by simpa using h4
          have HY : Hid (No = m.length ∧ m.length ≤ i + 1 ∧ m = sets k (l.take (i + 1))) := Lib.hid ⟨HS.out.1, by have := HS.out.2.1; omega, by rw [HT.out, if_neg (by unfold isSet; simp [h4]), List.append_nil]; exact HS.out.2.2⟩
          clear h3 h4 hO hb
          go_wp2
          go_roundw
          case rel => exact ⟨i + 1, Ao, No, co, m, by go_num, by omega, rfl, HY, by rw [HW1.out]; exact hO1, by rw [HW1.out]; exact hb01⟩
          case measure => simp [intOf]; omega
      · have h3' : (F 3 == 2) = false := by simpa using h3
        have HY : Hid (No = m.length ∧ m.length ≤ i + 1 ∧ m = sets k (l.take (i + 1))) := Lib.hid ⟨HS.out.1, by have := HS.out.2.1; omega, by rw [HT.out, if_neg (by unfold isSet; simp [h3]), List.append_nil]; exact HS.out.2.2⟩
        clear h3 hO hb
        go_wp2
        go_roundw
        case rel => exact ⟨i + 1, Ao, No, co, m, by go_num, by omega, rfl, HY, by rw [HW1.out]; exact hO1, by rw [HW1.out]; exact hb01⟩
        case measure => simp [intOf]; omega
    · have HE : Hid (No = (sets k l).length ∧ m = sets k l) := Lib.hid (by
        have h1 := HS.out
        rw [List.take_of_length_le (by rw [HN.out]; omega)] at h1
        exact ⟨by rw [h1.1, h1.2.2], h1.2.2⟩)
      go_wp2
      go_ret
      exact ⟨Ao, No, co, rfl, HE.out.1, by rw [← HE.out.2]; exact hO, hb⟩

set_option maxRecDepth 100000 in
set_option maxHeartbeats 2000000 in
/-- The comparison by what is later. -/
theorem by_any (w : World) : Calls Try.prog 25 #[.func (.func 26) #[] #[]] w fun e w' => e = .returned (cmpV w.heap.size) ∧ CmpAt w' w.heap.size ∧ Below w.heap.size w w' := by
  go_enter Try.func25, Try.ntmps25
  go_wp2
  go_ret
  exact ⟨rfl, Blo.made _ _ _, b_alloc _ _⟩
end Go.Proofs.Ytgjepgnbkfbodaa
